import Derived.Test.YtdghkacbpebcoaaGreatS02
namespace Go.Proofs.YtdghkacbpebcoaaGreat
open Go.RowKit
open Value renaming slice→J
open List renaming length→O
open Option renaming none→I
open World renaming heap→U
open _root_.Array renaming size→E
open Obj renaming cells→Ob
set_option linter.all false
set_option maxRecDepth 100000
set_option maxHeartbeats 0
section
variable{ks:List Int}
theorem kq {x:Int} (h:lP ks) (a:cx x):lP (ks++[x]):=by
 obtain⟨b,c,rfl,d,e⟩:=h;exact⟨b,c++[x],sQ,d,aO e a⟩
theorem jD (h:∀x∈ks,x=19):lP ks:=⟨ks,[],sQ,h,λx a=>by cases a⟩
theorem Lp.as {w:World} {base rb a b:Nat} {t:Tk} {i:Nat} {k:Int} {P c:List Int->Prop} {wr:World} {v:Value} {vs:VV} {j:Nat} {d e:Int} (h:Lp w base rb a b t i k P wr v vs j d e) (f:∀ks,P ks->c ks):Lp w base rb a b t i k c wr v vs j d e:=
 ⟨h.rd,h.kids,h.kp,h.hb,h.dB,h.le,h.ok,h.bj,h.gK,λl=>f _ (h.all l)⟩
end
def mR (lv:Bool) (ks:List Int):Prop:=∀x∈ks,(lv=true->x=19)/\(x=19\/x=18)
section
variable{a k:Int} {cap i rb tb:Nat} {t:Tk} {w:World}
theorem mQ (B:mH 1 91 True 8 λx=>x=19) (h:Rd w rb tb cap t i k a):Calls Tryz.prog 92 #[.pointer (some ⟨rb,0,I⟩),.bool true] w (iR 1 w rb tb cap t i k False 0 (mR true)):=by
 have R:=h.l;go_enter Tryz.func92,Tryz.ntmps92
 have b:=Mz.start (wt:=1) h;go_wp2_with fail;refine b.et (aU · _) ?_;clear b;intro S q r T b;go_wp2_with fail
 ·go_wp2_with fail;go_ret;exact Mz.post (d:=0) (b.up (g':=False) (λx=>x.elim)) (λx=>x.elim) sQ (λ_ x o=>by cases o) oM
 ·obtain rfl:q=true:=by have D:= ‹(!q)=false›;simpa using D
  go_wp2_with fail;go_loopg [5] (ml t r k) (λg F wr=>∃(e:List (List Value)) (c:Nat) (f p:Int),g=ml t c f/\dQ 0 e c f/\(f=0->(mR true) (e.map az))/\Mz 1 w rb tb cap t i k False (0) wr c f p [] [] F e)
  case atStart=>exact⟨[],r,k,a,Q,⟨λ_=>by simp,sQ⟩,(λj=>(λx o=>by cases o)),(b.up (λx=>x.elim)).less oM⟩
  case round=>
   clear b;obtain⟨e,c,f,p,s,hF,u,b⟩:=hrel;have l:Hid (f=0->(mR true) (e.map az)):=u;clear u;have v:=b.st.rd.lt;have V:(0:Int)<=(t.pos c:Int)/\(t.pos c:Int)<=7000:=oH (h.ar.aQ c);have G:Hid (gk=ml t c f):=s;clear s;obtain⟨H,K,rfl⟩:=b.shape
   cases y:(f==0)
   ·go_wp2_with fail;refine b.lf aW ?_;clear b;intro W b;go_wp2_with fail;go_ret;exact Mz.post (d:=0) b (λx=>x.elim) hF.2 (λj=>absurd j (sU y)) oM
   ·obtain rfl:f=0:=sU y;have m:Hid (i<=c/\k=0):=⟨b.le,b.ok Q⟩;replace l:Hid ((mR true) (e.map az)):=l.out Q;have L:O e<=6001:=oI (hF.1 Q) h.ar.bj;replace b:Mz 1 w rb tb cap t c 0 False (16*((c:Int) - (i:Int))+(0)) wr c 0 p [] [] (J H (O e) K) e:=b.bP.less oM;go_wp2_with fail;refine b.lf aW ?_;clear b;intro X b;go_wp2_with fail;refine b.nd B ?_;clear b;intro M N Y z P n _ b;go_wp2_with (at_builtin;refine b.ap (sz M) (lT L dC) ?_;clear b;intro Z aa ab b)
    go_wp2_with fail;refine b.et (aU · _) ?_;clear b;intro ac ad A ae b;go_wp2_with fail
    ·go_wp2_with fail;go_ret;exact Mz.post (d:=0) (b.aE (i':=i) (k':=k) (g':=False) (s':= -8) m.out.1 (λ_=>m.out.2) (λx=>x.elim) oM) (λx=>x.elim) (by have af:=hF.1 rfl;have ag:=h.ar.bj;simp only[List.length_append,List.length_cons,List.length_nil];omega) (λj=>by rw[List.map_append];exact aO (C:=λx=>(true=true->x=19)/\(x=19\/x=18)) l.out ⟨λ_=>n j,.inl (n j)⟩) oM
    ·go_wp2_with fail;go_roundg (ml t A z)
     case measure=>rw[G.out];exact bN v b.le (b.go trivial)
     case rel=>exact⟨(e++[N.t]),A,z,P,Q,dQ.snoc (t:=t) hF Q v h.ar (b.go trivial),(λj=>by rw[List.map_append];exact aO (C:=λx=>(true=true->x=19)/\(x=19\/x=18)) l.out ⟨λ_=>n j,.inl (n j)⟩),b.aE (s':=0) m.out.1 (λ_=>m.out.2) (λx=>x.elim) oM⟩
theorem lO (L:mH 1 91 True 8 λx=>x=19) (h:Rd w rb tb cap t i k a):Calls Tryz.prog 92 #[.pointer (some ⟨rb,0,I⟩),.bool false] w (iR 1 w rb tb cap t i k False 0 (mR false)):=by
 have af:=h.l;go_enter Tryz.func92,Tryz.ntmps92
 have b:=Mz.start (wt:=1) h;go_wp2_with fail;refine b.et (aU · _) ?_;clear b;intro ag u v ah b;go_wp2_with fail
 ·go_wp2_with fail;go_ret;exact Mz.post (d:=0) (b.up (g':=False) (λx=>x.elim)) (λx=>x.elim) sQ (λ_ x m=>by cases m) oM
 ·obtain rfl:u=true:=by have M:= ‹(!u)=false›;simpa using M
  go_wp2_with fail;go_loopg [5] (ml t v k) (λg N wr=>∃(f:List (List Value)) (c:Nat) (j r:Int),g=ml t c j/\dQ 0 f c j/\(j=0->(mR false) (f.map az))/\Mz 1 w rb tb cap t i k False (0) wr c j r [] [] N f)
  case atStart=>exact⟨[],v,k,a,Q,⟨λ_=>by simp,sQ⟩,(λe=>(λx m=>by cases m)),(b.up (λx=>x.elim)).less oM⟩
  case round=>
   clear b;obtain⟨f,c,j,r,y,hF,z,b⟩:=hrel;have n:Hid (j=0->(mR false) (f.map az)):=z;clear z;have o:=b.st.rd.lt;have P:(0:Int)<=(t.pos c:Int)/\(t.pos c:Int)<=7000:=oH (h.ar.aQ c);have A:Hid (gk=ml t c j):=y;clear y;obtain⟨R,S,rfl⟩:=b.shape
   cases B:(j==0)
   ·go_wp2_with fail;refine b.lf aW ?_;clear b;intro ai b;go_wp2_with fail;go_ret;exact Mz.post (d:=0) b (λx=>x.elim) hF.2 (λe=>absurd e (sU B)) oM
   ·obtain rfl:j=0:=sU B;have l:Hid (i<=c/\k=0):=⟨b.le,b.ok Q⟩;replace n:Hid ((mR false) (f.map az)):=n.out Q;have D:O f<=6001:=oI (hF.1 Q) h.ar.bj;replace b:Mz 1 w rb tb cap t c 0 False (16*((c:Int) - (i:Int))+(0)) wr c 0 r [] [] (J R (O f) S) f:=b.bP.less oM;go_wp2_with fail;refine b.lf aW ?_;clear b;intro aj b
    cases ak:cj t c 0 0 4
    ·go_wp2_with fail;refine b.lf (bC · 0 dC 4) ?_;clear b;intro al b;go_wp2_with fail;refine b.lf (aF · 18) ?_;clear b;intro T b;go_wp2_with fail;refine(b.ne' (sz T) (nk 18 (t.pos c) nl)).nm (jw · 2 dC dC) ?_;clear b;intro V s ao F W X Y _ b;have p:=b.f1;go_wp2_with (at_builtin;refine((b.gI s).lk 18 (t.pos c) 0 0 s P X (λe=>Gr.mE ⟨Y e,[],[],Q,(λ_ m=>by cases m),(λ_ m=>by cases m)⟩)).ap (sz V) (lT D dC) ?_;clear b p;intro ap aq ar b;have p:=b.f1)
     go_wp2_with fail;refine b.et (aU · _) ?_;clear b p;intro au av G aw b;have p:=b.f1;go_wp2_with fail
     ·go_wp2_with fail;go_ret;exact Mz.post (d:=0) (b.aE (i':=i) (k':=k) (g':=False) (s':= -15) l.out.1 (λ_=>l.out.2) (λx=>x.elim) oM) (λx=>x.elim) (by have Z:=hF.1 rfl;have aa:=h.ar.bj;simp only[List.length_append,List.length_cons,List.length_nil];omega) (λe=>by rw[List.map_append];exact aO (C:=λx=>(false=true->x=19)/\(x=19\/x=18)) n.out ⟨λh=>(by cases h),.inr Q⟩) oM
     ·go_wp2_with fail;go_roundg (ml t G F)
      case measure=>rw[A.out];exact bN o b.pop.le (b.pop.go trivial)
      case rel=>exact⟨(f++[(ae 18 (t.pos c) 0 0 s nl).toList]),G,F,W,Q,dQ.snoc (t:=t) hF Q o h.ar (b.pop.go trivial),(λe=>by rw[List.map_append];exact aO (C:=λx=>(false=true->x=19)/\(x=19\/x=18)) n.out ⟨λh=>(by cases h),.inr Q⟩),b.pop.aE (s':=0) l.out.1 (λ_=>l.out.2) (λx=>x.elim) oM⟩
    ·go_wp2_with fail;refine b.lf (bC · 0 dC 4) ?_;clear b;intro ax b;go_wp2_with fail;refine b.nd L ?_;clear b;intro ab ac ay H ad q _ b;go_wp2_with (at_builtin;refine b.ap (sz ab) (lT D dC) ?_;clear b;intro aA aB aC b)
     go_wp2_with fail;refine b.et (aU · _) ?_;clear b;intro aD aE K aG b;go_wp2_with fail
     ·go_wp2_with fail;go_ret;exact Mz.post (d:=0) (b.aE (i':=i) (k':=k) (g':=False) (s':= -8) l.out.1 (λ_=>l.out.2) (λx=>x.elim) oM) (λx=>x.elim) (by have Z:=hF.1 rfl;have aa:=h.ar.bj;simp only[List.length_append,List.length_cons,List.length_nil];omega) (λe=>by rw[List.map_append];exact aO (C:=λx=>(false=true->x=19)/\(x=19\/x=18)) n.out ⟨λ_=>q e,.inl (q e)⟩) oM
     ·go_wp2_with fail;go_roundg (ml t K H)
      case measure=>rw[A.out];exact bN o b.le (b.go trivial)
      case rel=>exact⟨(f++[ac.t]),K,H,ad,Q,dQ.snoc (t:=t) hF Q o h.ar (b.go trivial),(λe=>by rw[List.map_append];exact aO (C:=λx=>(false=true->x=19)/\(x=19\/x=18)) n.out ⟨λ_=>q e,.inl (q e)⟩),b.aE (s':=0) l.out.1 (λ_=>l.out.2) (λx=>x.elim) oM⟩
def ye:Prop:=∀{w:World} {rb tb cap i:Nat} {t:Tk} {k a:Int},Rd w rb tb cap t i k a->∀lv,Calls Tryz.prog 92 #[.pointer (some ⟨rb,0,I⟩),.bool lv] w (iR 1 w rb tb cap t i k False 0 (mR lv))
theorem vi (b:mH 1 91 True 8 λx=>x=19):ye:=by
 intro w rb tb cap i t k a h c
 cases c
 ·exact lO b h
 ·exact mQ b h
def xU:Prop:=∀{w:World} {rb tb cap i:Nat} {t:Tk} {k a:Int},Rd w rb tb cap t i k a->∀b:Bool,Calls Tryz.prog 73 #[.pointer (some ⟨rb,0,I⟩),.bool b] w (aZ 1 w rb tb cap t i k False (-1) (λx=>x=9))
end
theorem rP {c:Nat} {w:World} {rb e f i:Nat} {t:Tk} {k a:Int} (h:Rd w rb e f t i k a) (j:Bd (c+1) t i k 3) (m:bS t i k 0 ⟨#[105,110,116]⟩=true):Calls Tryz.prog 75 #[.pointer (some ⟨rb,0,I⟩)] w (aZ 3 w rb e f t i k True 8 cx):=by
 have p:=h.l;have q:Hid (Bd (c+1) t i k 3):=j;clear j;have n:(0:Int)<=(t.pos i:Int)/\(t.pos i:Int)<=7000:=oH (h.ar.aQ i);go_enter Tryz.func75,Tryz.ntmps75
 have r:=dx;have s:(i:Int)<(t.len:Int):=oH h.lt;have u:(t.len:Int)<=6001:=oH h.ar.bj;have b:=Mz.start (wt:=3) h;go_wp2_with fail;refine(b.ne' (sz w) (aB)).lf (aF · 0) ?_;clear b;intro o b;have l:=b.f1;go_wp2_with fail;refine(b.ne' (sz o) (nk 0 (t.pos i) nl)).ey (eH · _ m) ?_;clear b l;intro v b;have l:=b.f2;go_wp2_with fail;go_light;exact Mz.cq (C:=cx) (d:=8) Tryz.results75 Q Q ((b.fA 13).lk 13 (t.pos i) 0 0 ⟨#[]⟩ n dC (λ_=>Gr.free (.inr (.inl Q)))) 1 Q (λ_=>⟨by show(13:Int)<=13;decide,by show(13:Int)<=18;decide⟩) oM Q
theorem qG {e:Nat} (x:qk 3 e) {w:World} {rb m n i:Nat} {t:Tk} {k a:Int} (h:Rd w rb m n t i k a) (o:Bd (e+1) t i k 3) (y:bS t i k 0 ⟨#[105,110,116]⟩=false) (z:bS t i k 0 ⟨#[98,111,111,108]⟩=false) (A:bS t i k 0 ⟨#[40]⟩=false) (S:bS t i k 0 ⟨#[38]⟩=false) (T:bS t i k 0 ⟨#[38,38]⟩=false) (B:bS t i k 0 ⟨#[102,110]⟩=false):Calls Tryz.prog 75 #[.pointer (some ⟨rb,0,I⟩)] w (aZ 3 w rb m n t i k True 8 cx):=by
 have V:=h.l;have D:Hid (Bd (e+1) t i k 3):=o;clear o;have p:(0:Int)<=(t.pos i:Int)/\(t.pos i:Int)<=7000:=oH (h.ar.aQ i);go_enter Tryz.func75,Tryz.ntmps75
 have W:=dx;have X:(i:Int)<(t.len:Int):=oH h.lt;have Y:(t.len:Int)<=6001:=oH h.ar.bj;have b:=Mz.start (wt:=3) h;go_wp2_with fail;refine(b.ne' (sz w) (aB)).lf (aF · 0) ?_;clear b;intro F b;have c:=b.f1;go_wp2_with fail;refine(b.ne' (sz F) (nk 0 (t.pos i) nl)).lf (bw · _ y) ?_;clear b c;intro Z b;have c:=b.f2;go_wp2_with fail;refine b.lf (bw · _ z) ?_;clear b c;intro aa b;have c:=b.f2;go_wp2_with fail;refine b.lf (bw · _ A) ?_;clear b c;intro ab b;have c:=b.f2;go_wp2_with fail;refine b.lf (aX · 0 dC _) ?_;clear b c;intro ac b;have c:=b.f2;go_wp2_with fail;refine b.lf (aX · 0 dC _) ?_;clear b c;intro ad b;have c:=b.f2;go_wp2_with fail;refine b.lf (bw · _ B) ?_;clear b c;intro ae b;have c:=b.f2;go_wp2_with fail;refine(b.fA 18).nm (jw · 2 dC dC) ?_;clear b c;intro af j ag ah ai q r aj b;have c:=b.f2;go_wp2_with fail;refine(b.gI j).et (aU · _) ?_;clear b c;intro ak al ao G b;have c:=b.f2;go_wp2_with fail
 ·have H:Hid (∀s u v,(u=0->i<s)->v<64->Bd e t s u v):=D.out.dh (b.ok (G.yes ‹_›).2) h.lt;go_wp2_with fail;refine b.li (x · (b.bd H.out dC)) ?_;clear b c;intro ap K L M aq ar au N P R b;have c:=b.f2;go_wp2_with fail;go_light;exact Mz.cq (C:=cx) (d:=8) Tryz.results75 Q Q ((b.dT (J K (O M) L)).fo 18 (t.pos i) 0 0 j (lT N dC) p q (λf=>Gr.mE ⟨r (R.out f),P f⟩)) 1 Q (λ_=>⟨by show(13:Int)<=18;decide,by show(18:Int)<=18;decide⟩) oM Q
 ·go_wp2_with fail;go_light;exact Mz.cq (C:=cx) (d:=8) Tryz.results75 Q Q (b.lk 18 (t.pos i) 0 0 j p q (λf=>Gr.mE ⟨r f,[],[],Q,(λ_ l=>by cases l),(λ_ l=>by cases l)⟩)) 1 Q (λ_=>⟨by show(13:Int)<=18;decide,by show(18:Int)<=18;decide⟩) oM Q
theorem qF {e:Nat} (n:sF 3 e) {w:World} {rb f j i:Nat} {t:Tk} {k a:Int} (h:Rd w rb f j t i k a) (l:Bd (e+1) t i k 3) (o:bS t i k 0 ⟨#[105,110,116]⟩=false) (p:bS t i k 0 ⟨#[98,111,111,108]⟩=false) (q:bS t i k 0 ⟨#[40]⟩=false) (v:bS t i k 0 ⟨#[38]⟩=false) (m:bS t i k 0 ⟨#[38,38]⟩=true):Calls Tryz.prog 75 #[.pointer (some ⟨rb,0,I⟩)] w (aZ 3 w rb f j t i k True 8 cx):=by
 have x:=h.l;have r:Hid (Bd (e+1) t i k 3):=l;clear l;have y:(0:Int)<=(t.pos i:Int)/\(t.pos i:Int)<=7000:=oH (h.ar.aQ i);go_enter Tryz.func75,Tryz.ntmps75
 have z:=dx;have A:(i:Int)<(t.len:Int):=oH h.lt;have B:(t.len:Int)<=6001:=oH h.ar.bj;have b:=Mz.start (wt:=3) h;go_wp2_with fail;refine(b.ne' (sz w) (aB)).lf (aF · 0) ?_;clear b;intro s b;have c:=b.f1;go_wp2_with fail;refine(b.ne' (sz s) (nk 0 (t.pos i) nl)).lf (bw · _ o) ?_;clear b c;intro D b;have c:=b.f2;go_wp2_with fail;refine b.lf (bw · _ p) ?_;clear b c;intro F b;have c:=b.f2;go_wp2_with fail;refine b.lf (bw · _ q) ?_;clear b c;intro G b;have c:=b.f2;go_wp2_with fail;refine b.lf (aX · 0 dC _) ?_;clear b c;intro H b;have c:=b.f2;go_wp2_with fail;refine b.lf (aX · 0 dC _) ?_;clear b c;intro K b;have c:=b.f2;go_wp2_with fail;refine b.nd (n · (du h.ar h.lt m).1 (du h.ar h.lt m).2 (r.out.down b.le b.ok dC)) ?_;clear b c;intro L M N P R u S b;have c:=b.f2;go_wp2_with fail;go_light;exact Mz.cq (C:=cx) (d:=8) Tryz.results75 Q Q b 1 Q u oM Q
end Go.Proofs.YtdghkacbpebcoaaGreat
