import Derived.Test.YtcnnibahjmekdaaGreatS02
namespace Go.Proofs.YtcnnibahjmekdaaGreat
open Go.RowKit
open Value renaming slice→J
open List renaming length→O
open Option renaming none→I
open World renaming heap→U
open _root_.Array renaming size→E
open Obj renaming cells→Ob
set_option linter.all false
set_option maxRecDepth 100000
set_option maxHeartbeats 0
section
variable{a k:Int} {cap i rb tb:Nat} {t:Tk} {w:World}
theorem mT (B:mK 1 96 True 8 λx=>x=19) (h:Rd w rb tb cap t i k a):Calls Tryz.prog 97 #[.pointer (some ⟨rb,0,I⟩),.bool true] w (iS 1 w rb tb cap t i k False 0 (mU true)):=by
 have R:=h.l;go_enter Tryz.func97,Tryz.ntmps97
 have b:=Mz.start (wt:=1) h;go_wp2_with fail;refine b.et (aR · _) ?_;clear b;intro S q r T b;go_wp2_with fail
 ·go_wp2_with fail;go_ret;exact Mz.post (d:=0) (b.up (g':=False) (λx=>x.elim)) (λx=>x.elim) sQ (λ_ x o=>by cases o) oM
 ·obtain rfl:q=true:=by have D:= ‹(!q)=false›;simpa using D
  go_wp2_with fail;go_loopg [5] (ml t r k) (λg F wr=>∃(e:List (List Value)) (c:Nat) (f p:Int),g=ml t c f/\ez 0 e c f/\(f=0->(mU true) (e.map aA))/\Mz 1 w rb tb cap t i k False (0) wr c f p [] [] F e)
  case atStart=>exact⟨[],r,k,a,Q,⟨λ_=>by simp,sQ⟩,(λj=>(λx o=>by cases o)),(b.up (λx=>x.elim)).less oM⟩
  case round=>
   clear b;obtain⟨e,c,f,p,s,hF,u,b⟩:=hrel;have l:Hid (f=0->(mU true) (e.map aA)):=u;clear u;have v:=b.st.rd.lt;have V:(0:Int)<=(t.pos c:Int)/\(t.pos c:Int)<=7000:=oH (h.ar.aO c);have G:Hid (gk=ml t c f):=s;clear s;obtain⟨H,K,rfl⟩:=b.shape
   cases y:(f==0)
   ·go_wp2_with fail;refine b.lf aV ?_;clear b;intro W b;go_wp2_with fail;go_ret;exact Mz.post (d:=0) b (λx=>x.elim) hF.2 (λj=>absurd j (sU y)) oM
   ·obtain rfl:f=0:=sU y;have m:Hid (i<=c/\k=0):=⟨b.le,b.ok Q⟩;replace l:Hid ((mU true) (e.map aA)):=l.out Q;have L:O e<=6001:=oI (hF.1 Q) h.ar.bB;replace b:Mz 1 w rb tb cap t c 0 False (16*((c:Int) - (i:Int))+(0)) wr c 0 p [] [] (J H (O e) K) e:=b.bU.less oM;go_wp2_with fail;refine b.lf aV ?_;clear b;intro X b;go_wp2_with fail;refine b.nd B ?_;clear b;intro M N Y z P n _ b;go_wp2_with (at_builtin;refine b.ap (sz M) (lT L dC) ?_;clear b;intro Z aa ab b)
    go_wp2_with fail;refine b.et (aR · _) ?_;clear b;intro ac ad A ae b;go_wp2_with fail
    ·go_wp2_with fail;go_ret;exact Mz.post (d:=0) (b.aD (i':=i) (k':=k) (g':=False) (s':= -8) m.out.1 (λ_=>m.out.2) (λx=>x.elim) oM) (λx=>x.elim) (by have af:=hF.1 rfl;have ag:=h.ar.bB;simp only[List.length_append,List.length_cons,List.length_nil];omega) (λj=>by rw[List.map_append];exact aM (C:=λx=>(true=true->x=19)/\(x=19\/x=18)) l.out ⟨λ_=>n j,.inl (n j)⟩) oM
    ·go_wp2_with fail;go_roundg (ml t A z)
     case measure=>rw[G.out];exact bO v b.le (b.go trivial)
     case rel=>exact⟨(e++[N.t]),A,z,P,Q,ez.snoc (t:=t) hF Q v h.ar (b.go trivial),(λj=>by rw[List.map_append];exact aM (C:=λx=>(true=true->x=19)/\(x=19\/x=18)) l.out ⟨λ_=>n j,.inl (n j)⟩),b.aD (s':=0) m.out.1 (λ_=>m.out.2) (λx=>x.elim) oM⟩
theorem lP (L:mK 1 96 True 8 λx=>x=19) (h:Rd w rb tb cap t i k a):Calls Tryz.prog 97 #[.pointer (some ⟨rb,0,I⟩),.bool false] w (iS 1 w rb tb cap t i k False 0 (mU false)):=by
 have af:=h.l;go_enter Tryz.func97,Tryz.ntmps97
 have b:=Mz.start (wt:=1) h;go_wp2_with fail;refine b.et (aR · _) ?_;clear b;intro ag u v ah b;go_wp2_with fail
 ·go_wp2_with fail;go_ret;exact Mz.post (d:=0) (b.up (g':=False) (λx=>x.elim)) (λx=>x.elim) sQ (λ_ x m=>by cases m) oM
 ·obtain rfl:u=true:=by have M:= ‹(!u)=false›;simpa using M
  go_wp2_with fail;go_loopg [5] (ml t v k) (λg N wr=>∃(f:List (List Value)) (c:Nat) (j r:Int),g=ml t c j/\ez 0 f c j/\(j=0->(mU false) (f.map aA))/\Mz 1 w rb tb cap t i k False (0) wr c j r [] [] N f)
  case atStart=>exact⟨[],v,k,a,Q,⟨λ_=>by simp,sQ⟩,(λe=>(λx m=>by cases m)),(b.up (λx=>x.elim)).less oM⟩
  case round=>
   clear b;obtain⟨f,c,j,r,y,hF,z,b⟩:=hrel;have n:Hid (j=0->(mU false) (f.map aA)):=z;clear z;have o:=b.st.rd.lt;have P:(0:Int)<=(t.pos c:Int)/\(t.pos c:Int)<=7000:=oH (h.ar.aO c);have A:Hid (gk=ml t c j):=y;clear y;obtain⟨R,S,rfl⟩:=b.shape
   cases B:(j==0)
   ·go_wp2_with fail;refine b.lf aV ?_;clear b;intro ai b;go_wp2_with fail;go_ret;exact Mz.post (d:=0) b (λx=>x.elim) hF.2 (λe=>absurd e (sU B)) oM
   ·obtain rfl:j=0:=sU B;have l:Hid (i<=c/\k=0):=⟨b.le,b.ok Q⟩;replace n:Hid ((mU false) (f.map aA)):=n.out Q;have D:O f<=6001:=oI (hF.1 Q) h.ar.bB;replace b:Mz 1 w rb tb cap t c 0 False (16*((c:Int) - (i:Int))+(0)) wr c 0 r [] [] (J R (O f) S) f:=b.bU.less oM;go_wp2_with fail;refine b.lf aV ?_;clear b;intro aj b
    cases ak:cq t c 0 0 4
    ·go_wp2_with fail;refine b.lf (bH · 0 dC 4) ?_;clear b;intro al b;go_wp2_with fail;refine b.lf (aE · 18) ?_;clear b;intro T b;go_wp2_with fail;refine(b.ne' (sz T) (nk 18 (t.pos c) nl)).nm (jy · 2 dC dC) ?_;clear b;intro V s ao F W X Y _ b;have p:=b.f1;go_wp2_with (at_builtin;refine((b.gI s).lk 18 (t.pos c) 0 0 s P X (λe=>Gr.mH ⟨Y e,[],[],Q,(λ_ m=>by cases m),(λ_ m=>by cases m)⟩)).ap (sz V) (lT D dC) ?_;clear b p;intro ap aq ar b;have p:=b.f1)
     go_wp2_with fail;refine b.et (aR · _) ?_;clear b p;intro au av G aw b;have p:=b.f1;go_wp2_with fail
     ·go_wp2_with fail;go_ret;exact Mz.post (d:=0) (b.aD (i':=i) (k':=k) (g':=False) (s':= -15) l.out.1 (λ_=>l.out.2) (λx=>x.elim) oM) (λx=>x.elim) (by have Z:=hF.1 rfl;have aa:=h.ar.bB;simp only[List.length_append,List.length_cons,List.length_nil];omega) (λe=>by rw[List.map_append];exact aM (C:=λx=>(false=true->x=19)/\(x=19\/x=18)) n.out ⟨λh=>(by cases h),.inr Q⟩) oM
     ·go_wp2_with fail;go_roundg (ml t G F)
      case measure=>rw[A.out];exact bO o b.pop.le (b.pop.go trivial)
      case rel=>exact⟨(f++[(ae 18 (t.pos c) 0 0 s nl).toList]),G,F,W,Q,ez.snoc (t:=t) hF Q o h.ar (b.pop.go trivial),(λe=>by rw[List.map_append];exact aM (C:=λx=>(false=true->x=19)/\(x=19\/x=18)) n.out ⟨λh=>(by cases h),.inr Q⟩),b.pop.aD (s':=0) l.out.1 (λ_=>l.out.2) (λx=>x.elim) oM⟩
    ·go_wp2_with fail;refine b.lf (bH · 0 dC 4) ?_;clear b;intro ax b;go_wp2_with fail;refine b.nd L ?_;clear b;intro ab ac ay H ad q _ b;go_wp2_with (at_builtin;refine b.ap (sz ab) (lT D dC) ?_;clear b;intro az aB aC b)
     go_wp2_with fail;refine b.et (aR · _) ?_;clear b;intro aD aF K aG b;go_wp2_with fail
     ·go_wp2_with fail;go_ret;exact Mz.post (d:=0) (b.aD (i':=i) (k':=k) (g':=False) (s':= -8) l.out.1 (λ_=>l.out.2) (λx=>x.elim) oM) (λx=>x.elim) (by have Z:=hF.1 rfl;have aa:=h.ar.bB;simp only[List.length_append,List.length_cons,List.length_nil];omega) (λe=>by rw[List.map_append];exact aM (C:=λx=>(false=true->x=19)/\(x=19\/x=18)) n.out ⟨λ_=>q e,.inl (q e)⟩) oM
     ·go_wp2_with fail;go_roundg (ml t K H)
      case measure=>rw[A.out];exact bO o b.le (b.go trivial)
      case rel=>exact⟨(f++[ac.t]),K,H,ad,Q,ez.snoc (t:=t) hF Q o h.ar (b.go trivial),(λe=>by rw[List.map_append];exact aM (C:=λx=>(false=true->x=19)/\(x=19\/x=18)) n.out ⟨λ_=>q e,.inl (q e)⟩),b.aD (s':=0) l.out.1 (λ_=>l.out.2) (λx=>x.elim) oM⟩
def yG:Prop:=∀{w:World} {rb tb cap i:Nat} {t:Tk} {k a:Int},Rd w rb tb cap t i k a->∀lv,Calls Tryz.prog 97 #[.pointer (some ⟨rb,0,I⟩),.bool lv] w (iS 1 w rb tb cap t i k False 0 (mU lv))
theorem vF (b:mK 1 96 True 8 λx=>x=19):yG:=by
 intro w rb tb cap i t k a h c
 cases c
 ·exact lP b h
 ·exact mT b h
def yx:Prop:=∀{w:World} {rb tb cap i:Nat} {t:Tk} {k a:Int},Rd w rb tb cap t i k a->∀b:Bool,Calls Tryz.prog 79 #[.pointer (some ⟨rb,0,I⟩),.bool b] w (aY 1 w rb tb cap t i k False (-1) (λx=>x=9))
end
theorem vQ:tL 109 True λ_=>True:=by
 intro w o p q l t r ad h;have af:=h.l;go_enter Tryz.func109,Tryz.ntmps109
 have a:=Mz.start (wt:=1) h;go_wp2_with fail;refine a.wn (aH · _) ?_;clear a;intro ag ah v P _ a;go_wp2_with fail;refine a.et (aR · _) ?_;clear a;intro ai R x aj a;go_wp2_with fail
 ·go_wp2_with fail;go_ret;exact Mz.post (d:=0) a (λ_=>trivial) sQ (λ_=>trivial) oM
 ·obtain rfl:R=false:= ‹_›;go_wp2_with fail;go_loopg [3] (ml t x v) (λg S wr=>∃(c:List (List Value)) (b:Nat) (f j:Int),g=ml t b f/\ez 0 c b f/\(f=0->(λ_=>True) (c.map aA))/\Mz 1 w o p q t l r False (-16) wr b f j [] [] S c)
  case atStart=>exact⟨[],x,v,P,Q,⟨λ_=>by simp,sQ⟩,(λk=>trivial),(a.up (λi=>i.elim)).less oM⟩
  case round=>
   clear a;obtain⟨c,b,f,j,y,hF,z,a⟩:=hrel;have A:Hid (f=0->(λ_=>True) (c.map aA)):=z;clear z;have B:=a.st.rd.lt;have T:(0:Int)<=(t.pos b:Int)/\(t.pos b:Int)<=7000:=oH (h.ar.aO b);have V:Hid (gk=ml t b f):=y;clear y;obtain⟨C,D,rfl⟩:=a.shape
   cases s:(f==0)
   ·go_wp2_with fail;refine a.lf aV ?_;clear a;intro ak a;go_wp2_with fail;go_ret;exact Mz.post (d:=0) (a.up (g':=True) (λ_ k=>absurd k (sU s))) (λ_=>trivial) hF.2 (λk=>absurd k (sU s)) oM
   ·obtain rfl:f=0:=sU s;have m:Hid (l<=b/\r=0):=⟨a.le,a.ok Q⟩;replace A:Hid ((λ_=>True) (c.map aA)):=A.out Q;have W:O c<=6001:=oI (hF.1 Q) h.ar.bB;replace a:Mz 1 w o p q t b 0 False (16*((b:Int) - (l:Int))+(-16)) wr b 0 j [] [] (J C (O c) D) c:=a.bU.less oM;go_wp2_with fail;refine a.lf aV ?_;clear a;intro al a;go_wp2_with fail;refine a.lf (aE · 47) ?_;clear a;intro F a;go_wp2_with fail;refine(a.ne' (sz F) (nk 47 (t.pos b) nl)).et (aR · _) ?_;clear a;intro ao ap X aq a;have e:=a.f1;go_upto_if 15 with fail
    go_cut [] (λY=>∃(n:Int) (G:Nat) (H K:Int),Mz 1 w o p q t b 0 False (16*((b:Int) - (l:Int))+(-16)) Y G H K [(sz F,ae 47 (t.pos b) n 0 ⟨#[]⟩ nl)] [] (J C (O c) D) c)
    case first=>
     go_wp2_with fail
     ·go_wp2_with fail;refine(a.jW 1).et (aR · _) ?_;clear a e;intro ar au L av a;have e:=a.f1;go_wp2_with fail
      ·go_wp2_with fail;go_meet;exact⟨2,L,0,j,((a.jW 2).less oM)⟩
      ·go_wp2_with fail;go_meet;exact⟨1,L,0,j,(a.less oM)⟩
     ·go_wp2_with fail;go_meet;exact⟨0,X,0,j,(a.less oM)⟩
    case rest=>
     clear e a;obtain⟨n,G,H,K,a⟩:=hcut;obtain⟨aw,Z⟩:∃i,i=wc:=⟨_,Q⟩;subst Z;have e:=a.f1;go_wp2_with fail;refine a.nm cJ ?_;clear a e;intro aa u ax ay az ab aB aC a;have e:=a.f1;go_wp2_with (at_builtin;refine((a.gI u).lk 47 (t.pos b) n 0 u T (lT ab dC)).ap (sz aa) (lT W dC) ?_;clear a e;intro aD aF aG a;have e:=a.f1)
     go_wp2_with fail;refine a.et (aR · _) ?_;clear a e;intro aI aJ aK aL a;have e:=a.f1;go_wp2_with fail
     ·go_wp2_with fail;go_ret;exact Mz.post (d:=0) ((a.aD (i':=l) (k':=r) (g':=False) (s':= -31) m.out.1 (λ_=>m.out.2) (λi=>i.elim) oM).up (g':=True) (λ_ k=>Nat.lt_of_le_of_lt m.out.1 (a.go trivial k))) (λ_=>trivial) (by have aM:=hF.1 rfl;have aN:=h.ar.bB;simp only[List.length_append,List.length_cons,List.length_nil];omega) (λ_=>trivial) oM
     ·go_wp2_with fail;refine a.wn (aH · _) ?_;clear a e;intro aO M N ac aP a;have e:=a.f1;go_wp2_with fail;go_roundg (ml t M N)
      case measure=>rw[V.out];exact bO B a.pop.le (a.pop.go trivial)
      case rel=>exact⟨(c++[(ae 47 (t.pos b) n 0 u nl).toList]),M,N,ac,Q,ez.snoc (t:=t) hF Q B h.ar (a.pop.go trivial),(λ_=>trivial),a.pop.aD (s':= -16) m.out.1 (λ_=>m.out.2) (λi=>i.elim) oM⟩
theorem om (ah:mK 1 96 True 8 λx=>x=19) {w:World} {rb u v i:Nat} {t:Tk} {k a:Int} (h:Rd w rb u v t i k a):Calls Tryz.prog 79 #[.pointer (some ⟨rb,0,I⟩),.bool false] w (aY 1 w rb u v t i k False (-1) (λx=>x=9)):=by
 have hl:=h.l;have r:(0:Int)<=(t.pos i:Int)/\(t.pos i:Int)<=7000:=oH (h.ar.aO i);go_enter Tryz.func79,Tryz.ntmps79
 have aD:=dK;have b:=Mz.start (wt:=1) h;go_wp2_with fail;refine(b.ne' (sz w) (aB)).lf (aE · 9) ?_;clear b;intro K b;have c:=b.f1;go_wp2_with fail;refine(b.ne' (sz K) (nk 9 (t.pos i) nl)).et (aR · _) ?_;clear b c;intro aF L s ai b;have c:=b.f2;go_wp2_with fail
 ·go_wp2_with fail;go_light;exact Mz.cC (C:=λx=>x=9) (d:= -1) Tryz.results79 Q Q (b.lk 9 (t.pos i) 0 0 ⟨#[]⟩ r dC (λ_=>Gr.fw (λx m=>by cases m))) 1 Q (λ_=>rfl) oM Q
 ·obtain rfl:L=true:=by have aj:= ‹(!L)=false›;simpa using aj
  have ak:Hid (i<s):=by have:=(ai.yes Q).1;show i<s;omega
  go_wp2_with fail;go_loopg [6] (ml t s k) (λg al wr=>∃(y:Value) (f:List (List Value)) (z:Bool) (e:Nat) (o M:Int),g=ml t e o/\ez 0 f e o/\(al=.bool z/\(o=0->∀x∈f.map aA,x=10\/x=11))/\Mz 1 w rb u v t i k True (0) wr e o M [(sz K,nk 9 (t.pos i) y),(sz w,aB)] [] y f)
  case atStart=>exact⟨nl,[],false,s,k,a,Q,⟨λ_=>by simp,sQ⟩,⟨Q,λ_ x m=>by cases m⟩,((b.up (g':=True) (λ_ _=>ak.out)).less oM)⟩
  case round=>
   clear c b;obtain⟨y,f,z,e,o,M,N,hF,⟨rfl,p⟩,b⟩:=hrel;have q:=b.st.rd.lt;have A:(0:Int)<=(t.pos e:Int)/\(t.pos e:Int)<=7000:=oH (h.ar.aO e);have B:Hid (gk=ml t e o):=N;clear N;obtain⟨aG,aI,rfl⟩:=b.shape;have c:=b.f2
   cases P:(o==0)
   ·go_wp2_with fail;refine b.lf aV ?_;clear b c;intro aJ b;have c:=b.f2;go_wp2_with fail;go_light;exact Mz.cC (C:=λx=>x=9) (d:= -1) Tryz.results79 Q Q ((b.fk 9 (t.pos i) (lT hF.2 dC) r (λl=>absurd l (sU P))).up (g':=False) (λx=>x.elim)) 1 Q (λ_=>rfl) oM Q
   ·obtain rfl:o=0:=sU P;have j:Hid (i<=e/\k=0/\i<e):=⟨b.le,b.ok Q,b.go trivial Q⟩;replace p:Hid (∀x∈f.map aA,x=10\/x=11):=p Q;have n:O f<=6001:=oI (hF.1 Q) h.ar.bB;replace b:=b.bU;go_wp2_with fail;refine b.lf aV ?_;clear b c;intro aK b;have c:=b.f2;go_wp2_with fail;refine b.lf (aE · 10) ?_;clear b c;intro D b;have c:=b.f2
    cases aL:cq t e 0 0 4
    ·go_wp2_with fail;refine(b.ne' (sz D) (nk 10 (t.pos e) nl)).lf (bH · 0 dC 4) ?_;clear b c;intro aN b;have c:=b.f3;go_wp2_with fail;refine(b.fE 11).nm cJ ?_;clear b c;intro ao F aO aP aQ ap aS _ b;have c:=b.f3;go_wp2_with (at_builtin;refine((b.gI F).lk 11 (t.pos e) 0 0 F A (lT ap dC) (λ_=>Gr.jk (λx m=>by cases m))).ap (sz ao) (lT n dC) ?_;clear b c;intro aT R S b;have c:=b.f3)
     go_wp2_with fail;refine(b.iW (J R (O f+1) S)).et (aR · _) ?_;clear b c;intro aU aW aX aZ b;have c:=b.f3;go_wp2_with fail
     ·go_wp2_with fail;go_light;exact Mz.cC (C:=λx=>x=9) (d:= -1) Tryz.results79 Q Q ((b.fk 9 (t.pos i) (by have:=n;simp;omega) r (λl=>Gr.fw (hl:=by have:=n;simp;omega) ((λl=>by rw[List.map_append];exact aM p.out (.inr Q)) l))).aD (i':=i) (k':=k) (g':=False) (s':= -14) j.out.1 (λ_=>j.out.2.1) (λx=>x.elim) oM) 2 Q (λ_=>rfl) oM Q
     ·go_wp2_with fail;refine b.wn (aH · _) ?_;clear b c;intro a0 T V aq a1 b;have c:=b.f3;go_wp2_with fail;replace b:=b.pop;go_roundg (ml t T V)
      case measure=>rw[B.out];exact bO q b.le (b.go trivial)
      case rel=>exact⟨(J R (O f+1) S),(f++[(ae 11 (t.pos e) 0 0 F nl).toList]),true,T,V,aq,Q,ez.snoc (t:=t) hF Q q h.ar (b.go trivial),⟨Q,(λl=>by rw[List.map_append];exact aM p.out (.inr Q))⟩,b.aD (s':=0) (g':=True) j.out.1 (λ_=>j.out.2.1) (λ_ _=>j.out.2.2) oM⟩
    ·cases z
     ·go_wp2_with fail;refine(b.ne' (sz D) (nk 10 (t.pos e) nl)).lf (bH · 0 dC 4) ?_;clear b c;intro a2 b;have c:=b.f3;go_wp2_with fail;refine(ah b.st.rd).mono ?_;rintro l ar ⟨a3,a4,a5,a6,G,a7,a8,a9,a',ba,bb,rfl,W,X,au,av⟩;have aw:=X.name;replace b:=b.qi W;clear W X au av;replace c:=b.f3;go_wp2_with (at_builtin;refine((b.gI G).lk 10 (t.pos e) 0 0 G A aw (λ_=>Gr.nV (λx m=>by cases m))).ap (sz ar) (lT n dC) ?_;clear b c;intro bc Y Z b;have c:=b.f3)
      go_wp2_with fail;refine(b.iW (J Y (O f+1) Z)).et (aR · _) ?_;clear b c;intro bd bf bg bh b;have c:=b.f3;go_wp2_with fail
      ·go_wp2_with fail;go_light;exact Mz.cC (C:=λx=>x=9) (d:= -1) Tryz.results79 Q Q ((b.fk 9 (t.pos i) (by have:=n;simp;omega) r (λl=>Gr.fw (hl:=by have:=n;simp;omega) ((λl=>by rw[List.map_append];exact aM p.out (.inl Q)) l))).aD (i':=i) (k':=k) (g':=False) (s':= -14) j.out.1 (λ_=>j.out.2.1) (λx=>x.elim) oM) 2 Q (λ_=>rfl) oM Q
      ·go_wp2_with fail;refine b.wn (aH · _) ?_;clear b c;intro bi aa ab ax bj b;have c:=b.f3;go_wp2_with fail;replace b:=b.pop;go_roundg (ml t aa ab)
       case measure=>rw[B.out];exact bO q b.le (b.go trivial)
       case rel=>exact⟨(J Y (O f+1) Z),(f++[(ae 10 (t.pos e) 0 0 G nl).toList]),false,aa,ab,ax,Q,ez.snoc (t:=t) hF Q q h.ar (b.go trivial),⟨Q,(λl=>by rw[List.map_append];exact aM p.out (.inl Q))⟩,b.aD (s':=0) (g':=True) j.out.1 (λ_=>j.out.2.1) (λ_ _=>j.out.2.2) oM⟩
     ·go_wp2_with fail;refine(b.ne' (sz D) (nk 10 (t.pos e) nl)).lf (bH · 0 dC 4) ?_;clear b c;intro bk b;have c:=b.f3;go_wp2_with fail;refine(b.fE 11).nm cJ ?_;clear b c;intro ay H bl bm bn az bo _ b;have c:=b.f3;go_wp2_with (at_builtin;refine((b.gI H).lk 11 (t.pos e) 0 0 H A (lT az dC) (λ_=>Gr.jk (λx m=>by cases m))).ap (sz ay) (lT n dC) ?_;clear b c;intro bp ac ad b;have c:=b.f3)
      go_wp2_with fail;refine(b.iW (J ac (O f+1) ad)).et (aR · _) ?_;clear b c;intro bq br bs bt b;have c:=b.f3;go_wp2_with fail
      ·go_wp2_with fail;go_light;exact Mz.cC (C:=λx=>x=9) (d:= -1) Tryz.results79 Q Q ((b.fk 9 (t.pos i) (by have:=n;simp;omega) r (λl=>Gr.fw (hl:=by have:=n;simp;omega) ((λl=>by rw[List.map_append];exact aM p.out (.inr Q)) l))).aD (i':=i) (k':=k) (g':=False) (s':= -14) j.out.1 (λ_=>j.out.2.1) (λx=>x.elim) oM) 2 Q (λ_=>rfl) oM Q
      ·go_wp2_with fail;refine b.wn (aH · _) ?_;clear b c;intro bu af ag aC jA b;have c:=b.f3;go_wp2_with fail;replace b:=b.pop;go_roundg (ml t af ag)
       case measure=>rw[B.out];exact bO q b.le (b.go trivial)
       case rel=>exact⟨(J ac (O f+1) ad),(f++[(ae 11 (t.pos e) 0 0 H nl).toList]),true,af,ag,aC,Q,ez.snoc (t:=t) hF Q q h.ar (b.go trivial),⟨Q,(λl=>by rw[List.map_append];exact aM p.out (.inr Q))⟩,b.aD (s':=0) (g':=True) j.out.1 (λ_=>j.out.2.1) (λ_ _=>j.out.2.2) oM⟩
theorem pG (aK:mK 1 96 True 8 λx=>x=19) (y:yG) {w:World} {rb z A i:Nat} {t:Tk} {k a:Int} (h:Rd w rb z A t i k a):Calls Tryz.prog 79 #[.pointer (some ⟨rb,0,I⟩),.bool true] w (aY 1 w rb z A t i k False (-1) (λx=>x=9)):=by
 have hl:=h.l;have u:(0:Int)<=(t.pos i:Int)/\(t.pos i:Int)<=7000:=oH (h.ar.aO i);go_enter Tryz.func79,Tryz.ntmps79
 have bg:=dK;have b:=Mz.start (wt:=1) h;go_wp2_with fail;refine(b.ne' (sz w) (aB)).lf (aE · 9) ?_;clear b;intro W b;have c:=b.f1;go_wp2_with fail;refine(b.ne' (sz W) (nk 9 (t.pos i) nl)).et (aR · _) ?_;clear b c;intro bh X v aL b;have c:=b.f2;go_wp2_with fail
 ·go_wp2_with fail;go_light;exact Mz.cC (C:=λx=>x=9) (d:= -1) Tryz.results79 Q Q (b.lk 9 (t.pos i) 0 0 ⟨#[]⟩ u dC (λ_=>Gr.fw (λx o=>by cases o))) 1 Q (λ_=>rfl) oM Q
 ·obtain rfl:X=true:=by have aN:= ‹(!X)=false›;simpa using aN
  have aO:Hid (i<v):=by have:=(aL.yes Q).1;show i<v;omega
  go_wp2_with fail;go_loopg [6] (ml t v k) (λg aP wr=>∃(B:Value) (j:List (List Value)) (D:Bool) (f:Nat) (q Y:Int),g=ml t f q/\ez 0 j f q/\(aP=.bool D/\(q=0->∀x∈j.map aA,x=10\/x=11))/\Mz 1 w rb z A t i k True (0) wr f q Y [(sz W,nk 9 (t.pos i) B),(sz w,aB)] [] B j)
  case atStart=>exact⟨nl,[],false,v,k,a,Q,⟨λ_=>by simp,sQ⟩,⟨Q,λ_ x o=>by cases o⟩,((b.up (g':=True) (λ_ _=>aO.out)).less oM)⟩
  case round=>
   clear c b;obtain⟨B,j,D,f,q,Y,Z,hF,⟨rfl,r⟩,b⟩:=hrel;have s:=b.st.rd.lt;have F:(0:Int)<=(t.pos f:Int)/\(t.pos f:Int)<=7000:=oH (h.ar.aO f);have G:Hid (gk=ml t f q):=Z;clear Z;obtain⟨bi,bj,rfl⟩:=b.shape;have c:=b.f2
   cases aa:(q==0)
   ·go_wp2_with fail;refine b.lf aV ?_;clear b c;intro bk b;have c:=b.f2;go_wp2_with fail;go_light;exact Mz.cC (C:=λx=>x=9) (d:= -1) Tryz.results79 Q Q ((b.fk 9 (t.pos i) (lT hF.2 dC) u (λe=>absurd e (sU aa))).up (g':=False) (λx=>x.elim)) 1 Q (λ_=>rfl) oM Q
   ·obtain rfl:q=0:=sU aa;have l:Hid (i<=f/\k=0/\i<f):=⟨b.le,b.ok Q,b.go trivial Q⟩;replace r:Hid (∀x∈j.map aA,x=10\/x=11):=r Q;have p:O j<=6001:=oI (hF.1 Q) h.ar.bB;replace b:=b.bU;go_wp2_with fail;refine b.lf aV ?_;clear b c;intro bl b;have c:=b.f2;go_wp2_with fail;refine b.lf (aE · 10) ?_;clear b c;intro H b;have c:=b.f2
    cases bm:cq t f 0 0 4
    ·go_wp2_with fail;refine(b.ne' (sz H) (nk 10 (t.pos f) nl)).lf (bH · 0 dC 4) ?_;clear b c;intro bn b;have c:=b.f3;go_wp2_with fail;refine(b.fE 11).nm cJ ?_;clear b c;intro bo K bp aQ bq aS br _ b;have c:=b.f3;go_wp2_with fail;refine(y (b.gI K).st.rd _).mono ?_;rintro e aT ⟨ab,ac,ad,bs,aU,bt,rfl,L,M,aW,aX,af⟩;have bu:Hid (aU=0->aQ=0):=L.ok;replace b:=(b.gI K).pC L (M.node (lT aW dC) (lT aS dC) F (kind:=11) (n:=0) (m:=0) (λe=>Gr.jk (λx o=>(aX e x o).2))) M af;clear L M af;replace c:=b.f3;go_wp2_with (at_builtin;refine(b.ek (J ab (O ad) ac)).ap (sz aT) (lT p dC) ?_;clear b c;intro bv ag ah b;have c:=b.f3)
     go_wp2_with fail;refine(b.iW (J ag (O j+1) ah)).et (aR · _) ?_;clear b c;intro bw bx bz bA b;have c:=b.f3;go_wp2_with fail
     ·go_wp2_with fail;go_light;exact Mz.cC (C:=λx=>x=9) (d:= -1) Tryz.results79 Q Q ((b.fk 9 (t.pos i) (by have:=p;simp;omega) u (λe=>Gr.fw (hl:=by have:=p;simp;omega) ((λe=>by rw[List.map_append];exact aM r.out (.inr Q)) e))).aD (i':=i) (k':=k) (g':=False) (s':= -14) l.out.1 (λ_=>l.out.2.1) (λx=>x.elim) oM) 2 Q (λ_=>rfl) oM Q
     ·go_wp2_with fail;refine b.wn (aH · _) ?_;clear b c;intro bB ai aj aZ bC b;have c:=b.f3;go_wp2_with fail;replace b:=b.pop;go_roundg (ml t ai aj)
      case measure=>rw[G.out];exact bO s b.le (b.go trivial)
      case rel=>exact⟨(J ag (O j+1) ah),(j++[(ae 11 (t.pos f) 0 0 K (J ab (O ad) ac)).toList]),true,ai,aj,aZ,Q,ez.snoc (t:=t) hF Q s h.ar (b.go trivial),⟨Q,(λe=>by rw[List.map_append];exact aM r.out (.inr Q))⟩,b.aD (s':=0) (g':=True) l.out.1 (λ_=>l.out.2.1) (λ_ _=>l.out.2.2) oM⟩
    ·cases D
     ·go_wp2_with fail;refine(b.ne' (sz H) (nk 10 (t.pos f) nl)).lf (bH · 0 dC 4) ?_;clear b c;intro bD b;have c:=b.f3;go_wp2_with fail;refine(aK b.st.rd).mono ?_;rintro e bE ⟨bF,bG,bI,bJ,N,bK,bL,bM,bN,a0,bP,rfl,ak,al,a1,a2⟩;have a3:=al.name;replace b:=b.qi ak;clear ak al a1 a2;replace c:=b.f3;go_wp2_with fail;refine(y (b.gI N).st.rd _).mono ?_;rintro e a4 ⟨ao,ap,aq,bQ,a5,bR,rfl,P,R,a6,a7,ar⟩;have bS:Hid (a5=0->a0=0):=P.ok;replace b:=(b.gI N).pC P (R.node (lT a6 dC) a3 F (kind:=10) (n:=0) (m:=0) (λe=>Gr.nV (λx o=>(a7 e x o).1 Q))) R ar;clear P R ar;replace c:=b.f3;go_wp2_with (at_builtin;refine(b.ek (J ao (O aq) ap)).ap (sz a4) (lT p dC) ?_;clear b c;intro bT au av b;have c:=b.f3)
      go_wp2_with fail;refine(b.iW (J au (O j+1) av)).et (aR · _) ?_;clear b c;intro bU bV bW bX b;have c:=b.f3;go_wp2_with fail
      ·go_wp2_with fail;go_light;exact Mz.cC (C:=λx=>x=9) (d:= -1) Tryz.results79 Q Q ((b.fk 9 (t.pos i) (by have:=p;simp;omega) u (λe=>Gr.fw (hl:=by have:=p;simp;omega) ((λe=>by rw[List.map_append];exact aM r.out (.inl Q)) e))).aD (i':=i) (k':=k) (g':=False) (s':= -14) l.out.1 (λ_=>l.out.2.1) (λx=>x.elim) oM) 2 Q (λ_=>rfl) oM Q
      ·go_wp2_with fail;refine b.wn (aH · _) ?_;clear b c;intro bY aw ax a8 bZ b;have c:=b.f3;go_wp2_with fail;replace b:=b.pop;go_roundg (ml t aw ax)
       case measure=>rw[G.out];exact bO s b.le (b.go trivial)
       case rel=>exact⟨(J au (O j+1) av),(j++[(ae 10 (t.pos f) 0 0 N (J ao (O aq) ap)).toList]),false,aw,ax,a8,Q,ez.snoc (t:=t) hF Q s h.ar (b.go trivial),⟨Q,(λe=>by rw[List.map_append];exact aM r.out (.inl Q))⟩,b.aD (s':=0) (g':=True) l.out.1 (λ_=>l.out.2.1) (λ_ _=>l.out.2.2) oM⟩
     ·go_wp2_with fail;refine(b.ne' (sz H) (nk 10 (t.pos f) nl)).lf (bH · 0 dC 4) ?_;clear b c;intro b0 b;have c:=b.f3;go_wp2_with fail;refine(b.fE 11).nm cJ ?_;clear b c;intro b1 S b2 a9 b3 a' b4 _ b;have c:=b.f3;go_wp2_with fail;refine(y (b.gI S).st.rd _).mono ?_;rintro e ba ⟨ay,az,aC,b5,bb,b6,rfl,T,V,bc,bd,aD⟩;have jA:Hid (bb=0->a9=0):=T.ok;replace b:=(b.gI S).pC T (V.node (lT bc dC) (lT a' dC) F (kind:=11) (n:=0) (m:=0) (λe=>Gr.jk (λx o=>(bd e x o).2))) V aD;clear T V aD;replace c:=b.f3;go_wp2_with (at_builtin;refine(b.ek (J ay (O aC) az)).ap (sz ba) (lT p dC) ?_;clear b c;intro b7 aF aG b;have c:=b.f3)
      go_wp2_with fail;refine(b.iW (J aF (O j+1) aG)).et (aR · _) ?_;clear b c;intro b8 b9 b' ca b;have c:=b.f3;go_wp2_with fail
      ·go_wp2_with fail;go_light;exact Mz.cC (C:=λx=>x=9) (d:= -1) Tryz.results79 Q Q ((b.fk 9 (t.pos i) (by have:=p;simp;omega) u (λe=>Gr.fw (hl:=by have:=p;simp;omega) ((λe=>by rw[List.map_append];exact aM r.out (.inr Q)) e))).aD (i':=i) (k':=k) (g':=False) (s':= -14) l.out.1 (λ_=>l.out.2.1) (λx=>x.elim) oM) 2 Q (λ_=>rfl) oM Q
      ·go_wp2_with fail;refine b.wn (aH · _) ?_;clear b c;intro cb aI aJ bf cc b;have c:=b.f3;go_wp2_with fail;replace b:=b.pop;go_roundg (ml t aI aJ)
       case measure=>rw[G.out];exact bO s b.le (b.go trivial)
       case rel=>exact⟨(J aF (O j+1) aG),(j++[(ae 11 (t.pos f) 0 0 S (J ay (O aC) az)).toList]),true,aI,aJ,bf,Q,ez.snoc (t:=t) hF Q s h.ar (b.go trivial),⟨Q,(λe=>by rw[List.map_append];exact aM r.out (.inr Q))⟩,b.aD (s':=0) (g':=True) l.out.1 (λ_=>l.out.2.1) (λ_ _=>l.out.2.2) oM⟩
theorem jP:mK 3 96 True 8 λi=>i=19:=by
 intro w r s t b c o u h;have v:=h.l;have k:(0:Int)<=(c.pos b:Int)/\(c.pos b:Int)<=7000:=oH (h.ar.aO b);go_enter Tryz.func96,Tryz.ntmps96
 have x:=cE;have y:(b:Int)<(c.len:Int):=oH h.lt;have z:(c.len:Int)<=6001:=oH h.ar.bB;have a:=Mz.start (wt:=3) h;go_wp2_with fail;refine(a.ne' (sz w) (aB)).lf (aE · 19) ?_;clear a;intro l a;have e:=a.f1
 cases p:cq c b o 0 4
 ·go_wp2_with fail;refine(a.ne' (sz l) (nk 19 (c.pos b) nl)).lf (bH · 0 dC 4) ?_;clear a e;intro A a;have e:=a.f2;go_wp2_with fail;refine(ir a.st.rd).mono ?_;rintro f B ⟨rfl,⟨D,F,j,m⟩,n⟩;replace a:=((a.rk m n (lR _) (λf=>absurd f j)).up (g':=True) (λ_ f=>absurd f j)).dead (s':=(-100)) j;clear m n;replace e:=a.f2;go_wp2_with fail;go_light;exact Mz.cC (C:=λi=>i=19) (d:=8) Tryz.results96 Q Q (a.lk 19 (c.pos b) 0 0 ⟨#[]⟩ k dC (λf=>absurd f j)) 1 Q (λ_=>rfl) oM Q
 ·go_wp2_with fail;refine(a.ne' (sz l) (nk 19 (c.pos b) nl)).lf (bH · 0 dC 4) ?_;clear a e;intro G a;have e:=a.f2;have q:b+1<c.len:=(ij h.ar h.lt dC p).2.1;go_wp2_with fail;refine a.lf dP ?_;clear a e;intro H a;have e:=a.f2;have K:=a.st.rd.r1;have L:=a.st.rd.fz 1;have M:=a.st.rd.l;go_wp2_with fail;go_light;exact Mz.cC (C:=λi=>i=19) (d:=8) Tryz.results96 Q Q (((a.gI (c.text b)).jE (j':=b+1) q (Nat.lt_succ_self _)).lk 19 (c.pos b) 0 0 (c.text b) k (lT (h.ar.pQ b) dC) (λ_=>Gr.free (.inr (.inr (.inr Q))))) 1 Q (λ_=>rfl) oM Q
end Go.Proofs.YtcnnibahjmekdaaGreat
