import Derived.Test.YtdghkacbpebcoaaGreatS06
namespace Go.Proofs.YtdghkacbpebcoaaGreat
open Go.RowKit
open Value renaming slice→J
open List renaming length→O
open Option renaming none→I
open World renaming heap→U
open _root_.Array renaming size→E
open Obj renaming cells→Ob
set_option linter.all false
set_option maxRecDepth 100000
set_option maxHeartbeats 0
theorem yh {z:Nat} (H:nh 3 z) (aa:mH 3 91 True 8 λx=>x=19):qk 3 (z+1):=by
 intro w s u v j t l ab h K;have aA:=h.l;have G:Hid (Bd (z+1) t j l 4):=K;clear K;go_enter Tryz.func94,Tryz.ntmps94
 have a:=Mz.start (wt:=3) h;go_wp2_with fail;go_loopg [3] (ml t j l) (λg B wr=>∃(c:List (List Value)) (b:Nat) (e m:Int),g=ml t b e/\dQ 0 c b e/\(e=0->(λC=>∀x∈C,x=19) (c.map az))/\Mz 3 w s u v t j l False (0) wr b e m [] [] B c)
 case atStart=>exact⟨[],j,l,ab,Q,⟨λ_=>by simp,sQ⟩,(λf=>(λx ac=>by cases ac)),(a.up (λx=>x.elim)).less oM⟩
 case round=>
  clear a;obtain⟨c,b,e,m,p,hF,q,a⟩:=hrel;have k:Hid (e=0->(λC=>∀x∈C,x=19) (c.map az)):=q;clear q;have o:=a.st.rd.lt;have F:(0:Int)<=(t.pos b:Int)/\(t.pos b:Int)<=7000:=oH (h.ar.aQ b);have y:Hid (gk=ml t b e):=p;clear p;obtain⟨L,M,rfl⟩:=a.shape
  cases n:(e==0)
  ·go_wp2_with fail;refine a.lf aW ?_;clear a;intro aB a;go_wp2_with fail;clear y n o F;go_loopg [3] (ml t b e) (λg B wr=>∃(c:List (List Value)) (b:Nat) (e m:Int),g=ml t b e/\dQ 0 c b e/\(e=0->lP (c.map az))/\Mz 3 w s u v t j l False (0) wr b e m [] [] B c)
   case atStart=>exact⟨c,b,e,m,Q,hF,(λf=>jD (k.out f)),(a.up (λx=>x.elim)).less oM⟩
   case round=>
    clear a;obtain⟨c,b,e,m,p,hF,q,a⟩:=hrel;have k:Hid (e=0->lP (c.map az)):=q;clear q;have o:=a.st.rd.lt;have F:(0:Int)<=(t.pos b:Int)/\(t.pos b:Int)<=7000:=oH (h.ar.aQ b);have y:Hid (gk=ml t b e):=p;clear p;obtain⟨ad,ae,rfl⟩:=a.shape
    cases n:(e==0)
    ·go_wp2_with fail;refine a.lf aW ?_;clear a;intro aC a;go_wp2_with fail;go_ret;exact Mz.post (d:=0) (a.up (g':=True) (λ_ f=>absurd f (sU n))) (λ_=>trivial) hF.2 (λf=>absurd f (sU n)) oM
    ·obtain rfl:e=0:=sU n;have i:Hid (j<=b/\l=0):=⟨a.le,a.ok Q⟩;replace k:Hid (lP (c.map az)):=k.out Q;have D:Hid (∀i' k',b<=i'->Bd z t i' k' 3):=λi' k' r=>G.out.down (lT a.le r) (λ_=>a.ok Q) dC;have A:O c<=6001:=oI (hF.1 Q) h.ar.bj;replace a:Mz 3 w s u v t b 0 False (16*((b:Int) - (j:Int))+(0)) wr b 0 m [] [] (J ad (O c) ae) c:=a.bP.less oM;go_wp2_with fail;refine a.lf aW ?_;clear a;intro aD a;go_wp2_with fail;refine a.nd (H · (D.out _ _ a.le)) ?_;clear a;intro af ag aE aF aG N _ a;go_wp2_with (at_builtin;refine a.ap (sz af) (lT A dC) ?_;clear a;intro aH aJ aK a)
     go_wp2_with fail;refine a.et (aU · _) ?_;clear a;intro aL aM aN aP a;go_wp2_with fail
     ·go_wp2_with fail;go_ret;exact Mz.post (d:=0) ((a.aE (i':=j) (k':=l) (g':=False) (s':= -8) i.out.1 (λ_=>i.out.2) (λx=>x.elim) oM).up (g':=True) (λ_ f=>Nat.lt_of_le_of_lt i.out.1 (a.go trivial f))) (λ_=>trivial) (by have r:=hF.1 rfl;have P:=h.ar.bj;simp only[List.length_append,List.length_cons,List.length_nil];omega) (λf=>by rw[List.map_append];exact kq k.out (N f)) oM
     ·go_wp2_with fail;refine a.wn (aI · _) ?_;clear a;intro aQ R S ah ai a;go_wp2_with fail;go_roundg (ml t R S)
      case measure=>rw[y.out];exact bN o a.le (a.go trivial)
      case rel=>exact⟨(c++[ag.t]),R,S,ah,Q,dQ.snoc (t:=t) hF Q o h.ar (a.go trivial),(λf=>by rw[List.map_append];exact kq k.out (N (ai.out f))),a.aE (s':=0) i.out.1 (λ_=>i.out.2) (λx=>x.elim) oM⟩
  ·obtain rfl:e=0:=sU n;have i:Hid (j<=b/\l=0):=⟨a.le,a.ok Q⟩;replace k:Hid ((λC=>∀x∈C,x=19) (c.map az)):=k.out Q;have D:Hid (∀i' k',b<=i'->Bd z t i' k' 3):=λi' k' r=>G.out.down (lT a.le r) (λ_=>a.ok Q) dC;have A:O c<=6001:=oI (hF.1 Q) h.ar.bj;replace a:Mz 3 w s u v t b 0 False (16*((b:Int) - (j:Int))+(0)) wr b 0 m [] [] (J L (O c) M) c:=a.bP.less oM;go_wp2_with fail;refine a.lf aW ?_;clear a;intro aR a
   cases aj:cj t b 0 0 4
   ·go_wp2_with fail;refine a.lf (bC · 0 dC 4) ?_;clear a;intro ak a;replace a:Mz 3 w s u v t j l False (0) ak b 0 m [] [] (J L (O c) M) c:=a.aE (i':=j) (k':=l) (g':=False) (s':=0) i.out.1 (λ_=>i.out.2) (λx=>x.elim) oM;go_wp2_with fail;clear y n o aj F D A i;go_loopg [3] (ml t b 0) (λg B wr=>∃(c:List (List Value)) (b:Nat) (e m:Int),g=ml t b e/\dQ 0 c b e/\(e=0->lP (c.map az))/\Mz 3 w s u v t j l False (0) wr b e m [] [] B c)
    case atStart=>exact⟨c,b,0,m,Q,hF,(λf=>jD k.out),(a.up (λx=>x.elim)).less oM⟩
    case round=>
     clear a;obtain⟨c,b,e,m,p,hF,q,a⟩:=hrel;have k:Hid (e=0->lP (c.map az)):=q;clear q;have o:=a.st.rd.lt;have F:(0:Int)<=(t.pos b:Int)/\(t.pos b:Int)<=7000:=oH (h.ar.aQ b);have y:Hid (gk=ml t b e):=p;clear p;obtain⟨al,ao,rfl⟩:=a.shape
     cases n:(e==0)
     ·go_wp2_with fail;refine a.lf aW ?_;clear a;intro aS a;go_wp2_with fail;go_ret;exact Mz.post (d:=0) (a.up (g':=True) (λ_ f=>absurd f (sU n))) (λ_=>trivial) hF.2 (λf=>absurd f (sU n)) oM
     ·obtain rfl:e=0:=sU n;have i:Hid (j<=b/\l=0):=⟨a.le,a.ok Q⟩;replace k:Hid (lP (c.map az)):=k.out Q;have D:Hid (∀i' k',b<=i'->Bd z t i' k' 3):=λi' k' r=>G.out.down (lT a.le r) (λ_=>a.ok Q) dC;have A:O c<=6001:=oI (hF.1 Q) h.ar.bj;replace a:Mz 3 w s u v t b 0 False (16*((b:Int) - (j:Int))+(0)) wr b 0 m [] [] (J al (O c) ao) c:=a.bP.less oM;go_wp2_with fail;refine a.lf aW ?_;clear a;intro aT a;go_wp2_with fail;refine a.nd (H · (D.out _ _ a.le)) ?_;clear a;intro ap aq aV aX aY T _ a;go_wp2_with (at_builtin;refine a.ap (sz ap) (lT A dC) ?_;clear a;intro aZ a0 a1 a)
      go_wp2_with fail;refine a.et (aU · _) ?_;clear a;intro a2 a3 a4 a5 a;go_wp2_with fail
      ·go_wp2_with fail;go_ret;exact Mz.post (d:=0) ((a.aE (i':=j) (k':=l) (g':=False) (s':= -8) i.out.1 (λ_=>i.out.2) (λx=>x.elim) oM).up (g':=True) (λ_ f=>Nat.lt_of_le_of_lt i.out.1 (a.go trivial f))) (λ_=>trivial) (by have r:=hF.1 rfl;have P:=h.ar.bj;simp only[List.length_append,List.length_cons,List.length_nil];omega) (λf=>by rw[List.map_append];exact kq k.out (T f)) oM
      ·go_wp2_with fail;refine a.wn (aI · _) ?_;clear a;intro a6 V W ar au a;go_wp2_with fail;go_roundg (ml t V W)
       case measure=>rw[y.out];exact bN o a.le (a.go trivial)
       case rel=>exact⟨(c++[aq.t]),V,W,ar,Q,dQ.snoc (t:=t) hF Q o h.ar (a.go trivial),(λf=>by rw[List.map_append];exact kq k.out (T (au.out f))),a.aE (s':=0) i.out.1 (λ_=>i.out.2) (λx=>x.elim) oM⟩
   ·go_wp2_with fail;refine a.lf (bC · 0 dC 4) ?_;clear a;intro a7 a;go_wp2_with fail;refine a.nd aa ?_;clear a;intro av aw a8 a9 a' X _ a;go_wp2_with (at_builtin;refine a.ap (sz av) (lT A dC) ?_;clear a;intro ba bb bc a)
    go_wp2_with fail;refine a.et (aU · _) ?_;clear a;intro bd bf bg bh a;go_wp2_with fail
    ·go_wp2_with fail;go_ret;exact Mz.post (d:=0) ((a.aE (i':=j) (k':=l) (g':=False) (s':= -8) i.out.1 (λ_=>i.out.2) (λx=>x.elim) oM).up (g':=True) (λ_ f=>Nat.lt_of_le_of_lt i.out.1 (a.go trivial f))) (λ_=>trivial) (by have r:=hF.1 rfl;have P:=h.ar.bj;simp only[List.length_append,List.length_cons,List.length_nil];omega) (λf=>jD ((λf=>by rw[List.map_append];exact aO k.out (X f)) f)) oM
    ·go_wp2_with fail;refine a.wn (aI · _) ?_;clear a;intro bi Y Z ax ay a;go_wp2_with fail;go_roundg (ml t Y Z)
     case measure=>rw[y.out];exact bN o a.le (a.go trivial)
     case rel=>exact⟨(c++[aw.t]),Y,Z,ax,Q,dQ.snoc (t:=t) hF Q o h.ar (a.go trivial),(λf=>by rw[List.map_append];exact aO k.out (X (ay.out f))),a.aE (s':=0) i.out.1 (λ_=>i.out.2) (λx=>x.elim) oM⟩
theorem vu:tD 105 True λ_=>True:=by
 intro w o p q l t r ad h;have af:=h.l;go_enter Tryz.func105,Tryz.ntmps105
 have a:=Mz.start (wt:=1) h;go_wp2_with fail;refine a.wn (aI · _) ?_;clear a;intro ag ah v P _ a;go_wp2_with fail;refine a.et (aU · _) ?_;clear a;intro ai R x aj a;go_wp2_with fail
 ·go_wp2_with fail;go_ret;exact Mz.post (d:=0) a (λ_=>trivial) sQ (λ_=>trivial) oM
 ·obtain rfl:R=false:= ‹_›;go_wp2_with fail;go_loopg [3] (ml t x v) (λg S wr=>∃(c:List (List Value)) (b:Nat) (f j:Int),g=ml t b f/\dQ 0 c b f/\(f=0->(λ_=>True) (c.map az))/\Mz 1 w o p q t l r False (-16) wr b f j [] [] S c)
  case atStart=>exact⟨[],x,v,P,Q,⟨λ_=>by simp,sQ⟩,(λk=>trivial),(a.up (λi=>i.elim)).less oM⟩
  case round=>
   clear a;obtain⟨c,b,f,j,y,hF,z,a⟩:=hrel;have A:Hid (f=0->(λ_=>True) (c.map az)):=z;clear z;have B:=a.st.rd.lt;have T:(0:Int)<=(t.pos b:Int)/\(t.pos b:Int)<=7000:=oH (h.ar.aQ b);have V:Hid (gk=ml t b f):=y;clear y;obtain⟨C,D,rfl⟩:=a.shape
   cases s:(f==0)
   ·go_wp2_with fail;refine a.lf aW ?_;clear a;intro ak a;go_wp2_with fail;go_ret;exact Mz.post (d:=0) (a.up (g':=True) (λ_ k=>absurd k (sU s))) (λ_=>trivial) hF.2 (λk=>absurd k (sU s)) oM
   ·obtain rfl:f=0:=sU s;have m:Hid (l<=b/\r=0):=⟨a.le,a.ok Q⟩;replace A:Hid ((λ_=>True) (c.map az)):=A.out Q;have W:O c<=6001:=oI (hF.1 Q) h.ar.bj;replace a:Mz 1 w o p q t b 0 False (16*((b:Int) - (l:Int))+(-16)) wr b 0 j [] [] (J C (O c) D) c:=a.bP.less oM;go_wp2_with fail;refine a.lf aW ?_;clear a;intro al a;go_wp2_with fail;refine a.lf (aF · 47) ?_;clear a;intro F a;go_wp2_with fail;refine(a.ne' (sz F) (nk 47 (t.pos b) nl)).et (aU · _) ?_;clear a;intro ao ap X aq a;have e:=a.f1;go_upto_if 15 with fail
    go_cut [] (λY=>∃(n:Int) (G:Nat) (H K:Int),Mz 1 w o p q t b 0 False (16*((b:Int) - (l:Int))+(-16)) Y G H K [(sz F,ae 47 (t.pos b) n 0 ⟨#[]⟩ nl)] [] (J C (O c) D) c)
    case first=>
     go_wp2_with fail
     ·go_wp2_with fail;refine(a.jV 1).et (aU · _) ?_;clear a e;intro ar au L av a;have e:=a.f1;go_wp2_with fail
      ·go_wp2_with fail;go_meet;exact⟨2,L,0,j,((a.jV 2).less oM)⟩
      ·go_wp2_with fail;go_meet;exact⟨1,L,0,j,(a.less oM)⟩
     ·go_wp2_with fail;go_meet;exact⟨0,X,0,j,(a.less oM)⟩
    case rest=>
     clear e a;obtain⟨n,G,H,K,a⟩:=hcut;obtain⟨aw,Z⟩:∃i,i=wc:=⟨_,Q⟩;subst Z;have e:=a.f1;go_wp2_with fail;refine a.nm cD ?_;clear a e;intro aa u ax ay aA ab aB aC a;have e:=a.f1;go_wp2_with (at_builtin;refine((a.gI u).lk 47 (t.pos b) n 0 u T (lT ab dC)).ap (sz aa) (lT W dC) ?_;clear a e;intro aD aE aG a;have e:=a.f1)
     go_wp2_with fail;refine a.et (aU · _) ?_;clear a e;intro aH aJ aK aL a;have e:=a.f1;go_wp2_with fail
     ·go_wp2_with fail;go_ret;exact Mz.post (d:=0) ((a.aE (i':=l) (k':=r) (g':=False) (s':= -31) m.out.1 (λ_=>m.out.2) (λi=>i.elim) oM).up (g':=True) (λ_ k=>Nat.lt_of_le_of_lt m.out.1 (a.go trivial k))) (λ_=>trivial) (by have aM:=hF.1 rfl;have aN:=h.ar.bj;simp only[List.length_append,List.length_cons,List.length_nil];omega) (λ_=>trivial) oM
     ·go_wp2_with fail;refine a.wn (aI · _) ?_;clear a e;intro aO M N ac aP a;have e:=a.f1;go_wp2_with fail;go_roundg (ml t M N)
      case measure=>rw[V.out];exact bN B a.pop.le (a.pop.go trivial)
      case rel=>exact⟨(c++[(ae 47 (t.pos b) n 0 u nl).toList]),M,N,ac,Q,dQ.snoc (t:=t) hF Q B h.ar (a.pop.go trivial),(λ_=>trivial),a.pop.aE (s':= -16) m.out.1 (λ_=>m.out.2) (λi=>i.elim) oM⟩
theorem xW {d:Nat} (o:eS 98 17 d) (p:eS 82 18 d):eS 82 18 (d+1):=by
 intro w x y z e c q A h i;have B:=h.l;have j:Hid (Bd (d+1) c e q 18):=i;clear i;have C:(0:Int)<=(c.pos e:Int)/\(c.pos e:Int)<=7000:=oH (h.ar.aQ e);go_enter Tryz.func82,Tryz.ntmps82
 have a:=Mz.start (wt:=1) h;go_wp2_with fail;replace a:=a.ne' (sz w) (aB);refine a.nd (o · (j.out.down a.le a.ok dC)) ?_;clear a;intro r s f D F G _ a;have b:=a.f1;have t:(0:Int)<=(c.pos f:Int)/\(c.pos f:Int)<=7000:=oH (h.ar.aQ f);go_wp2_with fail;refine(a.ne' (sz r) s.a).lf (aX · 0 dC _) ?_;clear a b;intro H a;have b:=a.f2;go_wp2_with fail
 ·have u:Hid (∀k l m,(l=0->e<k)->m<64->Bd d c k l m):=j.out.dh (a.ok (du h.ar a.st.rd.lt ‹_›).1) h.lt;go_wp2_with fail;refine a.lf (aF · 32) ?_;clear a b;intro v a;have b:=a.f2;go_wp2_with fail;refine(a.ne' (sz v) (nk 32 (c.pos f) nl)).wn (aI · _) ?_;clear a b;intro K L M N _ a;have b:=a.f3;go_wp2_with fail;go_region_law (replace a:=a.drew;go_simp;refine a.nd (p · (a.bd u.out dC)) ?_;clear a b;intro n P R S T V _ a;have b:=a.f3)
  all_goals
   go_wp2_with fail;go_light;refine(((a.swap).dT (sl (sz n) 2)).l2 (sz n) 32 (c.pos f) 0 0 ⟨#[]⟩ t).rt Tryz.results82 2 ?_;simp[aK,World.setCell_alloc_past,b,sL]
 ·go_wp2_with fail;go_light;exact a.rt Tryz.results82 1
theorem vT {m:Nat} (n:nh 3 m) (z:mH 3 91 True 8 λx=>x=19) {w:World} {rb o p i:Nat} {t:Tk} {k a:Int} (h:Rd w rb o p t i k a) (A:i+1<t.len) (q:Hid (∀i' k' r,(k'=0->i<i')->r<64->Bd m t i' k' r)) (T:bS t i k 0 ⟨#[38,38]⟩=false) (V:cj t (i+1) k 0 4=true):Calls Tryz.prog 93 #[.pointer (some ⟨rb,0,I⟩)] w (aZ 3 w rb o p t i k True 8 cx):=by
 have W:=h.l;have X:(t.pos i:Int)<=6000:=oH (h.ar.aQ i);have s:(0:Int)<=(t.pos i:Int)/\(t.pos i:Int)<=7000:=oH (h.ar.aQ i);have Y:(0:Int)<=(t.pos i:Int)+1/\(t.pos i:Int)+1<=7000:=oM;go_enter Tryz.func93,Tryz.ntmps93
 have Z:=dx;have aa:(i:Int)<(t.len:Int):=oH h.lt;have ab:(t.len:Int)<=6001:=oH h.ar.bj;have b:=Mz.start (wt:=3) h;go_wp2_with fail;refine(b.ne' (sz w) (aB)).lf (aF · 16) ?_;clear b;intro B b;have c:=b.f1;go_wp2_with fail;refine(b.ne' (sz B) (nk 16 (t.pos i) nl)).lf (aF · 16) ?_;clear b c;intro D b;have c:=b.f2;go_wp2_with fail;refine(b.ne' (sz D) (nk 16 (↑(t.pos i)+1) nl)).lf (aX · 0 dC _) ?_;clear b c;intro F b;have c:=b.f3;have G:=b.st.rd.r1;have H:=b.st.rd.fz 1;have K:=b.st.rd.l;go_wp2_with fail;refine((b.jB (j':=i+1) A (Nat.lt_succ_self _)).ne' (sz F) (aB)).lf (bC · 0 dC 4) ?_;clear b c G H K;intro ac b;have c:=b.f4;go_wp2_with fail;refine(z b.st.rd).mono ?_;rintro f ad ⟨ae,af,ag,ah,e,ai,aj,ak,al,ao,ap,rfl,u,v,L,M⟩;have y:=v.name;replace b:=b.pX u;clear u v L M;replace c:=b.f4;go_wp2_with fail;refine(b.gI e).et (aU · _) ?_;clear b c;intro aq ar au av b;have c:=b.f4;go_wp2_with fail
 ·go_wp2_with fail;replace b:=b.jV 1;refine b.nd (n · (b.bd q.out dC)) ?_;clear b c;intro j N aw ax ay P _ b;have c:=b.f4;go_wp2_with fail;go_light;refine Mz.cq (C:=cx) (d:=8) Tryz.results93 Q Q (((((b.yw e).yx 1).rI (sl ((sz j)+1) 1)).ne' (sz j) N.a).l1 ((sz j)+1) 16 (t.pos i) 1 0 e s y (λf=>Gr.fg ⟨.inr Q,_,Q,P f⟩)) 4 Q (λ_=>⟨by show(13:Int)<=16;decide,by show(16:Int)<=18;decide⟩) oM ?_;simp[aK,World.setCell_alloc_past,c,sL]
 ·go_wp2_with fail;refine b.nd (n · (b.bd q.out dC)) ?_;clear b c;intro l R az aA aC S _ b;have c:=b.f4;go_wp2_with fail;go_light;refine Mz.cq (C:=cx) (d:=8) Tryz.results93 Q Q (((((b.yw e).yx 0).rI (sl ((sz l)+1) 1)).ne' (sz l) R.a).l1 ((sz l)+1) 16 (t.pos i) 0 0 e s y (λf=>Gr.fg ⟨.inl Q,_,Q,S f⟩)) 4 Q (λ_=>⟨by show(13:Int)<=16;decide,by show(16:Int)<=18;decide⟩) oM ?_;simp[aK,World.setCell_alloc_past,c,sL]
end Go.Proofs.YtdghkacbpebcoaaGreat
