import Derived.Test.YtdghkacbpebcoaaGreatS06
namespace Go.Proofs.YtdghkacbpebcoaaGreat
open Go.RowKit
open Value renaming slice→J
open List renaming length→O
open Option renaming none→I
open World renaming heap→U
open _root_.Array renaming size→E
open Obj renaming cells→Ob
set_option linter.all false
set_option maxRecDepth 100000
set_option maxHeartbeats 0
theorem pw (aK:mH 1 91 True 8 λx=>x=19) (y:ye) {w:World} {rb z A i:Nat} {t:Tk} {k a:Int} (h:Rd w rb z A t i k a):Calls Tryz.prog 73 #[.pointer (some ⟨rb,0,I⟩),.bool true] w (aZ 1 w rb z A t i k False (-1) (λx=>x=9)):=by
 have hl:=h.l;have u:(0:Int)<=(t.pos i:Int)/\(t.pos i:Int)<=7000:=oH (h.ar.aQ i);go_enter Tryz.func73,Tryz.ntmps73
 have bg:=dx;have b:=Mz.start (wt:=1) h;go_wp2_with fail;refine(b.ne' (sz w) (aB)).lf (aF · 9) ?_;clear b;intro W b;have c:=b.f1;go_wp2_with fail;refine(b.ne' (sz W) (nk 9 (t.pos i) nl)).et (aU · _) ?_;clear b c;intro bh X v aL b;have c:=b.f2;go_wp2_with fail
 ·go_wp2_with fail;go_light;exact Mz.cq (C:=λx=>x=9) (d:= -1) Tryz.results73 Q Q (b.lk 9 (t.pos i) 0 0 ⟨#[]⟩ u dC (λ_=>Gr.ft (λx o=>by cases o))) 1 Q (λ_=>rfl) oM Q
 ·obtain rfl:X=true:=by have aM:= ‹(!X)=false›;simpa using aM
  have aN:Hid (i<v):=by have:=(aL.yes Q).1;show i<v;omega
  go_wp2_with fail;go_loopg [6] (ml t v k) (λg aP wr=>∃(B:Value) (j:List (List Value)) (D:Bool) (f:Nat) (q Y:Int),g=ml t f q/\dQ 0 j f q/\(aP=.bool D/\(q=0->∀x∈j.map az,x=10\/x=11))/\Mz 1 w rb z A t i k True (0) wr f q Y [(sz W,nk 9 (t.pos i) B),(sz w,aB)] [] B j)
  case atStart=>exact⟨nl,[],false,v,k,a,Q,⟨λ_=>by simp,sQ⟩,⟨Q,λ_ x o=>by cases o⟩,((b.up (g':=True) (λ_ _=>aN.out)).less oM)⟩
  case round=>
   clear c b;obtain⟨B,j,D,f,q,Y,Z,hF,⟨rfl,r⟩,b⟩:=hrel;have s:=b.st.rd.lt;have F:(0:Int)<=(t.pos f:Int)/\(t.pos f:Int)<=7000:=oH (h.ar.aQ f);have G:Hid (gk=ml t f q):=Z;clear Z;obtain⟨bi,bj,rfl⟩:=b.shape;have c:=b.f2
   cases aa:(q==0)
   ·go_wp2_with fail;refine b.lf aW ?_;clear b c;intro bk b;have c:=b.f2;go_wp2_with fail;go_light;exact Mz.cq (C:=λx=>x=9) (d:= -1) Tryz.results73 Q Q ((b.fk 9 (t.pos i) (lT hF.2 dC) u (λe=>absurd e (sU aa))).up (g':=False) (λx=>x.elim)) 1 Q (λ_=>rfl) oM Q
   ·obtain rfl:q=0:=sU aa;have l:Hid (i<=f/\k=0/\i<f):=⟨b.le,b.ok Q,b.go trivial Q⟩;replace r:Hid (∀x∈j.map az,x=10\/x=11):=r Q;have p:O j<=6001:=oI (hF.1 Q) h.ar.bj;replace b:=b.bP;go_wp2_with fail;refine b.lf aW ?_;clear b c;intro bl b;have c:=b.f2;go_wp2_with fail;refine b.lf (aF · 10) ?_;clear b c;intro H b;have c:=b.f2
    cases bm:cj t f 0 0 4
    ·go_wp2_with fail;refine(b.ne' (sz H) (nk 10 (t.pos f) nl)).lf (bC · 0 dC 4) ?_;clear b c;intro bn b;have c:=b.f3;go_wp2_with fail;refine(b.fA 11).nm cD ?_;clear b c;intro bo K bp aQ bq aR br _ b;have c:=b.f3;go_wp2_with fail;refine(y (b.gI K).st.rd _).mono ?_;rintro e aS ⟨ab,ac,ad,bs,aT,bt,rfl,L,M,aV,aX,af⟩;have bu:Hid (aT=0->aQ=0):=L.ok;replace b:=(b.gI K).pk L (M.node (lT aV dC) (lT aR dC) F (kind:=11) (n:=0) (m:=0) (λe=>Gr.jj (λx o=>(aX e x o).2))) M af;clear L M af;replace c:=b.f3;go_wp2_with (at_builtin;refine(b.dT (J ab (O ad) ac)).ap (sz aS) (lT p dC) ?_;clear b c;intro bv ag ah b;have c:=b.f3)
     go_wp2_with fail;refine(b.iU (J ag (O j+1) ah)).et (aU · _) ?_;clear b c;intro bw bx bz bA b;have c:=b.f3;go_wp2_with fail
     ·go_wp2_with fail;go_light;exact Mz.cq (C:=λx=>x=9) (d:= -1) Tryz.results73 Q Q ((b.fk 9 (t.pos i) (by have:=p;simp;omega) u (λe=>Gr.ft (hl:=by have:=p;simp;omega) ((λe=>by rw[List.map_append];exact aO r.out (.inr Q)) e))).aE (i':=i) (k':=k) (g':=False) (s':= -14) l.out.1 (λ_=>l.out.2.1) (λx=>x.elim) oM) 2 Q (λ_=>rfl) oM Q
     ·go_wp2_with fail;refine b.wn (aI · _) ?_;clear b c;intro bB ai aj aY bD b;have c:=b.f3;go_wp2_with fail;replace b:=b.pop;go_roundg (ml t ai aj)
      case measure=>rw[G.out];exact bN s b.le (b.go trivial)
      case rel=>exact⟨(J ag (O j+1) ah),(j++[(ae 11 (t.pos f) 0 0 K (J ab (O ad) ac)).toList]),true,ai,aj,aY,Q,dQ.snoc (t:=t) hF Q s h.ar (b.go trivial),⟨Q,(λe=>by rw[List.map_append];exact aO r.out (.inr Q))⟩,b.aE (s':=0) (g':=True) l.out.1 (λ_=>l.out.2.1) (λ_ _=>l.out.2.2) oM⟩
    ·cases D
     ·go_wp2_with fail;refine(b.ne' (sz H) (nk 10 (t.pos f) nl)).lf (bC · 0 dC 4) ?_;clear b c;intro bE b;have c:=b.f3;go_wp2_with fail;refine(aK b.st.rd).mono ?_;rintro e bF ⟨bG,bH,bI,bJ,N,bK,bL,bM,bO,a0,bP,rfl,ak,al,a1,a2⟩;have a3:=al.name;replace b:=b.pX ak;clear ak al a1 a2;replace c:=b.f3;go_wp2_with fail;refine(y (b.gI N).st.rd _).mono ?_;rintro e a4 ⟨ao,ap,aq,bQ,a5,bR,rfl,P,R,a6,a7,ar⟩;have bS:Hid (a5=0->a0=0):=P.ok;replace b:=(b.gI N).pk P (R.node (lT a6 dC) a3 F (kind:=10) (n:=0) (m:=0) (λe=>Gr.nK (λx o=>(a7 e x o).1 Q))) R ar;clear P R ar;replace c:=b.f3;go_wp2_with (at_builtin;refine(b.dT (J ao (O aq) ap)).ap (sz a4) (lT p dC) ?_;clear b c;intro bT au av b;have c:=b.f3)
      go_wp2_with fail;refine(b.iU (J au (O j+1) av)).et (aU · _) ?_;clear b c;intro bU bV bW bX b;have c:=b.f3;go_wp2_with fail
      ·go_wp2_with fail;go_light;exact Mz.cq (C:=λx=>x=9) (d:= -1) Tryz.results73 Q Q ((b.fk 9 (t.pos i) (by have:=p;simp;omega) u (λe=>Gr.ft (hl:=by have:=p;simp;omega) ((λe=>by rw[List.map_append];exact aO r.out (.inl Q)) e))).aE (i':=i) (k':=k) (g':=False) (s':= -14) l.out.1 (λ_=>l.out.2.1) (λx=>x.elim) oM) 2 Q (λ_=>rfl) oM Q
      ·go_wp2_with fail;refine b.wn (aI · _) ?_;clear b c;intro bY aw ax a8 bZ b;have c:=b.f3;go_wp2_with fail;replace b:=b.pop;go_roundg (ml t aw ax)
       case measure=>rw[G.out];exact bN s b.le (b.go trivial)
       case rel=>exact⟨(J au (O j+1) av),(j++[(ae 10 (t.pos f) 0 0 N (J ao (O aq) ap)).toList]),false,aw,ax,a8,Q,dQ.snoc (t:=t) hF Q s h.ar (b.go trivial),⟨Q,(λe=>by rw[List.map_append];exact aO r.out (.inl Q))⟩,b.aE (s':=0) (g':=True) l.out.1 (λ_=>l.out.2.1) (λ_ _=>l.out.2.2) oM⟩
     ·go_wp2_with fail;refine(b.ne' (sz H) (nk 10 (t.pos f) nl)).lf (bC · 0 dC 4) ?_;clear b c;intro b0 b;have c:=b.f3;go_wp2_with fail;refine(b.fA 11).nm cD ?_;clear b c;intro b1 S b2 a9 b3 a' b4 _ b;have c:=b.f3;go_wp2_with fail;refine(y (b.gI S).st.rd _).mono ?_;rintro e ba ⟨ay,aA,aC,b5,bb,b6,rfl,T,V,bc,bd,aD⟩;have jy:Hid (bb=0->a9=0):=T.ok;replace b:=(b.gI S).pk T (V.node (lT bc dC) (lT a' dC) F (kind:=11) (n:=0) (m:=0) (λe=>Gr.jj (λx o=>(bd e x o).2))) V aD;clear T V aD;replace c:=b.f3;go_wp2_with (at_builtin;refine(b.dT (J ay (O aC) aA)).ap (sz ba) (lT p dC) ?_;clear b c;intro b7 aE aG b;have c:=b.f3)
      go_wp2_with fail;refine(b.iU (J aE (O j+1) aG)).et (aU · _) ?_;clear b c;intro b8 b9 b' ca b;have c:=b.f3;go_wp2_with fail
      ·go_wp2_with fail;go_light;exact Mz.cq (C:=λx=>x=9) (d:= -1) Tryz.results73 Q Q ((b.fk 9 (t.pos i) (by have:=p;simp;omega) u (λe=>Gr.ft (hl:=by have:=p;simp;omega) ((λe=>by rw[List.map_append];exact aO r.out (.inr Q)) e))).aE (i':=i) (k':=k) (g':=False) (s':= -14) l.out.1 (λ_=>l.out.2.1) (λx=>x.elim) oM) 2 Q (λ_=>rfl) oM Q
      ·go_wp2_with fail;refine b.wn (aI · _) ?_;clear b c;intro cb aH aJ bf cc b;have c:=b.f3;go_wp2_with fail;replace b:=b.pop;go_roundg (ml t aH aJ)
       case measure=>rw[G.out];exact bN s b.le (b.go trivial)
       case rel=>exact⟨(J aE (O j+1) aG),(j++[(ae 11 (t.pos f) 0 0 S (J ay (O aC) aA)).toList]),true,aH,aJ,bf,Q,dQ.snoc (t:=t) hF Q s h.ar (b.go trivial),⟨Q,(λe=>by rw[List.map_append];exact aO r.out (.inr Q))⟩,b.aE (s':=0) (g':=True) l.out.1 (λ_=>l.out.2.1) (λ_ _=>l.out.2.2) oM⟩
theorem uz {e:Nat} (F:qC 3 e) (G:nh 3 e) (ad:mH 3 91 True 8 λx=>x=19) {w:World} {rb f j i:Nat} {t:Tk} {k a:Int} (h:Rd w rb f j t i k a) (m:Bd (e+1) t i k 3) (H:bS t i k 0 ⟨#[105,110,116]⟩=false) (K:bS t i k 0 ⟨#[98,111,111,108]⟩=false) (L:bS t i k 0 ⟨#[40]⟩=false) (af:bS t i k 0 ⟨#[38]⟩=false) (ag:bS t i k 0 ⟨#[38,38]⟩=false) (n:bS t i k 0 ⟨#[102,110]⟩=true) (ah:cj t (i+1) k 0 4=false):Calls Tryz.prog 75 #[.pointer (some ⟨rb,0,I⟩)] w (aZ 3 w rb f j t i k True 8 cx):=by
 have ai:=h.l;have M:Hid (Bd (e+1) t i k 3):=m;clear m;have N:(0:Int)<=(t.pos i:Int)/\(t.pos i:Int)<=7000:=oH (h.ar.aQ i);go_enter Tryz.func75,Tryz.ntmps75
 have aj:=dx;have ak:(i:Int)<(t.len:Int):=oH h.lt;have al:(t.len:Int)<=6001:=oH h.ar.bj;have b:=Mz.start (wt:=3) h;go_wp2_with fail;refine(b.ne' (sz w) (aB)).lf (aF · 0) ?_;clear b;intro o b;have c:=b.f1;go_wp2_with fail;refine(b.ne' (sz o) (nk 0 (t.pos i) nl)).lf (bw · _ H) ?_;clear b c;intro ao b;have c:=b.f2;go_wp2_with fail;refine b.lf (bw · _ K) ?_;clear b c;intro ap b;have c:=b.f2;go_wp2_with fail;refine b.lf (bw · _ L) ?_;clear b c;intro aq b;have c:=b.f2;go_wp2_with fail;refine b.lf (aX · 0 dC _) ?_;clear b c;intro ar b;have c:=b.f2;go_wp2_with fail;refine b.lf (aX · 0 dC _) ?_;clear b c;intro au b;have c:=b.f2;go_wp2_with fail;refine b.ey (eH · _ n) ?_;clear b c;intro av b;have c:=b.f2;go_wp2_with fail;refine(b.fA 17).lf (bC · 0 dC 4) ?_;clear b c;intro aw b;have c:=b.f2;have p:Hid (∀q r s,(r=0->i<q)->s<64->Bd e t q r s):=M.out.dh (du h.ar h.lt n).1 h.lt;go_wp2_with fail;refine b.et (aU · _) ?_;clear b c;intro ax ay P az b;have c:=b.f2;go_upto_if 47 with fail
 go_cut [] (λR=>∃(l:Int) (u:Nat) (v y:Int),Mz 3 w rb f j t i k True (-16) R u v y [(sz o,ae 17 (t.pos i) l 0 ⟨#[]⟩ nl),(sz w,aB)] [] nl [])
 case first=>
  go_wp2_with fail
  ·go_wp2_with fail;go_meet;exact⟨1,P,k,a,((b.jV 1).less oM)⟩
  ·go_wp2_with fail;refine b.et (aU · _) ?_;clear b c;intro aA aC z aD b;have c:=b.f2;go_wp2_with fail
   ·go_wp2_with fail;go_meet;exact⟨2,z,k,a,((b.jV 2).less oM)⟩
   ·go_wp2_with fail;go_meet;exact⟨0,z,k,a,(b.less oM)⟩
 case rest=>
  clear c b;obtain⟨l,u,v,y,b⟩:=hcut;obtain⟨aE,S⟩:∃x,x=wc:=⟨_,Q⟩;subst S;have c:=b.f2;go_wp2_with fail;refine b.wn (aI · _) ?_;clear b c;intro aG aH aJ aK aL b;have c:=b.f2;go_wp2_with fail;refine b.li (F · (b.bd p.out dC) _) ?_;clear b c;intro aM T V A aN aP aQ B W aR b;have c:=b.f2;go_wp2_with fail;refine(b.dT (J T (O A) V)).wn (aI · _) ?_;clear b c;intro aS aT aV aW X b;have c:=b.f2;go_wp2_with fail;go_region_law (first|(refine b.as (sz Y) (lT B dC) ?_;clear b c;intro aY Z aa b;have c:=b.f2)|(replace b:=b.drew;go_simp;refine b.nd (G · (b.bd p.out dC)) ?_;clear b c;intro Y a0 a1 a2 a3 ab ac b;have c:=b.f2))
  all_goals
   go_wp2_with fail;go_light;exact Mz.cq (C:=cx) (d:=8) Tryz.results75 Q Q ((b.dT (J Z (O A+1) aa)).fo 17 (t.pos i) l 0 ⟨#[]⟩ (by have:=B;simp;omega) N dC (λD=>Gr.sZ ⟨sQ,by rw[List.map_append];exact aO (W (X.out (ac.out D))) (ab D)⟩)) 1 Q (λ_=>⟨by show(13:Int)<=17;decide,by show(17:Int)<=18;decide⟩) oM Q
theorem rR {e:Nat} (M:qC 3 e) (N:nh 3 e) (P:mH 3 91 True 8 λx=>x=19) {w:World} {rb j l i:Nat} {t:Tk} {k a:Int} (h:Rd w rb j l t i k a) (r:Bd (e+1) t i k 3) (R:bS t i k 0 ⟨#[105,110,116]⟩=false) (S:bS t i k 0 ⟨#[98,111,111,108]⟩=false) (T:bS t i k 0 ⟨#[40]⟩=false) (ap:bS t i k 0 ⟨#[38]⟩=false) (aq:bS t i k 0 ⟨#[38,38]⟩=false) (s:bS t i k 0 ⟨#[102,110]⟩=true) (ar:cj t (i+1) k 0 4=true):Calls Tryz.prog 75 #[.pointer (some ⟨rb,0,I⟩)] w (aZ 3 w rb j l t i k True 8 cx):=by
 have au:=h.l;have V:Hid (Bd (e+1) t i k 3):=r;clear r;have W:(0:Int)<=(t.pos i:Int)/\(t.pos i:Int)<=7000:=oH (h.ar.aQ i);go_enter Tryz.func75,Tryz.ntmps75
 have av:=dx;have aw:(i:Int)<(t.len:Int):=oH h.lt;have ax:(t.len:Int)<=6001:=oH h.ar.bj;have b:=Mz.start (wt:=3) h;go_wp2_with fail;refine(b.ne' (sz w) (aB)).lf (aF · 0) ?_;clear b;intro u b;have c:=b.f1;go_wp2_with fail;refine(b.ne' (sz u) (nk 0 (t.pos i) nl)).lf (bw · _ R) ?_;clear b c;intro ay b;have c:=b.f2;go_wp2_with fail;refine b.lf (bw · _ S) ?_;clear b c;intro az b;have c:=b.f2;go_wp2_with fail;refine b.lf (bw · _ T) ?_;clear b c;intro aA b;have c:=b.f2;go_wp2_with fail;refine b.lf (aX · 0 dC _) ?_;clear b c;intro aC b;have c:=b.f2;go_wp2_with fail;refine b.lf (aX · 0 dC _) ?_;clear b c;intro aD b;have c:=b.f2;go_wp2_with fail;refine b.ey (eH · _ s) ?_;clear b c;intro aE b;have c:=b.f2;go_wp2_with fail;refine(b.fA 17).lf (bC · 0 dC 4) ?_;clear b c;intro aG b;have c:=b.f2;have v:Hid (∀y z A,(z=0->i<y)->A<64->Bd e t y z A):=V.out.dh (du h.ar h.lt s).1 h.lt;go_wp2_with fail;refine(P b.st.rd).mono ?_;rintro m aH ⟨aJ,aK,aL,aM,n,aN,aP,aQ,aR,f,o,rfl,p,B,X,Y⟩;have Z:=B.name;have aS:Hid (f=0->k=0):=p.ok;replace b:=b.pX p;clear p B X Y;replace c:=b.f2;go_wp2_with fail;refine(b.gI n).et (aU · _) ?_;clear b c;intro aT aV aa aW b;have c:=b.f2;go_upto_if 47 with fail
 go_cut [] (λab=>∃(q:Int) (D:Nat) (F G:Int),Mz 3 w rb j l t i k True (-32) ab D F G [(sz u,ae 17 (t.pos i) q 0 n nl),(sz w,aB)] [] nl [])
 case first=>
  go_wp2_with fail
  ·go_wp2_with fail;go_meet;exact⟨1,aa,f,o,((b.jV 1).less oM)⟩
  ·go_wp2_with fail;refine b.et (aU · _) ?_;clear b c;intro aY a0 H a1 b;have c:=b.f2;go_wp2_with fail
   ·go_wp2_with fail;go_meet;exact⟨2,H,f,o,((b.jV 2).less oM)⟩
   ·go_wp2_with fail;go_meet;exact⟨0,H,f,o,(b.less oM)⟩
 case rest=>
  clear c b;obtain⟨q,D,F,G,b⟩:=hcut;obtain⟨a2,ac⟩:∃x,x=wc:=⟨_,Q⟩;subst ac;have c:=b.f2;go_wp2_with fail;refine b.wn (aI · _) ?_;clear b c;intro a3 a4 a5 a6 a7 b;have c:=b.f2;go_wp2_with fail;refine b.li (M · (b.bd v.out dC) _) ?_;clear b c;intro a8 ad af K a9 a' ba L ag bb b;have c:=b.f2;go_wp2_with fail;refine(b.dT (J ad (O K) af)).wn (aI · _) ?_;clear b c;intro bc bd bf bg ah b;have c:=b.f2;go_wp2_with fail;go_region_law (first|(refine b.as (sz ai) (lT L dC) ?_;clear b c;intro bh aj ak b;have c:=b.f2)|(replace b:=b.drew;go_simp;refine b.nd (N · (b.bd v.out dC)) ?_;clear b c;intro ai bi bj bk bl al ao b;have c:=b.f2))
  all_goals
   go_wp2_with fail;go_light;exact Mz.cq (C:=cx) (d:=8) Tryz.results75 Q Q ((b.dT (J aj (O K+1) ak)).fo 17 (t.pos i) q 0 n (by have:=L;simp;omega) W Z (λm=>Gr.sZ ⟨sQ,by rw[List.map_append];exact aO (ag (ah.out (ao.out m))) (al m)⟩)) 1 Q (λ_=>⟨by show(13:Int)<=17;decide,by show(17:Int)<=18;decide⟩) oM Q
end Go.Proofs.YtdghkacbpebcoaaGreat
