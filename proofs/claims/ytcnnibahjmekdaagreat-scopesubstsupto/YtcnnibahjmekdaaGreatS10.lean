import Derived.Test.YtcnnibahjmekdaaGreatS02
namespace Go.Proofs.YtcnnibahjmekdaaGreat
open Go.RowKit
open Value renaming slice→J
open List renaming length→O
open Option renaming none→I
open World renaming heap→U
open _root_.Array renaming size→E
open Obj renaming cells→Ob
set_option linter.all false
set_option maxRecDepth 100000
set_option maxHeartbeats 0
theorem zm {e:Nat} (M:∀e,nu 1 e) (N:fj 88 18 e):fj 85 7 (e+1):=by
 intro w r s t c d j ag h u;have ah:=h.l;have P:Hid (Bd (e+1) d c j 7):=u;clear u;have v:(0:Int)<=(d.pos c:Int)/\(d.pos c:Int)<=7000:=oH (h.ar.aO c);go_enter Tryz.func85,Tryz.ntmps85
 have a:=Mz.start (wt:=1) h;go_wp2_with fail;refine(a.ne' (sz w) (aB)).lf (aE · 43) ?_;clear a;intro m a;have b:=a.f1;go_wp2_with fail;refine(a.ne' (sz m) (nk 43 (d.pos c) nl)).wn (aH · _) ?_;clear a b;intro ai aj x y _ a;have b:=a.f2;go_wp2_with fail;refine a.et (aR · _) ?_;clear a b;intro ak al z ao a;have b:=a.f2;go_upto_if 9 with fail
 go_cut [] (λn=>∃(f:Int) (A:Nat) (B C:Int),Mz 1 w r s t d c j True (-16) n A B C [(sz m,ae 43 (d.pos c) 0 f ⟨#[]⟩ nl),(sz w,aB)] [] nl [])
 case first=>
  go_wp2_with fail
  ·go_wp2_with fail;go_meet;exact⟨1,z,x,y,((a.vh 1).less oM)⟩
  ·go_wp2_with fail;go_meet;exact⟨0,z,x,y,(a.less oM)⟩
 case rest=>
  clear b a;obtain⟨f,A,B,C,a⟩:=hcut;obtain⟨ap,o⟩:∃p,p=wc:=⟨_,Q⟩;subst o;have b:=a.f2;go_wp2_with fail;refine a.nm cJ ?_;clear a b;intro aq k ar R S D au _ a;have b:=a.f2;go_wp2_with fail;refine(a.gI k).et (aR · _) ?_;clear a b;intro av aw T ax a;have b:=a.f2;go_upto_if 15 with fail
  go_cut [] (λn=>∃(i:Int) (q:Value) (l:List (List Value)) (F:Nat) (G H:Int),O l<=1/\Mz 1 w r s t d c j True (-32) n F G H [(sz m,ae 43 (d.pos c) i f k q),(sz w,aB)] [] q l)
  case first=>
   go_wp2_with fail
   ·go_wp2_with fail;go_region_law (first|(refine a.as (sz V) sQ ?_;clear a b;intro ay K L a;have b:=a.f2)|(go_simp;refine(a.jW 1).drew.nd (M _ · (fN _ _ _ 3)) ?_;clear a b;intro V W X Y Z az _ a;have b:=a.f2))
    all_goals
     go_wp2_with fail;go_meet;exact⟨1,(J K (0+1) L),([]++[W.t]),X,Y,Z,sQ,((a.ek (J K (0+1) L)).less oM)⟩
   ·go_wp2_with fail;go_meet;exact⟨0,nl,[],T,R,S,sQ,(a.less oM)⟩
  case rest=>
   clear b a;obtain⟨i,q,l,F,G,H,aA,a⟩:=hcut;obtain⟨aC,o⟩:∃p,p=wc:=⟨_,Q⟩;subst o;have b:=a.f2;obtain⟨aD,aF,rfl⟩:=a.shape;go_wp2_with fail;refine a.et (aR · _) ?_;clear a b;intro aG aI aJ aa a;have b:=a.f2;go_wp2_with fail
   ·have ab:Hid (j=0):=a.ok (aa.yes ‹_›).2;go_wp2_with fail;go_region_law (first|(refine a.as (sz ac) oM ?_;clear a b;intro aK ad af a;have b:=a.f2)|(replace a:=(a.jW (wrap64 (i+2))).drew;go_simp;refine a.nd (N · (a.bd (P.out.dA ab.out h.lt) dC)) ?_;clear a b;intro ac aL aM aN aO aP _ a;have b:=a.f2))
    all_goals
     go_wp2_with fail;go_light;exact((a.ek (J ad (O l+1) af)).fo 43 (d.pos c) (wrap64 (i+2)) f k (by first|(simp;omega)|omega) v (lT D dC)).rt Tryz.results85 1
   ·go_wp2_with fail;go_light;exact(a.fo 43 (d.pos c) i f k (by first|(simp;omega)|omega) v (lT D dC)).rt Tryz.results85 1
theorem zj {l:Nat} (s:fj 120 12 l):fj 119 13 (l+1):=by
 intro w K L M j b m Z h t;have aa:=h.l;have u:Hid (Bd (l+1) b j m 13):=t;clear t;have ab:(0:Int)<=(b.pos j:Int)/\(b.pos j:Int)<=7000:=oH (h.ar.aO j);go_enter Tryz.func119,Tryz.ntmps119
 have a:=Mz.start (wt:=1) h;go_wp2_with fail;replace a:=a.ne' (sz w) (aB);refine a.nd (s · (u.out.down a.le a.ok dC)) ?_;clear a;intro v x y z N ac _ a;have d:=a.f1;go_wp2_with fail;go_loopg [4,5] (ml b y z) (λg _ _ wr=>∃(n:Nf) (c:Nat) (k A:Int),g=ml b c k/\Mz 1 w K L M b j m True (-8) wr c k A [(sz v,n.a),(sz w,aB)] [n.t] nl [])
 case atStart=>exact⟨x,y,z,N,Q,(a.ne' (sz v) x.a).less oM⟩
 case round=>
  clear d a;obtain⟨n,c,k,A,B,a⟩:=hrel;have P:=a.st.rd.lt;have o:(0:Int)<=(b.pos c:Int)/\(b.pos c:Int)<=7000:=oH (h.ar.aO c);have R:Hid (gk=ml b c k):=B;clear B;have d:=a.f2
  cases S:(k==0)
  ·go_wp2_with fail;refine a.lf aV ?_;clear a d;intro ad a;have d:=a.f2;go_wp2_with fail;go_light;exact a.rt Tryz.results119 1
  ·obtain rfl:k=0:=sU S;have i:Hid (j<=c/\m=0/\j<c):=⟨a.le,a.ok Q,a.go trivial Q⟩;have T:Hid (∀p C q,c<=p->q<64->Bd l b p C q):=λp C q V W=>u.out.dA i.out.2.1 h.lt _ _ _ (λ_=>Nat.lt_of_lt_of_le i.out.2.2 V) W;replace a:=a.bU;go_wp2_with fail;refine a.lf aV ?_;clear a d;intro D a;have d:=a.f2;go_wp2_with fail;refine(j0 (a.alloc _).st.rd [⟨#[42]⟩,⟨#[47]⟩,⟨#[37]⟩] (sb:=(sz D)) (by have:=jZ D [⟨#[42]⟩,⟨#[47]⟩,⟨#[37]⟩];simpa using this) sQ dC dC).mono ?_;rintro af ag ⟨f,rfl,F,r,ah⟩;replace a:=(a.alloc _).below F;clear F;replace d:=a.f2
   cases ai:f.toList.isEmpty
   ·go_wp2_with fail;refine a.lf (aE · 29) ?_;clear a d;intro X a;have d:=a.f2;go_wp2_with fail;refine(a.ne' (sz X) (ae 29 (b.pos c) 0 0 f nl)).wn (aH · _) ?_;clear a d;intro aj ak al ao _ a;have d:=a.f3;go_wp2_with fail;go_region_law (replace a:=a.drew;go_simp;refine a.nd (s · (T.out _ _ _ a.le dC)) ?_;clear a d;intro e ap G H Y aq _ a;have d:=a.f3)
    all_goals
     go_wp2_with fail;go_roundg (ml b G H)
     case measure=>rw[R.out];exact bO P ((((a.swap).ek (sl (sz e) 2)).nh 29 (b.pos c) 0 0 f (sl (sz e) 2)).l2 (sz e) 29 (b.pos c) 0 0 f o (lT r dC)).pop.le (((((a.swap).ek (sl (sz e) 2)).nh 29 (b.pos c) 0 0 f (sl (sz e) 2)).l2 (sz e) 29 (b.pos c) 0 0 f o (lT r dC)).pop.go trivial)
     case rel=>exact⟨⟨29,(b.pos c),0,0,f,(some ⟨(sz e),0,I⟩),2,2⟩,G,H,Y,Q,((((a.swap).ek (sl (sz e) 2)).nh 29 (b.pos c) 0 0 f (sl (sz e) 2)).l2 (sz e) 29 (b.pos c) 0 0 f o (lT r dC)).pop.aD (s':= -8) (g':=True) i.out.1 (λ_=>i.out.2.1) (λ_ _=>i.out.2.2) oM⟩
   ·go_wp2_with fail;go_light;exact(a.aD (s':= -8) (g':=True) i.out.1 (λ_=>i.out.2.1) (λ_ _=>i.out.2.2) oM).rt Tryz.results119 1
end Go.Proofs.YtcnnibahjmekdaaGreat
