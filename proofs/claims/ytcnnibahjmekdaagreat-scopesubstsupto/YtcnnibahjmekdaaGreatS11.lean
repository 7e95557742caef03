import Derived.Test.YtcnnibahjmekdaaGreatS02
namespace Go.Proofs.YtcnnibahjmekdaaGreat
open Go.RowKit
open Value renaming slice→J
open List renaming length→O
open Option renaming none→I
open World renaming heap→U
open _root_.Array renaming size→E
open Obj renaming cells→Ob
set_option linter.all false
set_option maxRecDepth 100000
set_option maxHeartbeats 0
theorem zB {l:Nat} (s:fj 119 13 l):fj 117 14 (l+1):=by
 intro w K L M j b m Z h t;have aa:=h.l;have u:Hid (Bd (l+1) b j m 14):=t;clear t;have ab:(0:Int)<=(b.pos j:Int)/\(b.pos j:Int)<=7000:=oH (h.ar.aO j);go_enter Tryz.func117,Tryz.ntmps117
 have a:=Mz.start (wt:=1) h;go_wp2_with fail;replace a:=a.ne' (sz w) (aB);refine a.nd (s · (u.out.down a.le a.ok dC)) ?_;clear a;intro v x y z N ac _ a;have d:=a.f1;go_wp2_with fail;go_loopg [4,5] (ml b y z) (λg _ _ wr=>∃(n:Nf) (c:Nat) (k A:Int),g=ml b c k/\Mz 1 w K L M b j m True (-8) wr c k A [(sz v,n.a),(sz w,aB)] [n.t] nl [])
 case atStart=>exact⟨x,y,z,N,Q,(a.ne' (sz v) x.a).less oM⟩
 case round=>
  clear d a;obtain⟨n,c,k,A,B,a⟩:=hrel;have P:=a.st.rd.lt;have o:(0:Int)<=(b.pos c:Int)/\(b.pos c:Int)<=7000:=oH (h.ar.aO c);have R:Hid (gk=ml b c k):=B;clear B;have d:=a.f2
  cases S:(k==0)
  ·go_wp2_with fail;refine a.lf aV ?_;clear a d;intro ad a;have d:=a.f2;go_wp2_with fail;go_light;exact a.rt Tryz.results117 1
  ·obtain rfl:k=0:=sU S;have i:Hid (j<=c/\m=0/\j<c):=⟨a.le,a.ok Q,a.go trivial Q⟩;have T:Hid (∀p C q,c<=p->q<64->Bd l b p C q):=λp C q V W=>u.out.dA i.out.2.1 h.lt _ _ _ (λ_=>Nat.lt_of_lt_of_le i.out.2.2 V) W;replace a:=a.bU;go_wp2_with fail;refine a.lf aV ?_;clear a d;intro D a;have d:=a.f2;go_wp2_with fail;refine(j0 (a.alloc _).st.rd [⟨#[43]⟩,⟨#[45]⟩] (sb:=(sz D)) (by have:=jZ D [⟨#[43]⟩,⟨#[45]⟩];simpa using this) sQ dC dC).mono ?_;rintro af ag ⟨f,rfl,F,r,ah⟩;replace a:=(a.alloc _).below F;clear F;replace d:=a.f2
   cases ai:f.toList.isEmpty
   ·go_wp2_with fail;refine a.lf (aE · 29) ?_;clear a d;intro X a;have d:=a.f2;go_wp2_with fail;refine(a.ne' (sz X) (ae 29 (b.pos c) 0 0 f nl)).wn (aH · _) ?_;clear a d;intro aj ak al ao _ a;have d:=a.f3;go_wp2_with fail;go_region_law (replace a:=a.drew;go_simp;refine a.nd (s · (T.out _ _ _ a.le dC)) ?_;clear a d;intro e ap G H Y aq _ a;have d:=a.f3)
    all_goals
     go_wp2_with fail;go_roundg (ml b G H)
     case measure=>rw[R.out];exact bO P ((((a.swap).ek (sl (sz e) 2)).nh 29 (b.pos c) 0 0 f (sl (sz e) 2)).l2 (sz e) 29 (b.pos c) 0 0 f o (lT r dC)).pop.le (((((a.swap).ek (sl (sz e) 2)).nh 29 (b.pos c) 0 0 f (sl (sz e) 2)).l2 (sz e) 29 (b.pos c) 0 0 f o (lT r dC)).pop.go trivial)
     case rel=>exact⟨⟨29,(b.pos c),0,0,f,(some ⟨(sz e),0,I⟩),2,2⟩,G,H,Y,Q,((((a.swap).ek (sl (sz e) 2)).nh 29 (b.pos c) 0 0 f (sl (sz e) 2)).l2 (sz e) 29 (b.pos c) 0 0 f o (lT r dC)).pop.aD (s':= -8) (g':=True) i.out.1 (λ_=>i.out.2.1) (λ_ _=>i.out.2.2) oM⟩
   ·go_wp2_with fail;go_light;exact(a.aD (s':= -8) (g':=True) i.out.1 (λ_=>i.out.2.1) (λ_ _=>i.out.2.2) oM).rt Tryz.results117 1
section
variable{a k:Int} {N cap i rb tb:Nat} {t:Tk} {w:World}
theorem pw (l:iJ 115 4 N) (h:Rd w rb tb cap t i k a) (c:Bd (N+1) t i k 3) (e:bW t i k 0 ⟨#[95]⟩=true):Calls Tryz.prog 113 #[.pointer (some ⟨rb,0,I⟩)] w (aY 1 w rb tb cap t i k True 8 λ_=>True):=by
 have m:=h.l;have n:Hid (Bd (N+1) t i k 3):=c;clear c;have f:(0:Int)<=(t.pos i:Int)/\(t.pos i:Int)<=7000:=oH (h.ar.aO i);go_enter Tryz.func113,Tryz.ntmps113
 have o:(i:Int)<(t.len:Int):=oH h.lt;have p:(t.len:Int)<=6001:=oH h.ar.bB;have q:=er;have b:=Mz.start (wt:=1) h;go_wp2_with fail;refine(b.ne' (sz w) (aB)).lf (aE · 0) ?_;clear b;intro j b;have d:=b.f1;go_wp2_with fail;refine(b.ne' (sz j) (nk 0 (t.pos i) nl)).ey (eP · _ e) ?_;clear b d;intro r b;have d:=b.f2;go_wp2_with fail;go_light;exact((b.fE 49).lk 49 (t.pos i) 0 0 ⟨#[]⟩ f).rt Tryz.results113 1
theorem pv (s:iJ 115 4 N) (h:Rd w rb tb cap t i k a) (f:Bd (N+1) t i k 3) (n:bW t i k 0 ⟨#[95]⟩=false) (o:bW t i k 0 ⟨#[45]⟩=true):Calls Tryz.prog 113 #[.pointer (some ⟨rb,0,I⟩)] w (aY 1 w rb tb cap t i k True 8 λ_=>True):=by
 have u:=h.l;have v:Hid (Bd (N+1) t i k 3):=f;clear f;have j:(0:Int)<=(t.pos i:Int)/\(t.pos i:Int)<=7000:=oH (h.ar.aO i);go_enter Tryz.func113,Tryz.ntmps113
 have x:(i:Int)<(t.len:Int):=oH h.lt;have y:(t.len:Int)<=6001:=oH h.ar.bB;have z:=er;have b:=Mz.start (wt:=1) h;go_wp2_with fail;refine(b.ne' (sz w) (aB)).lf (aE · 0) ?_;clear b;intro p b;have c:=b.f1;go_wp2_with fail;refine(b.ne' (sz p) (nk 0 (t.pos i) nl)).lf (bu · _ n) ?_;clear b c;intro A b;have c:=b.f2;go_wp2_with fail;refine b.ey (eP · _ o) ?_;clear b c;intro B b;have c:=b.f2
 cases q:cq t (i+1) k 0 1
 ·go_wp2_with fail;refine(b.fE 51).lf (bH · 0 dC 1) ?_;clear b c;intro C b;have c:=b.f2;go_wp2_with fail;refine(ir b.st.rd).mono ?_;rintro d D ⟨rfl,⟨F,G,e,l⟩,m⟩;replace b:=((b.rk l m (lR _) (λd=>absurd d e)).up (g':=True) (λ_ d=>absurd d e)).dead (s':=(-100)) e;clear l m;replace c:=b.f2;go_wp2_with fail;go_light;exact(b.lk 51 (t.pos i) 0 0 ⟨#[]⟩ j dC (λd=>absurd d e)).rt Tryz.results113 1
 ·have r:i+1+1<t.len:=(ij h.ar b.st.rd.lt dC q).2.1;have H:(i:Int)+1<(t.len:Int):=oH b.st.rd.lt;go_wp2_with fail;refine(b.fE 51).lf (bH · 0 dC 1) ?_;clear b c;intro K b;have c:=b.f2;go_wp2_with fail;refine b.lf dP ?_;clear b c;intro L b;have c:=b.f2;have M:=b.st.rd.r1;have P:=b.st.rd.fz 1;have R:=b.st.rd.l;go_wp2_with fail;go_light;exact(((b.jW (wrap64 (-(t.num (i+1):Int)))).jE (j':=(i+1)+1) r (Nat.lt_succ_self _)).lk 51 (t.pos i) (wrap64 (-(t.num (i+1):Int))) 0 ⟨#[]⟩ j).rt Tryz.results113 1
theorem pq (o:iJ 115 4 N) (h:Rd w rb tb cap t i k a) (d:Bd (N+1) t i k 3) (e:bW t i k 0 ⟨#[95]⟩=false) (f:bW t i k 0 ⟨#[45]⟩=false) (j:cq t i k 0 1=true):Calls Tryz.prog 113 #[.pointer (some ⟨rb,0,I⟩)] w (aY 1 w rb tb cap t i k True 8 λ_=>True):=by
 have p:=h.l;have q:Hid (Bd (N+1) t i k 3):=d;clear d;have l:(0:Int)<=(t.pos i:Int)/\(t.pos i:Int)<=7000:=oH (h.ar.aO i);go_enter Tryz.func113,Tryz.ntmps113
 have r:(i:Int)<(t.len:Int):=oH h.lt;have s:(t.len:Int)<=6001:=oH h.ar.bB;have u:=er;have b:=Mz.start (wt:=1) h;go_wp2_with fail;refine(b.ne' (sz w) (aB)).lf (aE · 0) ?_;clear b;intro m b;have c:=b.f1;go_wp2_with fail;refine(b.ne' (sz m) (nk 0 (t.pos i) nl)).lf (bu · _ e) ?_;clear b c;intro v b;have c:=b.f2;go_wp2_with fail;refine b.lf (bu · _ f) ?_;clear b c;intro x b;have c:=b.f2;have n:i+1<t.len:=(ij h.ar h.lt dC j).2.1;go_wp2_with fail;refine b.lf (bH · 0 dC 1) ?_;clear b c;intro y b;have c:=b.f2;go_wp2_with fail;refine(b.fE 51).lf dP ?_;clear b c;intro z b;have c:=b.f2;have A:=b.st.rd.r1;have B:=b.st.rd.fz 1;have C:=b.st.rd.l;go_wp2_with fail;go_light;exact(((b.jW (t.num i:Int)).jE (j':=i+1) n (Nat.lt_succ_self _)).lk 51 (t.pos i) (t.num i:Int) 0 ⟨#[]⟩ l).rt Tryz.results113 1
end
end Go.Proofs.YtcnnibahjmekdaaGreat
