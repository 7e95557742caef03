import Derived.Test.YtdghkacbpebcoaaGreatS02
namespace Go.Proofs.YtdghkacbpebcoaaGreat
open Go.RowKit
open Value renaming slice→J
open List renaming length→O
open Option renaming none→I
open World renaming heap→U
open _root_.Array renaming size→E
open Obj renaming cells→Ob
set_option linter.all false
set_option maxRecDepth 100000
set_option maxHeartbeats 0
theorem zj {l:Nat} (s:eS 115 13 l):eS 113 14 (l+1):=by
 intro w K L M j b m Z h t;have aa:=h.l;have u:Hid (Bd (l+1) b j m 14):=t;clear t;have ab:(0:Int)<=(b.pos j:Int)/\(b.pos j:Int)<=7000:=oH (h.ar.aQ j);go_enter Tryz.func113,Tryz.ntmps113
 have a:=Mz.start (wt:=1) h;go_wp2_with fail;replace a:=a.ne' (sz w) (aB);refine a.nd (s · (u.out.down a.le a.ok dC)) ?_;clear a;intro v x y z N ac _ a;have d:=a.f1;go_wp2_with fail;go_loopg [4,5] (ml b y z) (λg _ _ wr=>∃(n:Nf) (c:Nat) (k A:Int),g=ml b c k/\Mz 1 w K L M b j m True (-8) wr c k A [(sz v,n.a),(sz w,aB)] [n.t] nl [])
 case atStart=>exact⟨x,y,z,N,Q,(a.ne' (sz v) x.a).less oM⟩
 case round=>
  clear d a;obtain⟨n,c,k,A,B,a⟩:=hrel;have P:=a.st.rd.lt;have o:(0:Int)<=(b.pos c:Int)/\(b.pos c:Int)<=7000:=oH (h.ar.aQ c);have R:Hid (gk=ml b c k):=B;clear B;have d:=a.f2
  cases S:(k==0)
  ·go_wp2_with fail;refine a.lf aW ?_;clear a d;intro ad a;have d:=a.f2;go_wp2_with fail;go_light;exact a.rt Tryz.results113 1
  ·obtain rfl:k=0:=sU S;have i:Hid (j<=c/\m=0/\j<c):=⟨a.le,a.ok Q,a.go trivial Q⟩;have T:Hid (∀p C q,c<=p->q<64->Bd l b p C q):=λp C q V W=>u.out.dh i.out.2.1 h.lt _ _ _ (λ_=>Nat.lt_of_lt_of_le i.out.2.2 V) W;replace a:=a.bP;go_wp2_with fail;refine a.lf aW ?_;clear a d;intro D a;have d:=a.f2;go_wp2_with fail;refine(jZ (a.alloc _).st.rd [⟨#[43]⟩,⟨#[45]⟩] (sb:=(sz D)) (by have:=jY D [⟨#[43]⟩,⟨#[45]⟩];simpa using this) sQ dC dC).mono ?_;rintro af ag ⟨f,rfl,F,r,ah⟩;replace a:=(a.alloc _).below F;clear F;replace d:=a.f2
   cases ai:f.toList.isEmpty
   ·go_wp2_with fail;refine a.lf (aF · 29) ?_;clear a d;intro X a;have d:=a.f2;go_wp2_with fail;refine(a.ne' (sz X) (ae 29 (b.pos c) 0 0 f nl)).wn (aI · _) ?_;clear a d;intro aj ak al ao _ a;have d:=a.f3;go_wp2_with fail;go_region_law (replace a:=a.drew;go_simp;refine a.nd (s · (T.out _ _ _ a.le dC)) ?_;clear a d;intro e ap G H Y aq _ a;have d:=a.f3)
    all_goals
     go_wp2_with fail;go_roundg (ml b G H)
     case measure=>rw[R.out];exact bN P ((((a.swap).dT (sl (sz e) 2)).mX 29 (b.pos c) 0 0 f (sl (sz e) 2)).l2 (sz e) 29 (b.pos c) 0 0 f o (lT r dC)).pop.le (((((a.swap).dT (sl (sz e) 2)).mX 29 (b.pos c) 0 0 f (sl (sz e) 2)).l2 (sz e) 29 (b.pos c) 0 0 f o (lT r dC)).pop.go trivial)
     case rel=>exact⟨⟨29,(b.pos c),0,0,f,(some ⟨(sz e),0,I⟩),2,2⟩,G,H,Y,Q,((((a.swap).dT (sl (sz e) 2)).mX 29 (b.pos c) 0 0 f (sl (sz e) 2)).l2 (sz e) 29 (b.pos c) 0 0 f o (lT r dC)).pop.aE (s':= -8) (g':=True) i.out.1 (λ_=>i.out.2.1) (λ_ _=>i.out.2.2) oM⟩
   ·go_wp2_with fail;go_light;exact(a.aE (s':= -8) (g':=True) i.out.1 (λ_=>i.out.2.1) (λ_ _=>i.out.2.2) oM).rt Tryz.results113 1
theorem yU {l:Nat} (s:eS 116 12 l):eS 115 13 (l+1):=by
 intro w K L M j b m Z h t;have aa:=h.l;have u:Hid (Bd (l+1) b j m 13):=t;clear t;have ab:(0:Int)<=(b.pos j:Int)/\(b.pos j:Int)<=7000:=oH (h.ar.aQ j);go_enter Tryz.func115,Tryz.ntmps115
 have a:=Mz.start (wt:=1) h;go_wp2_with fail;replace a:=a.ne' (sz w) (aB);refine a.nd (s · (u.out.down a.le a.ok dC)) ?_;clear a;intro v x y z N ac _ a;have d:=a.f1;go_wp2_with fail;go_loopg [4,5] (ml b y z) (λg _ _ wr=>∃(n:Nf) (c:Nat) (k A:Int),g=ml b c k/\Mz 1 w K L M b j m True (-8) wr c k A [(sz v,n.a),(sz w,aB)] [n.t] nl [])
 case atStart=>exact⟨x,y,z,N,Q,(a.ne' (sz v) x.a).less oM⟩
 case round=>
  clear d a;obtain⟨n,c,k,A,B,a⟩:=hrel;have P:=a.st.rd.lt;have o:(0:Int)<=(b.pos c:Int)/\(b.pos c:Int)<=7000:=oH (h.ar.aQ c);have R:Hid (gk=ml b c k):=B;clear B;have d:=a.f2
  cases S:(k==0)
  ·go_wp2_with fail;refine a.lf aW ?_;clear a d;intro ad a;have d:=a.f2;go_wp2_with fail;go_light;exact a.rt Tryz.results115 1
  ·obtain rfl:k=0:=sU S;have i:Hid (j<=c/\m=0/\j<c):=⟨a.le,a.ok Q,a.go trivial Q⟩;have T:Hid (∀p C q,c<=p->q<64->Bd l b p C q):=λp C q V W=>u.out.dh i.out.2.1 h.lt _ _ _ (λ_=>Nat.lt_of_lt_of_le i.out.2.2 V) W;replace a:=a.bP;go_wp2_with fail;refine a.lf aW ?_;clear a d;intro D a;have d:=a.f2;go_wp2_with fail;refine(jZ (a.alloc _).st.rd [⟨#[42]⟩,⟨#[47]⟩,⟨#[37]⟩] (sb:=(sz D)) (by have:=jY D [⟨#[42]⟩,⟨#[47]⟩,⟨#[37]⟩];simpa using this) sQ dC dC).mono ?_;rintro af ag ⟨f,rfl,F,r,ah⟩;replace a:=(a.alloc _).below F;clear F;replace d:=a.f2
   cases ai:f.toList.isEmpty
   ·go_wp2_with fail;refine a.lf (aF · 29) ?_;clear a d;intro X a;have d:=a.f2;go_wp2_with fail;refine(a.ne' (sz X) (ae 29 (b.pos c) 0 0 f nl)).wn (aI · _) ?_;clear a d;intro aj ak al ao _ a;have d:=a.f3;go_wp2_with fail;go_region_law (replace a:=a.drew;go_simp;refine a.nd (s · (T.out _ _ _ a.le dC)) ?_;clear a d;intro e ap G H Y aq _ a;have d:=a.f3)
    all_goals
     go_wp2_with fail;go_roundg (ml b G H)
     case measure=>rw[R.out];exact bN P ((((a.swap).dT (sl (sz e) 2)).mX 29 (b.pos c) 0 0 f (sl (sz e) 2)).l2 (sz e) 29 (b.pos c) 0 0 f o (lT r dC)).pop.le (((((a.swap).dT (sl (sz e) 2)).mX 29 (b.pos c) 0 0 f (sl (sz e) 2)).l2 (sz e) 29 (b.pos c) 0 0 f o (lT r dC)).pop.go trivial)
     case rel=>exact⟨⟨29,(b.pos c),0,0,f,(some ⟨(sz e),0,I⟩),2,2⟩,G,H,Y,Q,((((a.swap).dT (sl (sz e) 2)).mX 29 (b.pos c) 0 0 f (sl (sz e) 2)).l2 (sz e) 29 (b.pos c) 0 0 f o (lT r dC)).pop.aE (s':= -8) (g':=True) i.out.1 (λ_=>i.out.2.1) (λ_ _=>i.out.2.2) oM⟩
   ·go_wp2_with fail;go_light;exact(a.aE (s':= -8) (g':=True) i.out.1 (λ_=>i.out.2.1) (λ_ _=>i.out.2.2) oM).rt Tryz.results115 1
theorem sH {n:Nat} (X:tD 95 False λ_=>True) (Y:iI 96 19 n) (A:eS 63 7 n) (Z:tV n):eS 81 10 (n+1):=by
 intro w aa av aw b c o ax h B;have ab:=h.l;have q:Hid (Bd (n+1) c b o 10):=B;clear B;have p:(0:Int)<=(c.pos b:Int)/\(c.pos b:Int)<=7000:=oH (h.ar.aQ b);go_enter Tryz.func81,Tryz.ntmps81
 have ay:(b:Int)<(c.len:Int):=oH h.lt;have az:(c.len:Int)<=6001:=oH h.ar.bj;have a:=Mz.start (wt:=1) h;go_wp2_with fail;refine(a.ne' (sz w) (aB)).lf (aF · 0) ?_;clear a;intro s a;have e:=a.f1;go_wp2_with fail;refine(a.ne' (sz s) (nk 0 (c.pos b) nl)).lf dE ?_;clear a e;intro i a;have e:=a.f2;go_wp2_with fail;refine(aW (a.alloc _).st.rd).mono ?_;rintro f t ⟨rfl,u⟩;have aA:(sz i)≠aa:=Nat.ne_of_gt (Nat.lt_of_lt_of_le ab a.st.size);have D:=(a.fa 0 Q).2.2.1;have aC:(sz i)≠(sz s):=Nat.ne_of_gt D;have aD:(sz s)≠(sz i):=Nat.ne_of_lt D;have F:=(a.fa 1 Q).2.2.1;have aE:(sz i)≠(sz w):=Nat.ne_of_gt F;have aG:(sz w)≠(sz i):=Nat.ne_of_lt F;have j:t.heap[(sz i)]? =some (Ob #[.int .i64 (c.kind b),.int .i64 (c.pos b),.string (c.text b),.int .i64 (c.num b)] 86 (0,0)):=(u.block (sz i) sQ).trans (heap_alloc_new i _);replace a:=(a.alloc _).below u;clear u;replace e:=a.f2;have l:∀k,t.cell? ⟨(sz i),k,I⟩=(#[.int .i64 (c.kind b),.int .i64 (c.pos b),.string (c.text b),.int .i64 (c.num b)]:Array Value)[k]? :=λk=>cell_of_row _ _ k _ 86 (0,0) j;have m:(sz i)<(sz t):=(gE j).1
 cases G:(o==0)
 ·have v:o≠0:=sU G;go_wp2_with fail;go_light;exact(((a.up (g':=True) (λ_ f=>absurd f v)).dead (s':= -100) v).lk 0 (c.pos b) 0 0 ⟨#[]⟩ p dC (λf=>absurd f v)).rt Tryz.results81 1
 ·have H:Hid (o=0):=by show o=0;simpa using G
  have ac:Hid (∀K L M,(L=0->b<K)->M<64->Bd n c K L M):=q.out.dh H.out h.lt;by_cases aH:c.kind b=1
  ·have ad:b+1<c.len:=cZ h.ar h.lt oM;have ae:(c.kind b:Int)=1:=oM;have aI:=a.st.rd.r1;have aJ:=a.st.rd.fz 1;have aK:=a.st.rd.l;go_wp2_with fail;go_light;exact((((a.fA 20).jV (c.num b:Int)).jB (j':=b+1) ad (Nat.lt_succ_self _)).lk 20 (c.pos b) (c.num b:Int) 0 ⟨#[]⟩ p).rt Tryz.results81 1
  ·have ae:((c.kind b:Int)==1)=false:=by simp;omega
   by_cases aL:c.kind b=2
   ·have af:(c.kind b:Int)=2:=oM;go_wp2_with fail;refine(a.fA 23).nm (jw · 3 dC dC) ?_;clear a e l m;intro aM N aN aO aP ag aQ _ a;have e:=a.f2;go_wp2_with fail;refine(a.gI N).ln X ?_;clear a e;intro aR ah ai aj aS aT aU ak aV _ a;have e:=a.f2;go_wp2_with fail;go_light;exact((a.dT (J ah (O aj) ai)).fo 23 (c.pos b) 0 0 N (lT ak dC) p ag).rt Tryz.results81 1
   ·have af:((c.kind b:Int)==2)=false:=by simp;omega
    cases P:bS c b o 0 ⟨#[40]⟩
    ·go_wp2_with fail;refine(bw a.st.rd _ P).mono ?_;rintro f aY ⟨rfl,x⟩;replace j:=(x.block _ (gE j).1).trans j;replace a:=a.below x;clear x;replace e:=a.f2;clear l m;go_wp2_with fail;refine(aX a.st.rd 0 dC _).mono ?_;rintro f R ⟨rfl,y⟩;replace j:=(y.block _ (gE j).1).trans j;replace a:=a.below y;clear y;replace e:=a.f2;have l:∀k,R.cell? ⟨(sz i),k,I⟩=(#[.int .i64 (c.kind b),.int .i64 (c.pos b),.string (c.text b),.int .i64 (c.num b)]:Array Value)[k]? :=λk=>cell_of_row _ _ k _ 86 (0,0) j;have m:(sz i)<(sz R):=(gE j).1;by_cases al:c.kind b=3
     ·have ao:(c.kind b:Int)=3:=oM;go_wp2_with fail
      ·go_wp2_with fail;refine a.nd (A · (q.out.down a.le a.ok dC)) ?_;clear a e l m;intro aZ a0 a1 a2 a3 a4 _ a;have e:=a.f2;go_wp2_with fail;go_light;exact a.rt Tryz.results81 1
      ·go_wp2_with fail;refine a.nd (Z.qj H.out al · (q.out.down a.le a.ok dC)) ?_;clear a e l m;intro a5 a6 a7 a8 a9 a' _ a;have e:=a.f2;go_wp2_with fail;go_light;exact a.rt Tryz.results81 1
     ·have ao:((c.kind b:Int)==3)=false:=by simp;omega
      go_wp2_with fail
      ·go_wp2_with fail;refine a.nd (A · (q.out.down a.le a.ok dC)) ?_;clear a e l m;intro ba bb bc bd bf bg _ a;have e:=a.f2;go_wp2_with fail;go_light;exact a.rt Tryz.results81 1
      ·go_wp2_with fail;refine(ik a.st.rd).mono ?_;rintro f bh ⟨rfl,⟨bi,bj,r,S⟩,T⟩;replace a:=((a.rk S T (lR _) (λf=>absurd f r)).up (g':=True) (λ_ f=>absurd f r)).dead (s':=(-100)) r;clear S T;replace e:=a.f2;clear l m;go_wp2_with fail;go_light;exact(a.lk 0 (c.pos b) 0 0 ⟨#[]⟩ p dC (λf=>absurd f r)).rt Tryz.results81 1
    ·go_wp2_with fail;refine a.ey (eH · _ P) ?_;clear a e l m;intro bk a;have e:=a.f2;go_wp2_with fail;replace a:=a.fA 22;refine a.li (Y · (a.bd ac.out dC)) ?_;clear a e;intro bl ap V z bm bn bo aq bp _ a;have e:=a.f2;by_cases ar:O z=1
     ·obtain⟨au,rfl,bq,br,W,bs,bt,bu,bv,bx,bz,bA,bB,rfl,bC⟩:=a.first ar
      obtain⟨bD,bE⟩:=a.jJ W 0 Q;obtain⟨bF,bG⟩:=a.jJ W 1 Q;go_wp2_with fail;go_light;exact Mz.cq (C:=λ_=>True) (d:=8) Tryz.results81 Q Q (a.dT (J (some ⟨au,0,I⟩) 1 V)).wT 1 Q (λ_=>trivial) oM Q
     ·have bH:((O z:Int)==1)=false:=by simp;omega
      go_wp2_with fail;go_light;exact((a.dT (J ap (O z) V)).fk 22 (c.pos b) (lT aq dC) p).rt Tryz.results81 1
end Go.Proofs.YtdghkacbpebcoaaGreat
