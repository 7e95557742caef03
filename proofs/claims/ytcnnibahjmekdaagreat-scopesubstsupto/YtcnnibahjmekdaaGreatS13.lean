import Derived.Test.YtcnnibahjmekdaaGreatS02
namespace Go.Proofs.YtcnnibahjmekdaaGreat
open Go.RowKit
open Value renaming slice→J
open List renaming length→O
open Option renaming none→I
open World renaming heap→U
open _root_.Array renaming size→E
open Obj renaming cells→Ob
set_option linter.all false
set_option maxRecDepth 100000
set_option maxHeartbeats 0
theorem sR {n:Nat} (X:tL 100 False λ_=>True) (Y:iJ 101 19 n) (A:fj 69 7 n) (Z:ue n):fj 87 10 (n+1):=by
 intro w aa av aw b c o ax h B;have ab:=h.l;have q:Hid (Bd (n+1) c b o 10):=B;clear B;have p:(0:Int)<=(c.pos b:Int)/\(c.pos b:Int)<=7000:=oH (h.ar.aO b);go_enter Tryz.func87,Tryz.ntmps87
 have ay:(b:Int)<(c.len:Int):=oH h.lt;have az:(c.len:Int)<=6001:=oH h.ar.bB;have a:=Mz.start (wt:=1) h;go_wp2_with fail;refine(a.ne' (sz w) (aB)).lf (aE · 0) ?_;clear a;intro s a;have e:=a.f1;go_wp2_with fail;refine(a.ne' (sz s) (nk 0 (c.pos b) nl)).lf dP ?_;clear a e;intro i a;have e:=a.f2;go_wp2_with fail;refine(aV (a.alloc _).st.rd).mono ?_;rintro f t ⟨rfl,u⟩;have aA:(sz i)≠aa:=Nat.ne_of_gt (Nat.lt_of_lt_of_le ab a.st.size);have D:=(a.fa 0 Q).2.2.1;have aC:(sz i)≠(sz s):=Nat.ne_of_gt D;have aD:(sz s)≠(sz i):=Nat.ne_of_lt D;have F:=(a.fa 1 Q).2.2.1;have aF:(sz i)≠(sz w):=Nat.ne_of_gt F;have aG:(sz w)≠(sz i):=Nat.ne_of_lt F;have j:t.heap[(sz i)]? =some (Ob #[.int .i64 (c.kind b),.int .i64 (c.pos b),.string (c.text b),.int .i64 (c.num b)] 103 (0,0)):=(u.block (sz i) sQ).trans (heap_alloc_new i _);replace a:=(a.alloc _).below u;clear u;replace e:=a.f2;have l:∀k,t.cell? ⟨(sz i),k,I⟩=(#[.int .i64 (c.kind b),.int .i64 (c.pos b),.string (c.text b),.int .i64 (c.num b)]:Array Value)[k]? :=λk=>cell_of_row _ _ k _ 103 (0,0) j;have m:(sz i)<(sz t):=(gE j).1
 cases G:(o==0)
 ·have v:o≠0:=sU G;go_wp2_with fail;go_light;exact(((a.up (g':=True) (λ_ f=>absurd f v)).dead (s':= -100) v).lk 0 (c.pos b) 0 0 ⟨#[]⟩ p dC (λf=>absurd f v)).rt Tryz.results87 1
 ·have H:Hid (o=0):=by show o=0;simpa using G
  have ac:Hid (∀K L M,(L=0->b<K)->M<64->Bd n c K L M):=q.out.dA H.out h.lt;by_cases aH:c.kind b=1
  ·have ad:b+1<c.len:=dx h.ar h.lt oM;have ae:(c.kind b:Int)=1:=oM;have aI:=a.st.rd.r1;have aJ:=a.st.rd.fz 1;have aK:=a.st.rd.l;go_wp2_with fail;go_light;exact((((a.fE 20).jW (c.num b:Int)).jE (j':=b+1) ad (Nat.lt_succ_self _)).lk 20 (c.pos b) (c.num b:Int) 0 ⟨#[]⟩ p).rt Tryz.results87 1
  ·have ae:((c.kind b:Int)==1)=false:=by simp;omega
   by_cases aL:c.kind b=2
   ·have af:(c.kind b:Int)=2:=oM;go_wp2_with fail;refine(a.fE 23).nm (jy · 3 dC dC) ?_;clear a e l m;intro aM N aN aO aP ag aQ _ a;have e:=a.f2;go_wp2_with fail;refine(a.gI N).ln X ?_;clear a e;intro aR ah ai aj aS aT aU ak aX _ a;have e:=a.f2;go_wp2_with fail;go_light;exact((a.ek (J ah (O aj) ai)).fo 23 (c.pos b) 0 0 N (lT ak dC) p ag).rt Tryz.results87 1
   ·have af:((c.kind b:Int)==2)=false:=by simp;omega
    cases P:bW c b o 0 ⟨#[40]⟩
    ·go_wp2_with fail;refine(bu a.st.rd _ P).mono ?_;rintro f aY ⟨rfl,x⟩;replace j:=(x.block _ (gE j).1).trans j;replace a:=a.below x;clear x;replace e:=a.f2;clear l m;go_wp2_with fail;refine(aW a.st.rd 0 dC _).mono ?_;rintro f R ⟨rfl,y⟩;replace j:=(y.block _ (gE j).1).trans j;replace a:=a.below y;clear y;replace e:=a.f2;have l:∀k,R.cell? ⟨(sz i),k,I⟩=(#[.int .i64 (c.kind b),.int .i64 (c.pos b),.string (c.text b),.int .i64 (c.num b)]:Array Value)[k]? :=λk=>cell_of_row _ _ k _ 103 (0,0) j;have m:(sz i)<(sz R):=(gE j).1;by_cases al:c.kind b=3
     ·have ao:(c.kind b:Int)=3:=oM;go_wp2_with fail
      ·go_wp2_with fail;refine a.nd (A · (q.out.down a.le a.ok dC)) ?_;clear a e l m;intro aZ a0 a1 a2 a3 a4 _ a;have e:=a.f2;go_wp2_with fail;go_light;exact a.rt Tryz.results87 1
      ·go_wp2_with fail;refine a.nd (Z.rV H.out al · (q.out.down a.le a.ok dC)) ?_;clear a e l m;intro a5 a6 a7 a8 a9 a' _ a;have e:=a.f2;go_wp2_with fail;go_light;exact a.rt Tryz.results87 1
     ·have ao:((c.kind b:Int)==3)=false:=by simp;omega
      go_wp2_with fail
      ·go_wp2_with fail;refine a.nd (A · (q.out.down a.le a.ok dC)) ?_;clear a e l m;intro ba bb bc bd bf bg _ a;have e:=a.f2;go_wp2_with fail;go_light;exact a.rt Tryz.results87 1
      ·go_wp2_with fail;refine(ir a.st.rd).mono ?_;rintro f bh ⟨rfl,⟨bi,bj,r,S⟩,T⟩;replace a:=((a.rk S T (lR _) (λf=>absurd f r)).up (g':=True) (λ_ f=>absurd f r)).dead (s':=(-100)) r;clear S T;replace e:=a.f2;clear l m;go_wp2_with fail;go_light;exact(a.lk 0 (c.pos b) 0 0 ⟨#[]⟩ p dC (λf=>absurd f r)).rt Tryz.results87 1
    ·go_wp2_with fail;refine a.ey (eP · _ P) ?_;clear a e l m;intro bk a;have e:=a.f2;go_wp2_with fail;replace a:=a.fE 22;refine a.li (Y · (a.bd ac.out dC)) ?_;clear a e;intro bl ap V z bm bn bo aq bp _ a;have e:=a.f2;by_cases ar:O z=1
     ·obtain⟨au,rfl,bq,br,W,bs,bt,bv,bw,bx,bz,bA,bB,rfl,bC⟩:=a.first ar
      obtain⟨bD,bE⟩:=a.jM W 0 Q;obtain⟨bF,bG⟩:=a.jM W 1 Q;go_wp2_with fail;go_light;exact Mz.cC (C:=λ_=>True) (d:=8) Tryz.results87 Q Q (a.ek (J (some ⟨au,0,I⟩) 1 V)).xH 1 Q (λ_=>trivial) oM Q
     ·have bH:((O z:Int)==1)=false:=by simp;omega
      go_wp2_with fail;go_light;exact((a.ek (J ap (O z) V)).fk 22 (c.pos b) (lT aq dC) p).rt Tryz.results87 1
end Go.Proofs.YtcnnibahjmekdaaGreat
