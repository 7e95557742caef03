import Derived.Test.YtcnnibahjmekdaaGreatS02
namespace Go.Proofs.YtcnnibahjmekdaaGreat
open Go.RowKit
open Value renaming slice→J
open List renaming length→O
open Option renaming none→I
open World renaming heap→U
open _root_.Array renaming size→E
open Obj renaming cells→Ob
set_option linter.all false
set_option maxRecDepth 100000
set_option maxHeartbeats 0
theorem zw {e:Nat} (A:fj 88 18 e) (r:fj 69 7 e) (B:gz 105 8 e):gz 105 8 (e+1):=by
 intro w C D F c d ab h k;obtain⟨f,l⟩:∃f:Int,f=0:=⟨_,Q⟩;rw[<-l] at h k⊢;have G:Hid (f=0):=l;clear l;have ac:=h.l;have H:Hid (Bd (e+1) d c f 8):=k;clear k;have j:Hid (∀s t u,(t=0->c<s)->u<64->Bd e d s t u):=H.out.dA G.out h.lt;have m:(0:Int)<=(d.pos c:Int)/\(d.pos c:Int)<=7000:=oH (h.ar.aO c);go_enter Tryz.func105,Tryz.ntmps105
 have a:=Mz.start (wt:=1) h;go_wp2_with fail;refine(a.ne' (sz w) (aB)).lf (aE · 33) ?_;clear a;intro v a;have b:=a.f1;go_wp2_with fail;refine(a.ne' (sz v) (nk 33 (d.pos c) nl)).wn (aH · _) ?_;clear a b;intro ad ae af ag _ a;have b:=a.f2;go_wp2_with fail;refine a.nd (A · (a.bd j.out dC)) ?_;clear a b;intro x n ah ai aj ak _ a;have b:=a.f2;go_upto_region 4 with fail
 go_cut [] (λK=>∃(o:Value) (i:List (List Value)) (y:Nat) (p z:Int),O i<=2/\Mz 1 w C D F d c f True (-32) K y p z [(sz x,n.a),(sz v,nk 33 (d.pos c) o),(sz w,aB)] [] o i)
 case first=>
  go_wp2_with fail;go_region_law (replace a:=(a.ne' (sz x) n.a).drew;go_simp;refine a.nd (r · (a.bd j.out dC)) ?_;clear a b;intro q L M N P al _ a;have b:=a.f3)
  all_goals
   go_wp2_with fail;go_meet;exact⟨(sl (sz q) 2),[n.t,L.t],M,N,P,sQ,((((a.swap).iW (sl (sz q) 2)).m2 (sz q)).less oM)⟩
 case rest=>
  clear b a;obtain⟨o,i,y,p,z,ao,a⟩:=hcut;obtain⟨ap,R⟩:∃S,S=wc:=⟨_,Q⟩;subst R;have b:=a.f3;obtain⟨aq,ar,rfl⟩:=a.shape;replace b:=a.f3;go_wp2_with fail;refine a.et (aR · _) ?_;clear a b;intro au av aw ax a;have b:=a.f3;go_wp2_with fail
  ·go_wp2_with fail;refine a.lf (aW · 0 dC _) ?_;clear a b;intro ay a;have b:=a.f3;go_wp2_with fail
   ·have T:Hid (p=0):=(dI h.ar a.st.rd.lt ‹_›).1;go_wp2_with fail;go_region_law (first|(refine a.as (sz V) oM ?_;clear a b;intro az W X a;have b:=a.f3)|(replace a:=a.drew;go_simp;refine a.nd (B.rV T.out · (a.bd j.out dC)) ?_;clear a b;intro V aA aC aD aF aG _ a;have b:=a.f3))
    all_goals
     go_wp2_with fail;go_light;exact((a.iW (J W (O i+1) X)).fk 33 (d.pos c) (by first|(simp;omega)|omega) m).rt Tryz.results105 2
   ·go_wp2_with fail;go_region_law (first|(refine a.as (sz Y) oM ?_;clear a b;intro aI Z aa a;have b:=a.f3)|(replace a:=a.drew;go_simp;refine a.nd (r · (a.bd j.out dC)) ?_;clear a b;intro Y aJ aK aL aM aN _ a;have b:=a.f3))
    all_goals
     go_wp2_with fail;go_light;exact((a.iW (J Z (O i+1) aa)).fk 33 (d.pos c) (by first|(simp;omega)|omega) m).rt Tryz.results105 2
  ·go_wp2_with fail;go_light;exact(a.fk 33 (d.pos c) (by first|(simp;omega)|omega) m).rt Tryz.results105 2
section
variable{a k:Int} {N cap i rb tb:Nat} {t:Tk} {w:World}
theorem qN (r:t.kind i=3) (h:Rd w rb tb cap t i k a) (d:k=0) (e:Bd (N+1) t i k 9) (t0:((t.text i).toList==[116,114,117,101])=true):Calls Tryz.prog 102 #[.pointer (some ⟨rb,0,I⟩)] w (aY 1 w rb tb cap t i k True 8 λ_=>True):=by
 have m:Hid (k=0):=d;clear d;have s:=h.l;have n:Hid (Bd (N+1) t i k 9):=e;clear e;have u:Hid (∀f j l,(j=0->i<f)->l<64->Bd N t f j l):=n.out.dA m.out h.lt;have o:(0:Int)<=(t.pos i:Int)/\(t.pos i:Int)<=7000:=oH (h.ar.aO i);go_enter Tryz.func102,Tryz.ntmps102
 have v:(i:Int)<(t.len:Int):=oH h.lt;have x:(t.len:Int)<=6001:=oH h.ar.bB;have p:i+1<t.len:=dx h.ar h.lt oM;have y:=cE;have b:=Mz.start (wt:=1) h;go_wp2_with fail;refine(b.ne' (sz w) (aB)).lf (aE · 0) ?_;clear b;intro q b;have c:=b.f1;go_wp2_with fail;refine(b.ne' (sz q) (nk 0 (t.pos i) nl)).lf dP ?_;clear b c;intro z b;have c:=b.f2;go_wp2_with fail;refine(b.fE 21).lf dP ?_;clear b c;intro A b;have c:=b.f2;have B:=b.st.rd.r1;have C:=b.st.rd.fz 1;have D:=b.st.rd.l;go_wp2_with fail;go_light;exact(((b.jW 1).jE (j':=i+1) p (Nat.lt_succ_self _)).lk 21 (t.pos i) 1 0 ⟨#[]⟩ o).rt Tryz.results102 1
theorem qM (r:t.kind i=3) (h:Rd w rb tb cap t i k a) (d:k=0) (e:Bd (N+1) t i k 9) (t0:((t.text i).toList==[116,114,117,101])=false) (t1:((t.text i).toList==[102,97,108,115,101])=true):Calls Tryz.prog 102 #[.pointer (some ⟨rb,0,I⟩)] w (aY 1 w rb tb cap t i k True 8 λ_=>True):=by
 have m:Hid (k=0):=d;clear d;have s:=h.l;have n:Hid (Bd (N+1) t i k 9):=e;clear e;have u:Hid (∀f j l,(j=0->i<f)->l<64->Bd N t f j l):=n.out.dA m.out h.lt;have o:(0:Int)<=(t.pos i:Int)/\(t.pos i:Int)<=7000:=oH (h.ar.aO i);go_enter Tryz.func102,Tryz.ntmps102
 have v:(i:Int)<(t.len:Int):=oH h.lt;have x:(t.len:Int)<=6001:=oH h.ar.bB;have p:i+1<t.len:=dx h.ar h.lt oM;have y:=cE;have b:=Mz.start (wt:=1) h;go_wp2_with fail;refine(b.ne' (sz w) (aB)).lf (aE · 0) ?_;clear b;intro q b;have c:=b.f1;go_wp2_with fail;refine(b.ne' (sz q) (nk 0 (t.pos i) nl)).lf dP ?_;clear b c;intro z b;have c:=b.f2;go_wp2_with fail;refine(b.fE 21).lf dP ?_;clear b c;intro A b;have c:=b.f2;have B:=b.st.rd.r1;have C:=b.st.rd.fz 1;have D:=b.st.rd.l;go_wp2_with fail;go_light;exact((b.jE (j':=i+1) p (Nat.lt_succ_self _)).lk 21 (t.pos i) 0 0 ⟨#[]⟩ o).rt Tryz.results102 1
theorem qL (r:t.kind i=3) (h:Rd w rb tb cap t i k a) (c:k=0) (d:Bd (N+1) t i k 9) (t0:((t.text i).toList==[116,114,117,101])=false) (t1:((t.text i).toList==[102,97,108,115,101])=false) (t2:((t.text i).toList==[98,114,101,97,107])=true):Calls Tryz.prog 102 #[.pointer (some ⟨rb,0,I⟩)] w (aY 1 w rb tb cap t i k True 8 λ_=>True):=by
 have m:Hid (k=0):=c;clear c;have s:=h.l;have n:Hid (Bd (N+1) t i k 9):=d;clear d;have u:Hid (∀e f j,(f=0->i<e)->j<64->Bd N t e f j):=n.out.dA m.out h.lt;have o:(0:Int)<=(t.pos i:Int)/\(t.pos i:Int)<=7000:=oH (h.ar.aO i);go_enter Tryz.func102,Tryz.ntmps102
 have v:(i:Int)<(t.len:Int):=oH h.lt;have x:(t.len:Int)<=6001:=oH h.ar.bB;have p:i+1<t.len:=dx h.ar h.lt oM;have y:=cE;have b:=Mz.start (wt:=1) h;go_wp2_with fail;refine(b.ne' (sz w) (aB)).lf (aE · 0) ?_;clear b;intro q b;have l:=b.f1;go_wp2_with fail;refine(b.ne' (sz q) (nk 0 (t.pos i) nl)).lf dP ?_;clear b l;intro z b;have l:=b.f2;have A:=b.st.rd.r1;have B:=b.st.rd.fz 1;have C:=b.st.rd.l;go_wp2_with fail;go_light;exact(((b.fE 38).jE (j':=i+1) p (Nat.lt_succ_self _)).lk 38 (t.pos i) 0 0 ⟨#[]⟩ o).rt Tryz.results102 1
theorem qK (r:t.kind i=3) (h:Rd w rb tb cap t i k a) (c:k=0) (d:Bd (N+1) t i k 9) (t0:((t.text i).toList==[116,114,117,101])=false) (t1:((t.text i).toList==[102,97,108,115,101])=false) (t2:((t.text i).toList==[98,114,101,97,107])=false) (t3:((t.text i).toList==[110,101,120,116])=true):Calls Tryz.prog 102 #[.pointer (some ⟨rb,0,I⟩)] w (aY 1 w rb tb cap t i k True 8 λ_=>True):=by
 have m:Hid (k=0):=c;clear c;have s:=h.l;have n:Hid (Bd (N+1) t i k 9):=d;clear d;have u:Hid (∀e f j,(f=0->i<e)->j<64->Bd N t e f j):=n.out.dA m.out h.lt;have o:(0:Int)<=(t.pos i:Int)/\(t.pos i:Int)<=7000:=oH (h.ar.aO i);go_enter Tryz.func102,Tryz.ntmps102
 have v:(i:Int)<(t.len:Int):=oH h.lt;have x:(t.len:Int)<=6001:=oH h.ar.bB;have p:i+1<t.len:=dx h.ar h.lt oM;have y:=cE;have b:=Mz.start (wt:=1) h;go_wp2_with fail;refine(b.ne' (sz w) (aB)).lf (aE · 0) ?_;clear b;intro q b;have l:=b.f1;go_wp2_with fail;refine(b.ne' (sz q) (nk 0 (t.pos i) nl)).lf dP ?_;clear b l;intro z b;have l:=b.f2;have A:=b.st.rd.r1;have B:=b.st.rd.fz 1;have C:=b.st.rd.l;go_wp2_with fail;go_light;exact(((b.fE 39).jE (j':=i+1) p (Nat.lt_succ_self _)).lk 39 (t.pos i) 0 0 ⟨#[]⟩ o).rt Tryz.results102 1
theorem qJ (r:t.kind i=3) (h:Rd w rb tb cap t i k a) (c:k=0) (d:Bd (N+1) t i k 9) (t0:((t.text i).toList==[116,114,117,101])=false) (t1:((t.text i).toList==[102,97,108,115,101])=false) (t2:((t.text i).toList==[98,114,101,97,107])=false) (t3:((t.text i).toList==[110,101,120,116])=false) (s:((t.text i).toList==[112,97,110,105,99])=true):Calls Tryz.prog 102 #[.pointer (some ⟨rb,0,I⟩)] w (aY 1 w rb tb cap t i k True 8 λ_=>True):=by
 have m:Hid (k=0):=c;clear c;have u:=h.l;have n:Hid (Bd (N+1) t i k 9):=d;clear d;have v:Hid (∀e f j,(f=0->i<e)->j<64->Bd N t e f j):=n.out.dA m.out h.lt;have o:(0:Int)<=(t.pos i:Int)/\(t.pos i:Int)<=7000:=oH (h.ar.aO i);go_enter Tryz.func102,Tryz.ntmps102
 have x:(i:Int)<(t.len:Int):=oH h.lt;have y:(t.len:Int)<=6001:=oH h.ar.bB;have p:i+1<t.len:=dx h.ar h.lt oM;have z:=cE;have b:=Mz.start (wt:=1) h;go_wp2_with fail;refine(b.ne' (sz w) (aB)).lf (aE · 0) ?_;clear b;intro q b;have l:=b.f1;go_wp2_with fail;refine(b.ne' (sz q) (nk 0 (t.pos i) nl)).lf dP ?_;clear b l;intro A b;have l:=b.f2;have B:=b.st.rd.r1;have C:=b.st.rd.fz 1;have D:=b.st.rd.l;go_wp2_with fail;go_light;exact(((b.fE 41).jE (j':=i+1) p (Nat.lt_succ_self _)).lk 41 (t.pos i) 0 0 ⟨#[]⟩ o).rt Tryz.results102 1
end
end Go.Proofs.YtcnnibahjmekdaaGreat
