/- The project's parser: lists. -/
import Derived.Test.YtdplogkmkgekdaaGreatDoorPkl
set_option linter.all false
set_option maxRecDepth 100000
set_option maxHeartbeats 4000000
namespace Go.Proofs.YtdplogkmkgekdaaGreatDoor.Pj
open Go.RowKit
@[go_sem] theorem eql_func (fn:Fn) (a b:Array Value) (w:World):(binOp .eql 92 (.func fn a b) .nilFunc).run Tryz.prog w=.ok (.bool false) w:=by kernel_rfl
@[go_sem] theorem eql_nil (w:World):(binOp .eql 92 .nilFunc .nilFunc).run Tryz.prog w=.ok (.bool true) w:=by kernel_rfl
def EntC (w:World) (bd:Nat) (e:Ent) (ts:Array Value):Prop:=if e.fn=144 then ∃b1 b2,b1<bd∧b2<bd∧ts=#[.pointer (some ⟨b1,0,none⟩),.pointer (some ⟨b2,0,none⟩)]∧w.heap[b1]? =some (.cells #[.int .i64 e.bk] 3 (0,0))∧w.heap[b2]? =some (.cells #[.int .i64 e.bn] 3 (0,0)) else ts=#[]
theorem EntV.parts {w:World} {bd:Nat} {e:Ent} {v:Value} (h:EntV w bd e v):∃ts,v=.func (.func e.fn) #[] ts∧EntC w bd e ts:=by
 unfold EntV at h
 unfold EntC
 split at h
 ·rename_i hf
  obtain⟨b1,b2,h1,h2,h3,h4,h5⟩:=h
  exact⟨_,by rw[hf];exact h3,by rw[if_pos hf];exact⟨b1,b2,h1,h2,rfl,h4,h5⟩⟩
 ·rename_i hf
  exact⟨_,h,by rw[if_neg hf]⟩
theorem TabsW.of {w w':World} {bd vb:Nat} {tbs:List (Nat × List Ent)} (h:TabsW w bd vb tbs) (h1:w'.heap[vb]? =w.heap[vb]?) (hb:∀k,k<bd→w'.heap[k]? =w.heap[k]?):TabsW w' bd vb tbs:=by
 obtain⟨cs,h2,h3⟩:=h
 refine⟨cs,h1.trans h2,fun k a es he=>?_⟩
 obtain⟨x1,x2,x3,x4⟩:=h3 k a es he
 exact⟨x1,x2.of hb,x3,x4⟩
theorem TabsW.alloc {w:World} {bd vb:Nat} {tbs:List (Nat × List Ent)} (h:TabsW w bd vb tbs) (o:Obj) (hbd:bd≤w.heap.size):TabsW (w.alloc o) bd vb tbs:=
 h.of (Below.heap_alloc _ _ _ (by obtain⟨cs,h2,_⟩:=h;exact(Array.getElem?_eq_some_iff.1 h2).1)) (fun k hk=>Below.heap_alloc _ _ _ (by omega))
def Ein (f:Nat):Prop:=∀args w,(callFunc f args).run Tryz.prog w=.ok (.enter f args) w
theorem ein_of {f : Nat} {fn : Func} {c : Code} (hf : Tryz.prog.funcs[f]? = some fn) (hname : (fn.name == "runtime.NumGoroutine") = false) (hb : fn.body = some c) : Ein f := fun args w => by
 have h1 : ¬ fn.name = "runtime.NumGoroutine" := by simpa using hname
 simp[callFunc,hf,h1,hb]
theorem ein61:Ein 61:=ein_of (f:=61) (fn:=Tryz.f61) (by kernel_rfl) (by kernel_rfl) rfl
theorem ein62:Ein 62:=ein_of (f:=62) (fn:=Tryz.f62) (by kernel_rfl) (by kernel_rfl) rfl
theorem ein63:Ein 63:=ein_of (f:=63) (fn:=Tryz.f63) (by kernel_rfl) (by kernel_rfl) rfl
theorem ein64:Ein 64:=ein_of (f:=64) (fn:=Tryz.f64) (by kernel_rfl) (by kernel_rfl) rfl
theorem ein66:Ein 66:=ein_of (f:=66) (fn:=Tryz.f66) (by kernel_rfl) (by kernel_rfl) rfl
theorem ein67:Ein 67:=ein_of (f:=67) (fn:=Tryz.f67) (by kernel_rfl) (by kernel_rfl) rfl
theorem ein68:Ein 68:=ein_of (f:=68) (fn:=Tryz.f68) (by kernel_rfl) (by kernel_rfl) rfl
theorem ein71:Ein 71:=ein_of (f:=71) (fn:=Tryz.f71) (by kernel_rfl) (by kernel_rfl) rfl
theorem ein72:Ein 72:=ein_of (f:=72) (fn:=Tryz.f72) (by kernel_rfl) (by kernel_rfl) rfl
theorem ein73:Ein 73:=ein_of (f:=73) (fn:=Tryz.f73) (by kernel_rfl) (by kernel_rfl) rfl
theorem ein74:Ein 74:=ein_of (f:=74) (fn:=Tryz.f74) (by kernel_rfl) (by kernel_rfl) rfl
theorem ein75:Ein 75:=ein_of (f:=75) (fn:=Tryz.f75) (by kernel_rfl) (by kernel_rfl) rfl
theorem ein76:Ein 76:=ein_of (f:=76) (fn:=Tryz.f76) (by kernel_rfl) (by kernel_rfl) rfl
theorem ein77:Ein 77:=ein_of (f:=77) (fn:=Tryz.f77) (by kernel_rfl) (by kernel_rfl) rfl
theorem ein78:Ein 78:=ein_of (f:=78) (fn:=Tryz.f78) (by kernel_rfl) (by kernel_rfl) rfl
theorem ein79:Ein 79:=ein_of (f:=79) (fn:=Tryz.f79) (by kernel_rfl) (by kernel_rfl) rfl
theorem ein80:Ein 80:=ein_of (f:=80) (fn:=Tryz.f80) (by kernel_rfl) (by kernel_rfl) rfl
theorem ein82:Ein 82:=ein_of (f:=82) (fn:=Tryz.f82) (by kernel_rfl) (by kernel_rfl) rfl
theorem ein83:Ein 83:=ein_of (f:=83) (fn:=Tryz.f83) (by kernel_rfl) (by kernel_rfl) rfl
theorem ein84:Ein 84:=ein_of (f:=84) (fn:=Tryz.f84) (by kernel_rfl) (by kernel_rfl) rfl
theorem ein85:Ein 85:=ein_of (f:=85) (fn:=Tryz.f85) (by kernel_rfl) (by kernel_rfl) rfl
theorem ein144:Ein 144:=ein_of (f:=144) (fn:=Tryz.f144) (by kernel_rfl) (by kernel_rfl) rfl
theorem ein_esItems:∀e∈esItems,Ein e.fn:=by
 intro e he
 simp only[esItems,List.mem_cons,List.not_mem_nil,or_false] at he
 rcases he with rfl|rfl|rfl|rfl
 ·exact ein61
 ·exact ein62
 ·exact ein63
 ·exact ein64
theorem ask_esItems:∀e∈esItems,e.txt∈askS:=by
 intro e he
 simp only[esItems,List.mem_cons,List.not_mem_nil,or_false] at he
 rcases he with rfl|rfl|rfl|rfl
 all_goals exact ask
theorem ein_esTypes:∀e∈esTypes,Ein e.fn:=by
 intro e he
 simp only[esTypes,List.mem_cons,List.not_mem_nil,or_false] at he
 rcases he with rfl|rfl|rfl|rfl|rfl|rfl
 ·exact ein144
 ·exact ein144
 ·exact ein66
 ·exact ein67
 ·exact ein67
 ·exact ein68
theorem ask_esTypes:∀e∈esTypes,e.txt∈askS:=by
 intro e he
 simp only[esTypes,List.mem_cons,List.not_mem_nil,or_false] at he
 rcases he with rfl|rfl|rfl|rfl|rfl|rfl
 all_goals exact ask
theorem ein_esAlone:∀e∈esAlone,Ein e.fn:=by
 intro e he
 simp only[esAlone,List.mem_cons,List.not_mem_nil,or_false] at he
 rcases he with rfl|rfl|rfl|rfl|rfl
 ·exact ein71
 ·exact ein72
 ·exact ein73
 ·exact ein74
 ·exact ein75
theorem ask_esAlone:∀e∈esAlone,e.txt∈askS:=by
 intro e he
 simp only[esAlone,List.mem_cons,List.not_mem_nil,or_false] at he
 rcases he with rfl|rfl|rfl|rfl|rfl
 all_goals exact ask
theorem ein_esOthers:∀e∈esOthers,Ein e.fn:=by
 intro e he
 simp only[esOthers,List.mem_cons,List.not_mem_nil,or_false] at he
 rcases he with rfl|rfl|rfl|rfl|rfl|rfl|rfl|rfl|rfl|rfl
 ·exact ein144
 ·exact ein144
 ·exact ein144
 ·exact ein144
 ·exact ein144
 ·exact ein76
 ·exact ein77
 ·exact ein78
 ·exact ein79
 ·exact ein80
theorem ask_esOthers:∀e∈esOthers,e.txt∈askS:=by
 intro e he
 simp only[esOthers,List.mem_cons,List.not_mem_nil,or_false] at he
 rcases he with rfl|rfl|rfl|rfl|rfl|rfl|rfl|rfl|rfl|rfl
 all_goals exact ask
theorem ein_esPats:∀e∈esPats,Ein e.fn:=by
 intro e he
 simp only[esPats,List.mem_cons,List.not_mem_nil,or_false] at he
 rcases he with rfl|rfl|rfl|rfl|rfl|rfl|rfl
 ·exact ein144
 ·exact ein144
 ·exact ein144
 ·exact ein82
 ·exact ein83
 ·exact ein84
 ·exact ein85
theorem ask_esPats:∀e∈esPats,e.txt∈askS:=by
 intro e he
 simp only[esPats,List.mem_cons,List.not_mem_nil,or_false] at he
 rcases he with rfl|rfl|rfl|rfl|rfl|rfl|rfl
 all_goals exact ask
theorem firstB_mem {t:Tk} {i:Nat} {es:List Ent} {e:Ent} (h:firstB t i es=some e):e∈es:=List.mem_of_find?_eq_some h
theorem readP {w:World} {rb tb i:Nat} {cap:Cp} {t:Tk} (h:Rd w rb tb cap t i 0 0) {vb n:Nat} {tbs:List (Nat × List Ent)} {m:Nat→GP (List Nr)} (hv:TabsW w cap.bd vb tbs) (hn:n=tbs.length) (hn2:n≤2) (HI:∀e∈tbs.flatMap (·.2),Ein e.fn)
 (H:∀e w' ts,firstB t i (tbs.flatMap (·.2))=some e→EntC w' cap.bd e ts→Rd w' rb tb cap t i 0 0→Calls Tryz.prog e.fn (#[.pointer (some ⟨rb,0,none⟩)]++ts) w' (NodeP w' rb tb cap t i True m)) (H0:firstB t i (tbs.flatMap (·.2))=none→Wr m ⟨i,0,0⟩ (t.pos i)):
 Calls Tryz.prog 151 #[.pointer (some ⟨rb,0,none⟩),.slice (some ⟨vb,0,none⟩) n n] w (NodeP w rb tb cap t i True m):=by
 subst hn
 have HH:=Hid_nx H
 have HH0:=Hid_nx H0
 have HV:=Hid_nx (hv.alloc (.cells zeroC 28) (by have:=h.bl;have:=h.l;omega))
 have hl:=h.l
 clear H H0 hv
 go_enter Tryz.func151,Tryz.ntmps151
 have q:=Mf.start h
 go_wp2_with fail
 refine(begunP (q.ne' (sz w) zeroC).st.rd HV.out rfl hn2).mono ?_
 rintro e w1 ⟨v,rfl,(⟨en,he,hv⟩|⟨he,rfl⟩),hb1⟩
 ·obtain⟨ts,rfl,hc⟩:=hv.parts
  replace q:=(q.ne' (sz w) zeroC).below hb1
  have HE:=Hid_nx he
  have HC:=Hid_nx hc
  clear hv he hc hb1
  have F:=q.f1
  have hin:∀args w,(callFunc en.fn args).run Tryz.prog w=.ok (.enter en.fn args) w:=HI en (firstB_mem HE.out)
  go_wp2_with fail
  refine q.nd (fun hr=>HH.out en w1 ts HE.out HC.out hr) (fun w' p hk hw=>⟨rfl,.inr (q.thr hk hw)⟩) ?_
  clear q F
  intro w2 x2 i2 y2 hl2 m2 q
  have F:=q.f1
  go_wp2_with fail
  go_light
  exact Mf.rt q Tryz.results151 0 m2
 ·replace q:=(q.ne' (sz w) zeroC).below hb1
  have HE:=Hid_nx he
  clear he hb1
  have hrd:=q.st.rd
  go_wp2_with (go_at_call 164;refine(wrongP hrd).mono ?_;rintro e w2 ⟨rfl,hb2⟩)
  exact⟨rfl,.inr (q.thr (Kp.of_below hb2) (HH0.out HE.out))⟩
end Go.Proofs.YtdplogkmkgekdaaGreatDoor.Pj
namespace Go.Proofs.YtdplogkmkgekdaaGreatDoor.Pj
open Go.RowKit
abbrev Res:=(List (List Nr) × Nat) ⊕ Int
def PLoop (t:Tk) (X:Nat→GP (List Nr)) (bet en:ByteArray) (lo:Bool) (j:Nat) (F:List (List Nr)) (r:Res):Prop:=∀P:Nat→List (List Nr)→Res→Prop,
 (∀{j:Nat} {F:List (List Nr)},en.toList.isEmpty=false→isB t j 0 0 bet=false→isB t j 0 0 en=true→P j F (.inl (F,j+1)))→
 (∀{j:Nat} {F:List (List Nr)},en.toList.isEmpty=true→isB t j 0 0 bet=false→P j F (.inl (F,j)))→
 (∀{j:Nat} {F:List (List Nr)},en.toList.isEmpty=false→isB t j 0 0 bet=false→isB t j 0 0 en=false→P j F (.inr (t.pos j)))→
 (∀{j:Nat} {F:List (List Nr)},lo=true→isB t j 0 0 bet=true→isB t (j+1) 0 0 en=true→P j F (.inl (F,j+2)))→
 (∀{j:Nat} {F:List (List Nr)} {y:List Nr} {j2:Nat} {r:Res},isB t j 0 0 bet=true→(lo=true→isB t (j+1) 0 0 en=false)→Ev X ⟨j+1,0,0⟩ (y,⟨j2,0,0⟩)→P j2 (F++[y]) r→P j F r)→
 (∀{j:Nat} {F:List (List Nr)} {p:Int},isB t j 0 0 bet=true→(lo=true→isB t (j+1) 0 0 en=false)→Wr X ⟨j+1,0,0⟩ p→P j F (.inr p))→P j F r
section
variable {t:Tk} {X:Nat→GP (List Nr)} {bet en:ByteArray} {lo:Bool}
theorem PLoop.stop {j:Nat} {F:List (List Nr)}:en.toList.isEmpty=false→isB t j 0 0 bet=false→isB t j 0 0 en=true→PLoop t X bet en lo j F (.inl (F,j+1)):=fun h1 h2 h3 P c_stop c_stop0 c_thrEnd c_endLoose c_next c_thr=>c_stop h1 h2 h3
theorem PLoop.stop0 {j:Nat} {F:List (List Nr)}:en.toList.isEmpty=true→isB t j 0 0 bet=false→PLoop t X bet en lo j F (.inl (F,j)):=fun h1 h2 P c_stop c_stop0 c_thrEnd c_endLoose c_next c_thr=>c_stop0 h1 h2
theorem PLoop.thrEnd {j:Nat} {F:List (List Nr)}:en.toList.isEmpty=false→isB t j 0 0 bet=false→isB t j 0 0 en=false→PLoop t X bet en lo j F (.inr (t.pos j)):=fun h1 h2 h3 P c_stop c_stop0 c_thrEnd c_endLoose c_next c_thr=>c_thrEnd h1 h2 h3
theorem PLoop.endLoose {j:Nat} {F:List (List Nr)}:lo=true→isB t j 0 0 bet=true→isB t (j+1) 0 0 en=true→PLoop t X bet en lo j F (.inl (F,j+2)):=fun h1 h2 h3 P c_stop c_stop0 c_thrEnd c_endLoose c_next c_thr=>c_endLoose h1 h2 h3
theorem PLoop.next {j:Nat} {F:List (List Nr)} {y:List Nr} {j2:Nat} {r:Res}:isB t j 0 0 bet=true→(lo=true→isB t (j+1) 0 0 en=false)→Ev X ⟨j+1,0,0⟩ (y,⟨j2,0,0⟩)→PLoop t X bet en lo j2 (F++[y]) r→PLoop t X bet en lo j F r:=fun h1 h2 h3 h4 P c_stop c_stop0 c_thrEnd c_endLoose c_next c_thr=>c_next h1 h2 h3 (h4 P c_stop c_stop0 c_thrEnd c_endLoose c_next c_thr)
theorem PLoop.thr {j:Nat} {F:List (List Nr)} {p:Int}:isB t j 0 0 bet=true→(lo=true→isB t (j+1) 0 0 en=false)→Wr X ⟨j+1,0,0⟩ p→PLoop t X bet en lo j F (.inr p):=fun h1 h2 h3 P c_stop c_stop0 c_thrEnd c_endLoose c_next c_thr=>c_thr h1 h2 h3
theorem PLoop.ind {motive:∀(j:Nat) (F:List (List Nr)) (r:Res),PLoop t X bet en lo j F r→Prop}
 (stop:∀{j:Nat} {F:List (List Nr)} (h0:en.toList.isEmpty=false) (h1:isB t j 0 0 bet=false) (h2:isB t j 0 0 en=true),motive _ _ _ (PLoop.stop h0 h1 h2 (t:=t) (X:=X) (bet:=bet) (en:=en) (lo:=lo) (F:=F)))
 (stop0:∀{j:Nat} {F:List (List Nr)} (h0:en.toList.isEmpty=true) (h1:isB t j 0 0 bet=false),motive _ _ _ (PLoop.stop0 h0 h1 (t:=t) (X:=X) (bet:=bet) (en:=en) (lo:=lo) (F:=F)))
 (thrEnd:∀{j:Nat} {F:List (List Nr)} (h0:en.toList.isEmpty=false) (h1:isB t j 0 0 bet=false) (h2:isB t j 0 0 en=false),motive _ _ _ (PLoop.thrEnd h0 h1 h2 (t:=t) (X:=X) (bet:=bet) (en:=en) (lo:=lo) (F:=F)))
 (endLoose:∀{j:Nat} {F:List (List Nr)} (h0:lo=true) (h1:isB t j 0 0 bet=true) (h2:isB t (j+1) 0 0 en=true),motive _ _ _ (PLoop.endLoose h0 h1 h2 (t:=t) (X:=X) (bet:=bet) (en:=en) (lo:=lo) (F:=F)))
 (next:∀{j:Nat} {F:List (List Nr)} {y:List Nr} {j2:Nat} {r:Res} (h1:isB t j 0 0 bet=true) (h2:(lo=true→isB t (j+1) 0 0 en=false)) (h3:Ev X ⟨j+1,0,0⟩ (y,⟨j2,0,0⟩)) (h4:PLoop t X bet en lo j2 (F++[y]) r) (ih:motive _ _ _ h4),motive _ _ _ (PLoop.next h1 h2 h3 h4 (t:=t) (X:=X) (bet:=bet) (en:=en) (lo:=lo)))
 (thr:∀{j:Nat} {F:List (List Nr)} {p:Int} (h1:isB t j 0 0 bet=true) (h2:(lo=true→isB t (j+1) 0 0 en=false)) (h3:Wr X ⟨j+1,0,0⟩ p),motive _ _ _ (PLoop.thr h1 h2 h3 (t:=t) (X:=X) (bet:=bet) (en:=en) (lo:=lo) (F:=F)))
 {j:Nat} {F:List (List Nr)} {r:Res} (h:PLoop t X bet en lo j F r):motive j F r h:=
 (h (fun j F r=>∃h,motive j F r h) (fun h0 h1 h2=>⟨.stop h0 h1 h2,stop h0 h1 h2⟩) (fun h0 h1=>⟨.stop0 h0 h1,stop0 h0 h1⟩) (fun h0 h1 h2=>⟨.thrEnd h0 h1 h2,thrEnd h0 h1 h2⟩) (fun h0 h1 h2=>⟨.endLoose h0 h1 h2,endLoose h0 h1 h2⟩) (fun h1 h2 h3 ⟨h4,ih⟩=>⟨.next h1 h2 h3 h4,next h1 h2 h3 h4 ih⟩) (fun h1 h2 h3=>⟨.thr h1 h2 h3,thr h1 h2 h3⟩)).elim (fun _ k=>k)
def PRun (t:Tk) (X:Nat→GP (List Nr)) (bet en:ByteArray) (no lo:Bool) (i:Nat) (r:Res):Prop:=
 (no=true∧isB t i 0 0 en=true∧r=.inl ([],i+1))∨(∃y j,(no=true→isB t i 0 0 en=false)∧Ev X ⟨i,0,0⟩ (y,⟨j,0,0⟩)∧PLoop t X bet en lo j [y] r)∨∃p,(no=true→isB t i 0 0 en=false)∧Wr X ⟨i,0,0⟩ p∧r=.inr p
variable {no:Bool} {i:Nat}
theorem PRun.empty (h1:no=true) (h2:isB t i 0 0 en=true):PRun t X bet en no lo i (.inl ([],i+1)):=.inl ⟨h1,h2,rfl⟩
theorem PRun.some {y:List Nr} {j:Nat} {r:Res} (h1:no=true→isB t i 0 0 en=false) (h2:Ev X ⟨i,0,0⟩ (y,⟨j,0,0⟩)) (h3:PLoop t X bet en lo j [y] r):PRun t X bet en no lo i r:=.inr (.inl ⟨y,j,h1,h2,h3⟩)
theorem PRun.thr {p:Int} (h1:no=true→isB t i 0 0 en=false) (h2:Wr X ⟨i,0,0⟩ p):PRun t X bet en no lo i (.inr p):=.inr (.inr ⟨p,h1,h2,rfl⟩)
theorem PRun.ind {motive:∀r:Res,PRun t X bet en no lo i r→Prop} (empty:∀(h1:no=true) (h2:isB t i 0 0 en=true),motive _ (PRun.empty h1 h2)) (some:∀{y:List Nr} {j:Nat} {r:Res} (h1:no=true→isB t i 0 0 en=false) (h2:Ev X ⟨i,0,0⟩ (y,⟨j,0,0⟩)) (h3:PLoop t X bet en lo j [y] r),motive r (PRun.some h1 h2 h3)) (thr:∀{p:Int} (h1:no=true→isB t i 0 0 en=false) (h2:Wr X ⟨i,0,0⟩ p),motive _ (PRun.thr h1 h2)) {r:Res} (h:PRun t X bet en no lo i r):motive r h:=by
 have h':=h
 rcases h' with⟨h1,h2,rfl⟩|⟨y,j,h1,h2,h3⟩|⟨p,h1,h2,rfl⟩
 ·exact empty h1 h2
 ·exact some h1 h2 h3
 ·exact thr h1 h2
end
theorem rowc {w W:World} {rb:Nat} {v0 v1 v2 v3:Value} (hl:rb<w.heap.size) (hk:Kp (w.alloc (.cells #[v0,v1,v2,v3] 113)).heap.size rb (w.alloc (.cells #[v0,v1,v2,v3] 113)) W):∀o,W.cell? ⟨w.heap.size,o,none⟩=(#[v0,v1,v2,v3]:Array Value)[o]? :=fun o=>
 cell_of_row W w.heap.size o _ 113 (0,0) ((hk.block _ (by simp) (by omega)).trans (heap_alloc_new w _))
theorem thrb {α:Type} {w w1 W w':World} {rb tb i j:Nat} {cap:Cp} {t:Tk} {g:Prop} {L:List (Nat × Array Value)} {T:List (List Value)} {kv:Value} {vs:List (List Value)} {X V:List (List Nr)} (h:Kp w.heap.size rb w w1) (q:Mf w1 rb tb cap t i g W j L T kv vs X V) {p:Nat} (hk:Kp W.heap.size rb W w') {m:Nat→GP α} (hw:Wr m ⟨i,0,0⟩ p):ThrP w rb ⟨i,0,0⟩ m (throwE p) w':=
 ⟨p,rfl,h.trans ((q.st.kp.trans (hk.mono q.st.size)).mono h.size),hw⟩
theorem list_back {w W:World} {rb tb i j:Nat} {cap:Cp} {t:Tk} {ob:Obj} {kv:Value} {vs:List (List Value)} {F:List (List Nr)} {mm:Nat→GP (List (List Nr))} (h:Rd w rb tb cap t i 0 0) (q:Mf (w.alloc ob) rb tb cap t i True W j [] [] kv vs [] F) (hl:vs.length≤j - i) (hm:Ev mm ⟨i,0,0⟩ (F,⟨j,0,0⟩)):ListP w rb tb cap t i True mm (.returned kv) W:=
 (((Mf.start h).alloc ob).list (must:=True) ⟨q.st.rd,q.st.kp,q.le,fun e=>e,fun _ _=>q.go trivial⟩ q.z.kids q.fv |>.up (g':=True) (fun _=>q.go trivial)).post (fun x=>x) hl hm
theorem Mf.wb {sx:ByteArray} {w W:World} {rb tb i j:Nat} {cap:Cp} {t:Tk} {g:Prop} {L:List (Nat × Array Value)} {T:List (List Value)} {kv:Value} {vs:List (List Value)} {X V:List (List Nr)} {f:Nat} {args:Array Value} {R:Value} {Q:Ending→World→Prop} (q:Mf w rb tb cap t i g W j L T kv vs X V) (h:Rd W rb tb cap t j 0 0→Calls Tryz.prog f args W fun e w'=>(e=.returned R∧Nx W rb tb cap t j 0 True w' (j+1) 0 0∧isB t j 0 0 sx=true)∨(e=throwE (t.pos j)∧Kp W.heap.size rb W w'∧isB t j 0 0 sx=false)) (KB:∀w',Kp W.heap.size rb W w'→Hid (isB t j 0 0 sx=false)→Q (throwE (t.pos j)) w') (K:∀w',Hid (isB t j 0 0 sx=true)→Mf w rb tb cap t i True w' (j+1) L T kv vs X V→Q (.returned R) w'):Calls Tryz.prog f args W Q:=(h q.st.rd).mono fun e w' p=>by
 rcases p with⟨rfl,hx,hb⟩|⟨rfl,hk,hb⟩
 ·exact K w' hb (q.nxm hx)
 ·exact KB w' hk hb
theorem listP {w:World} {rb tb i:Nat} {cap:Cp} {t:Tk} (h:Rd w rb tb cap t i 0 0) {bet en:ByteArray} {no lo:Bool} {k:Nat} {fi ca:Array Value} {X:Nat→GP (List Nr)} {mm:Nat→GP (List (List Nr))} (hbet:bet∈askS) (hen:en.toList.isEmpty=false→en∈askS) (he2:no=true∨lo=true→en.toList.isEmpty=false) (hin:Ein k)
 (hm1:∀F j,PRun t X bet en no lo i (.inl (F,j))→Ev mm ⟨i,0,0⟩ (F,⟨j,0,0⟩)) (hm2:∀p,PRun t X bet en no lo i (.inr p)→Wr mm ⟨i,0,0⟩ p) (HX:∀{w' j},Rd w' rb tb cap t j 0 0→i≤j→Calls Tryz.prog k (fi++ca) w' (NodeP w' rb tb cap t j True X)):
 Calls Tryz.prog 136 #[.pointer (some ⟨rb,0,none⟩),.agg #[.string bet,.string en,.bool no,.bool lo],.func (.func k) fi ca] w (ListP w rb tb cap t i True mm):=by
 have HX:Hid (∀{w' j},Rd w' rb tb cap t j 0 0→i≤j→Calls Tryz.prog k (fi++ca) w' (NodeP w' rb tb cap t j True X)):=HX
 have hl:=h.l
 have HEn:=Hid_nx hen
 have HBet:=Hid_nx hbet
 have HE2:=Hid_nx he2
 have HMP:=Hid_nx (And.intro hm1 hm2)
 clear hen hbet he2 hm1 hm2
 have hin2:∀args w,(callFunc k args).run Tryz.prog w=.ok (.enter k args) w:=hin
 clear hin
 cases no
 ·go_enter Tryz.func136,Tryz.ntmps136
  have hk0:Kp w.heap.size rb w (w.alloc (.cells #[.string bet,.string en,.bool false,.bool lo] 113)):=(Kp.refl _ _ _).alloc (Nat.le_refl _) _
  have q:=Mf.start (h.alloc (.cells #[.string bet,.string en,.bool false,.bool lo] 113))
  have HE0:Hid (false=true→isB t i 0 0 en=false):=fun e=>absurd e (by decide)
  have HC:Hid (∀W:World,Kp (w.alloc (.cells #[.string bet,.string en,.bool false,.bool lo] 113)).heap.size rb (w.alloc (.cells #[.string bet,.string en,.bool false,.bool lo] 113)) W→∀o,W.cell? ⟨w.heap.size,o,none⟩=(#[.string bet,.string en,.bool false,.bool lo]:Array Value)[o]?):=fun W hk=>rowc hl hk
  go_wp2_with fail
  refine q.nd (HX.out · (Nat.le_refl _)) (fun w' p hk hw=>⟨rfl,.inr (thrb hk0 q hk (HMP.out.2 _ (.thr (fun e=>HE0.out (by simpa using e)) hw)))⟩) ?_
  clear q
  intro wA xA iA yA hlA mA q
  go_wp2_with fail
  replace HMP:Hid ((∀F j,PLoop t X bet en lo iA [yA] (.inl (F,j))→Ev mm ⟨i,0,0⟩ (F,⟨j,0,0⟩))∧∀p,PLoop t X bet en lo iA [yA] (.inr p)→Wr mm ⟨i,0,0⟩ p):=⟨fun F j h=>HMP.out.1 F j (.some (fun e=>HE0.out (by simpa using e)) mA h),fun p h=>HMP.out.2 p (.some (fun e=>HE0.out (by simpa using e)) mA h)⟩
  go_loopg [7] (t.len - iA) (fun g v wr=>∃ao cp vs F j,g=t.len - j∧v=.slice ao vs.length cp∧Mf (w.alloc (.cells #[.string bet,.string en,.bool false,.bool lo] 113)) rb tb cap t i True wr j [] [] v vs [] F∧vs.length≤j - i∧Hid (∀r,PLoop t X bet en lo j F r→PLoop t X bet en lo iA [yA] r))
  case atStart=>exact⟨some ⟨sz wA,0,none⟩,1,[xA.a.toList],[yA],iA,rfl,rfl,q.m1 (sz wA),by have:=hlA.out;simp;omega,fun r hr=>hr⟩
  case round=>
   obtain⟨ao,cp,vs,F,j,hgk,rfl,q,hvs,HM⟩:=hrel
   have HG:Hid (gk=t.len - j):=hgk
   clear hgk
   have cR:=HC.out wr q.st.kp
   have hjl:=q.st.rd.lt
   have hij:=q.go trivial
   have hfew:=h.good.few
   have HVS:Hid (vs.length≤j - i):=hvs
   have lR:w.heap.size<wr.heap.size:=by have:=q.st.size;simp at this;omega
   go_wp2_with fail
   refine q.et (skipP · _ HBet.out) ?_
   clear q cR lR
   intro w3 b3 j3 hE3 m3 q
   have cR:=HC.out w3 q.st.kp
   have lR:w.heap.size<w3.heap.size:=by have:=q.st.size;simp at this;omega
   have hj3:=hE3.le
   have hyes3:=hE3.yes
   have HB:=Hid_nx hE3.is_.symm
   cases b3
   ·have HJ:Hid (j3=j):=hE3.no rfl
    clear hE3
    cases hem:en.toList.isEmpty
    ·have HEM:=Hid_nx hem
     go_wp2_with fail
     refine q.wb (mustP · _ (HEn.out HEM.out)) (fun w' hk hb=>⟨rfl,.inr (thrb hk0 q hk (HMP.out.2 _ (HM.out _ (by rw[HJ.out] at hb⊢;exact .thrEnd HEM.out HB.out hb.out))))⟩) ?_
     clear q cR
     intro w4 hb4 q
     go_wp2_with fail
     go_ret
     exact list_back (h:=h) q (by have:=HVS.out;have:=HJ.out;omega) (HMP.out.1 _ _ (HM.out _ (by have hb4:=hb4.out;rw[HJ.out] at hb4⊢;exact .stop HEM.out HB.out hb4)))
    ·have HEM:=Hid_nx hem
     go_wp2_with fail
     go_ret
     exact list_back (h:=h) q (by have:=HVS.out;have:=HJ.out;omega) (HMP.out.1 _ _ (HM.out _ (by rw[HJ.out];exact .stop0 HEM.out HB.out)))
   ·clear hE3
    have HJ:Hid (j3=j+1):=(hyes3 rfl).1
    cases lo
    ·go_wp2_with fail
     refine q.nd (HX.out · (by omega)) (fun w' p hk hw=>⟨rfl,.inr (thrb hk0 q hk (HMP.out.2 _ (HM.out _ (.thr HB.out (fun e=>absurd e (by decide)) (HJ.out▸hw)))))⟩) ?_
     clear q cR
     intro w5 x5 i5 y5 hl5 m5 q
     have cR:=HC.out w5 q.st.kp
     go_wp2_with (at_builtin;refine q.ap (sz w5) (Nat.le_trans HVS.out (by omega)) ?_;clear q cR;intro w6 ao6 cp6 q)
     have hgo:=fun r hr=>HM.out r (.next HB.out (fun e=>absurd e (by decide)) (HJ.out▸m5) hr)
     have hlt5:=hl5.out
     have hlen5:=q.st.rd.lt
     have hj5:=HJ.out
     go_roundg (t.len - i5)
     case measure=>rw[HG.out];omega
     case rel=>exact⟨ao6,cp6,vs++[x5.t],F++[y5],i5,rfl,by rw[List.length_append];rfl,q,by rw[List.length_append];have:=HVS.out;simp;omega,hgo⟩
    ·go_wp2_with fail
     refine q.et (skipP · _ (HEn.out (HE2.out (.inr (by simp))))) ?_
     clear q cR lR
     intro w7 b7 j7 hE7 m7 q
     have cR:=HC.out w7 q.st.kp
     have lR:w.heap.size<w7.heap.size:=by have:=q.st.size;simp at this;omega
     have hj7:=hE7.le
     cases b7
     ·have HE7:Hid (isB t (j+1) 0 0 en=false):=by show isB t (j+1) 0 0 en=false;rw[←HJ.out];exact hE7.is_.symm
      replace HJ:Hid (j7=j+1):=(hE7.no rfl).trans HJ.out
      clear hE7
      go_wp2_with fail
      refine q.nd (HX.out · (by omega)) (fun w' p hk hw=>⟨rfl,.inr (thrb hk0 q hk (HMP.out.2 _ (HM.out _ (.thr HB.out (fun _=>HE7.out) (HJ.out▸hw)))))⟩) ?_
      clear q cR
      intro w5 x5 i5 y5 hl5 m5 q
      have cR:=HC.out w5 q.st.kp
      go_wp2_with (at_builtin;refine q.ap (sz w5) (Nat.le_trans HVS.out (by omega)) ?_;clear q cR;intro w6 ao6 cp6 q)
      have hgo:=fun r hr=>HM.out r (.next HB.out (fun _=>HE7.out) (HJ.out▸m5) hr)
      have hlt5:=hl5.out
      have hlen5:=q.st.rd.lt
      have hj5:=HJ.out
      go_roundg (t.len - i5)
      case measure=>rw[HG.out];omega
      case rel=>exact⟨ao6,cp6,vs++[x5.t],F++[y5],i5,rfl,by rw[List.length_append];rfl,q,by rw[List.length_append];have:=HVS.out;simp;omega,hgo⟩
     ·have HE7:Hid (isB t (j+1) 0 0 en=true):=by show isB t (j+1) 0 0 en=true;rw[←HJ.out];exact hE7.is_.symm
      have hj7e:j7=j+2:=by have:=(hE7.yes rfl).1;have:=HJ.out;omega
      clear hE7
      go_wp2_with fail
      go_ret
      exact list_back (h:=h) q (by have:=HVS.out;omega) (HMP.out.1 _ _ (HM.out _ (by rw[hj7e];exact .endLoose rfl HB.out HE7.out)))
 ·go_enter Tryz.func136,Tryz.ntmps136
  have hk0:Kp w.heap.size rb w (w.alloc (.cells #[.string bet,.string en,.bool true,.bool lo] 113)):=(Kp.refl _ _ _).alloc (Nat.le_refl _) _
  have q:=Mf.start (h.alloc (.cells #[.string bet,.string en,.bool true,.bool lo] 113))
  go_wp2_with fail
  refine q.et (skipP · _ (HEn.out (HE2.out (.inl (by simp))))) ?_
  clear q
  intro w0 b0 j0 hE0 m0 q
  have hj0:=hE0.le
  have HB0:=Hid_nx hE0.is_.symm
  cases b0
  ·obtain rfl:i=j0:=(hE0.no rfl).symm
   have cR:=rowc hl q.st.kp
   have lR:w.heap.size<w0.heap.size:=by have:=q.st.size;simp at this;omega
   have HE0:Hid (true=true→isB t i 0 0 en=false):=fun _=>HB0.out
   clear hE0 m0 hj0
   have HC:Hid (∀W:World,Kp (w.alloc (.cells #[.string bet,.string en,.bool true,.bool lo] 113)).heap.size rb (w.alloc (.cells #[.string bet,.string en,.bool true,.bool lo] 113)) W→∀o,W.cell? ⟨w.heap.size,o,none⟩=(#[.string bet,.string en,.bool true,.bool lo]:Array Value)[o]?):=fun W hk=>rowc hl hk
   go_wp2_with fail
   refine q.nd (HX.out · (Nat.le_refl _)) (fun w' p hk hw=>⟨rfl,.inr (thrb hk0 q hk (HMP.out.2 _ (.thr (fun e=>HE0.out (by simpa using e)) hw)))⟩) ?_
   clear q
   intro wA xA iA yA hlA mA q
   go_wp2_with fail
   replace HMP:Hid ((∀F j,PLoop t X bet en lo iA [yA] (.inl (F,j))→Ev mm ⟨i,0,0⟩ (F,⟨j,0,0⟩))∧∀p,PLoop t X bet en lo iA [yA] (.inr p)→Wr mm ⟨i,0,0⟩ p):=⟨fun F j h=>HMP.out.1 F j (.some (fun e=>HE0.out (by simpa using e)) mA h),fun p h=>HMP.out.2 p (.some (fun e=>HE0.out (by simpa using e)) mA h)⟩
   go_loopg [7] (t.len - iA) (fun g v wr=>∃ao cp vs F j,g=t.len - j∧v=.slice ao vs.length cp∧Mf (w.alloc (.cells #[.string bet,.string en,.bool true,.bool lo] 113)) rb tb cap t i True wr j [] [] v vs [] F∧vs.length≤j - i∧Hid (∀r,PLoop t X bet en lo j F r→PLoop t X bet en lo iA [yA] r))
   case atStart=>exact⟨some ⟨sz wA,0,none⟩,1,[xA.a.toList],[yA],iA,rfl,rfl,q.m1 (sz wA),by have:=hlA.out;simp;omega,fun r hr=>hr⟩
   case round=>
    obtain⟨ao,cp,vs,F,j,hgk,rfl,q,hvs,HM⟩:=hrel
    have HG:Hid (gk=t.len - j):=hgk
    clear hgk
    have cR:=HC.out wr q.st.kp
    have hjl:=q.st.rd.lt
    have hij:=q.go trivial
    have hfew:=h.good.few
    have HVS:Hid (vs.length≤j - i):=hvs
    have lR:w.heap.size<wr.heap.size:=by have:=q.st.size;simp at this;omega
    go_wp2_with fail
    refine q.et (skipP · _ HBet.out) ?_
    clear q cR lR
    intro w3 b3 j3 hE3 m3 q
    have cR:=HC.out w3 q.st.kp
    have lR:w.heap.size<w3.heap.size:=by have:=q.st.size;simp at this;omega
    have hj3:=hE3.le
    have hyes3:=hE3.yes
    have HB:=Hid_nx hE3.is_.symm
    cases b3
    ·have HJ:Hid (j3=j):=hE3.no rfl
     clear hE3
     cases hem:en.toList.isEmpty
     ·have HEM:=Hid_nx hem
      go_wp2_with fail
      refine q.wb (mustP · _ (HEn.out HEM.out)) (fun w' hk hb=>⟨rfl,.inr (thrb hk0 q hk (HMP.out.2 _ (HM.out _ (by rw[HJ.out] at hb⊢;exact .thrEnd HEM.out HB.out hb.out))))⟩) ?_
      clear q cR
      intro w4 hb4 q
      go_wp2_with fail
      go_ret
      exact list_back (h:=h) q (by have:=HVS.out;have:=HJ.out;omega) (HMP.out.1 _ _ (HM.out _ (by have hb4:=hb4.out;rw[HJ.out] at hb4⊢;exact .stop HEM.out HB.out hb4)))
     ·have HEM:=Hid_nx hem
      go_wp2_with fail
      go_ret
      exact list_back (h:=h) q (by have:=HVS.out;have:=HJ.out;omega) (HMP.out.1 _ _ (HM.out _ (by rw[HJ.out];exact .stop0 HEM.out HB.out)))
    ·clear hE3
     have HJ:Hid (j3=j+1):=(hyes3 rfl).1
     cases lo
     ·go_wp2_with fail
      refine q.nd (HX.out · (by omega)) (fun w' p hk hw=>⟨rfl,.inr (thrb hk0 q hk (HMP.out.2 _ (HM.out _ (.thr HB.out (fun e=>absurd e (by decide)) (HJ.out▸hw)))))⟩) ?_
      clear q cR
      intro w5 x5 i5 y5 hl5 m5 q
      have cR:=HC.out w5 q.st.kp
      go_wp2_with (at_builtin;refine q.ap (sz w5) (Nat.le_trans HVS.out (by omega)) ?_;clear q cR;intro w6 ao6 cp6 q)
      have hgo:=fun r hr=>HM.out r (.next HB.out (fun e=>absurd e (by decide)) (HJ.out▸m5) hr)
      have hlt5:=hl5.out
      have hlen5:=q.st.rd.lt
      have hj5:=HJ.out
      go_roundg (t.len - i5)
      case measure=>rw[HG.out];omega
      case rel=>exact⟨ao6,cp6,vs++[x5.t],F++[y5],i5,rfl,by rw[List.length_append];rfl,q,by rw[List.length_append];have:=HVS.out;simp;omega,hgo⟩
     ·go_wp2_with fail
      refine q.et (skipP · _ (HEn.out (HE2.out (.inr (by simp))))) ?_
      clear q cR lR
      intro w7 b7 j7 hE7 m7 q
      have cR:=HC.out w7 q.st.kp
      have lR:w.heap.size<w7.heap.size:=by have:=q.st.size;simp at this;omega
      have hj7:=hE7.le
      cases b7
      ·have HE7:Hid (isB t (j+1) 0 0 en=false):=by show isB t (j+1) 0 0 en=false;rw[←HJ.out];exact hE7.is_.symm
       replace HJ:Hid (j7=j+1):=(hE7.no rfl).trans HJ.out
       clear hE7
       go_wp2_with fail
       refine q.nd (HX.out · (by omega)) (fun w' p hk hw=>⟨rfl,.inr (thrb hk0 q hk (HMP.out.2 _ (HM.out _ (.thr HB.out (fun _=>HE7.out) (HJ.out▸hw)))))⟩) ?_
       clear q cR
       intro w5 x5 i5 y5 hl5 m5 q
       have cR:=HC.out w5 q.st.kp
       go_wp2_with (at_builtin;refine q.ap (sz w5) (Nat.le_trans HVS.out (by omega)) ?_;clear q cR;intro w6 ao6 cp6 q)
       have hgo:=fun r hr=>HM.out r (.next HB.out (fun _=>HE7.out) (HJ.out▸m5) hr)
       have hlt5:=hl5.out
       have hlen5:=q.st.rd.lt
       have hj5:=HJ.out
       go_roundg (t.len - i5)
       case measure=>rw[HG.out];omega
       case rel=>exact⟨ao6,cp6,vs++[x5.t],F++[y5],i5,rfl,by rw[List.length_append];rfl,q,by rw[List.length_append];have:=HVS.out;simp;omega,hgo⟩
      ·have HE7:Hid (isB t (j+1) 0 0 en=true):=by show isB t (j+1) 0 0 en=true;rw[←HJ.out];exact hE7.is_.symm
       have hj7e:j7=j+2:=by have:=(hE7.yes rfl).1;have:=HJ.out;omega
       clear hE7
       go_wp2_with fail
       go_ret
       exact list_back (h:=h) q (by have:=HVS.out;omega) (HMP.out.1 _ _ (HM.out _ (by rw[hj7e];exact .endLoose rfl HB.out HE7.out)))
  ·have hy0:=(hE0.yes rfl).1
   clear hE0
   go_wp2_with fail
   go_ret
   exact list_back (h:=h) (q.up (g':=True) (fun _=>by omega)) (by simp) (HMP.out.1 _ _ (by rw[hy0];exact .empty rfl HB0.out))
end Go.Proofs.YtdplogkmkgekdaaGreatDoor.Pj
