/- What is thrown is caught. -/
import Derived.Recover
import Derived.Test.YtpoepbmomfohlaaPnw
namespace Go.Proofs.Ytpoepbmomfohlaa
open Go.RowKit
set_option linter.all false
section
variable {C : Ct} {N N' : Nat} {K : Nat → Obj → Prop} {w w' w1 : World} {ps : List Int} {tb tb' : List Nat} {m m' : Mc} {t b : Nat} {th th' : Th}
theorem und32 : Try.prog.underlying 31 = some (.int .i64) := by kernel_rfl
set_option maxRecDepth 100000 in
theorem ta_yes (k : Int) (w : World) : (Instr.typeAssert (.iface 31 (.int .i64 k)) 20 31 true).run Try.prog w = .ok (.tuple #[.int .i64 k, .bool true]) w := by
  simp [Instr.typeAssert, go_sem, und32]
set_option maxRecDepth 100000 in
theorem ta_no (w : World) : (Instr.typeAssert .nilIface 20 31 true).run Try.prog w = .ok (.tuple #[.int .i64 0, .bool false]) w := by
  simp [Instr.typeAssert, go_sem, und32]
set_option maxRecDepth 100000 in
set_option maxHeartbeats 1000000 in
theorem catch_p (p : Addr) (x k : Int) (older : List PanicEntry) (w : World) (hc : w.cell? p = some (.int .i64 x)) (hz : w.frozen? p = false) :
    CallsD Try.prog 11 #[.pointer (some p)] (.panicking ({ v := .iface 31 (.int .i64 k), recovered := false } :: older)) w fun e u' w' =>
      e = .returned (.tuple #[]) ∧ u' = .panicking ({ v := .iface 31 (.int .i64 k), recovered := true } :: older) ∧ w' = w.setCell p (.int .i64 k) := by
  refine callsD_of_wpS Try.func11 rfl fun c₀ cs hu => ?_
  have hta := ta_yes k
  apply wpS_seq
  apply wpS_region
  rw [Try.ntmps11]
  simp [wpOpsS, go_sem, recoverD, hu, Exit.thenS, hta, Array.replicate]
  apply wpS_seq
  apply wpS_region
  simp [wpOpsS, go_sem, Exit.thenS]
  refine wpS_cond (t := true) (by simp [Act.eval]) ?_
  simp only [if_true]
  apply wpS_region
  simp [wpOpsS, go_sem, hc, hz, bodyPostS, results, Try.results11]
set_option maxRecDepth 100000 in
set_option maxHeartbeats 1000000 in
theorem catch_i (p : Addr) (w : World) :
    CallsD Try.prog 11 #[.pointer (some p)] .returning w fun e u' w' => e = .returned (.tuple #[]) ∧ u' = .returning ∧ w' = w := by
  refine callsD_of_wpS Try.func11 rfl fun c₀ cs hu => ?_
  have hta := ta_no
  apply wpS_seq
  apply wpS_region
  rw [Try.ntmps11]
  simp [wpOpsS, go_sem, recoverD, hu, Exit.thenS, hta, Array.replicate]
  apply wpS_seq
  apply wpS_region
  simp [wpOpsS, go_sem, Exit.thenS]
  refine wpS_cond (t := false) (by simp [Act.eval]) ?_
  simp only [Bool.false_eq_true, if_false]
  refine wpS_of_wp (wp_skip ?_)
  cases c₀
  simp_all [bodyPostS, results, Try.results11]
set_option maxRecDepth 100000 in
theorem res9 {tmps : Array Value} {W : World} {hk : Nat} {v : Int} (h4 : tmps.getD 4 undef = .pointer (some ⟨hk, 0, none⟩)) (hc : W.cell? ⟨hk, 0, none⟩ = some (.int .i64 v)) : (results Try.f7 tmps).run Try.prog W = .ok (.int .i64 v) W := by
  have h4' : tmps[4]?.getD undef = .pointer (some ⟨hk, 0, none⟩) := by simpa using h4
  simp [results, Try.results7, h4', go_sem, hc]
theorem door_r {R : Ending → World → Prop} {tmps : Array Value} {W : World} {hk : Nat} {v : Int} (h4 : tmps.getD 4 undef = .pointer (some ⟨hk, 0, none⟩)) (hc : W.cell? ⟨hk, 0, none⟩ = some (.int .i64 v)) (hR : R (.returned (.int .i64 v)) W) : bodyPostD Try.prog Try.f7 R Exit.ret { tmps := tmps, defers := [{ target := .fn (.func 11) #[.pointer (some ⟨hk, 0, none⟩)], args := #[] }] } W := by
  refine leaves_cons (f := 11) (args := #[.pointer (some ⟨hk, 0, none⟩)]) (by simp) (by simp [go_sem]) ?_
  refine (catch_i ⟨hk, 0, none⟩ _).mono ?_
  rintro e u' w'' ⟨rfl, rfl, rfl⟩
  exact ⟨_, res9 h4 hc, hR⟩
theorem door_p {R : Ending → World → Prop} {tmps : Array Value} {W : World} {hk : Nat} {x k : Int} (h4 : tmps.getD 4 undef = .pointer (some ⟨hk, 0, none⟩)) (hc : W.cell? ⟨hk, 0, none⟩ = some (.int .i64 x)) (hz : W.frozen? ⟨hk, 0, none⟩ = false) (hR : R (.returned (.int .i64 k)) (W.setCell ⟨hk, 0, none⟩ (.int .i64 k))) : bodyPostD Try.prog Try.f7 R (Exit.panic [{ v := .iface 31 (.int .i64 k), recovered := false }]) { tmps := tmps, defers := [{ target := .fn (.func 11) #[.pointer (some ⟨hk, 0, none⟩)], args := #[] }] } W := by
  refine leaves_cons (f := 11) (args := #[.pointer (some ⟨hk, 0, none⟩)]) (by simp) (by simp [go_sem]) ?_
  refine (catch_p ⟨hk, 0, none⟩ x k [] _ hc hz).mono ?_
  rintro e u' w'' ⟨rfl, rfl, rfl⟩
  exact ⟨_, res9 h4 (by simp [go_sem, hc, hz]), hR⟩
end
end Go.Proofs.Ytpoepbmomfohlaa
