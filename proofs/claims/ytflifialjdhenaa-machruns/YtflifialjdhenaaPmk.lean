/- The project's machine: slots are written. -/
import Derived.Test.YtflifialjdhenaaPmg
namespace Go.Proofs.Ytflifialjdhenaa
open Go.RowKit
set_option linter.all false
section
variable {C : Ct} {N N' : Nat} {K : Nat → Obj → Prop} {w w' w1 : World} {ps : List Int} {tb tb' : List Nat} {m m' : Mc} {t b : Nat} {th th' : Th}
set_option maxRecDepth 100000 in
set_option maxHeartbeats 1000000 in
theorem write_c (h : PS C N K w ps tb m) (ht : m.ths[t]? = some th) (hb : tb[t]? = some b) {k n : Int} (hk : I64 k) (hn : I64 n) : Calls Try.prog 43 #[ptr b, .int .i64 k, .int .i64 n] w (fun e w' => (∃ y : Int, Hid (slotR th.frame t k = (y, true)) ∧ e = .returned (.tuple #[]) ∧ PS C N K w' ps tb { m with mem := upd m.mem y.toNat n }) ∨ (∃ y : Int, Hid (slotR th.frame t k = (y, false)) ∧ e = thr y ∧ PS C N K w' ps tb m)) := by
  have R1 : Hid (Calls Try.prog 60 #[ptr b, .int .i64 k] w.drew (SlC C N K ps tb m t th k (fun _ z => .int .i64 z))) := slot_c h.drew ht hb hk
  have HTB : Hid (m.ths[t]? = some th ∧ tb[t]? = some b ∧ I64 n) := ⟨ht, hb, hn⟩
  clear h ht hb hn
  go_enter Try.func43, Try.ntmps43
  go_upto_region 0 with fail
  go_region_with (first | (go_at_call 38; refine (h2.setT HTB.out.1 HTB.out.2.1 z hz.out.2.2.1 HTB.out.2.2).mono ?_; rintro e w3 ⟨rfl, h3⟩) | (go_at_call 60; refine R1.out.mono ?_; rintro e w2 (⟨y, z, hz, rfl, h2⟩ | ⟨y, hy, rfl, h2⟩); rotate_left; exact ⟨rfl, .inr ⟨y, hy, rfl, h2⟩⟩))
  all_goals
    go_wp2_with fail
    go_end0
    exact .inl ⟨y, hz.out.1, rfl, by rw [hz.out.2.2.2]; exact h3⟩
end
end Go.Proofs.Ytflifialjdhenaa
