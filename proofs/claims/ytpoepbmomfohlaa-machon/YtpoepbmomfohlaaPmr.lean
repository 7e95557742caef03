/- The project: products. -/
import Derived.Test.YtpoepbmomfohlaaPmo
import Derived.Test.YtpoepbmomfohlaaMcr
namespace Go.Proofs.Ytpoepbmomfohlaa
open Go.RowKit
set_option linter.all false
theorem dv_same {w : World} {a b : Int} : Calls Try.prog 53 #[.int .i64 a, .int .i64 b] w (fun e w' => e = .returned (.bool (dv a b)) ∧ w' = w) := by
  by_cases h0 : b = 0
  · subst h0
    go_enter Try.func53, Try.ntmps53
    go_wp2_with fail
    go_ret
    exact ⟨rfl, rfl⟩
  · by_cases ha : a = -9223372036854775808
    · subst ha
      by_cases hb : b = -1
      · subst hb
        go_enter Try.func53, Try.ntmps53
        go_wp2_with fail
        go_ret
        exact ⟨rfl, rfl⟩
      · have HE : Hid (dv (-9223372036854775808) b = true) := by show _ = _; unfold dv; simp [h0, hb]
        rw [HE.out]
        go_enter Try.func53, Try.ntmps53
        go_wp2_with fail
        go_ret
        exact ⟨by simp [h0, hb], rfl⟩
    · have HE : Hid (dv a b = true) := by show _ = _; unfold dv; simp [h0, ha]
      rw [HE.out]
      go_enter Try.func53, Try.ntmps53
      go_wp2_with fail
      go_ret
      exact ⟨by simp [h0, ha], rfl⟩
set_option maxRecDepth 100000 in
set_option maxHeartbeats 1000000 in
theorem two_mul {w : World} {a b : Int} (ha : I64 a) (hb : I64 b) : Calls Try.prog 46 #[.int .i64 2, .int .i64 a, .int .i64 b] w (RkPost w 2 a b) := by
  obtain ⟨P, hP⟩ : ∃ P, wrap64 (a * b) = P := ⟨_, rfl⟩
  have D : Hid (∀ W, Calls Try.prog 53 #[.int .i64 P, .int .i64 a] W (fun e w' => e = .returned (.bool (dv P a)) ∧ w' = W)) := fun W => dv_same
  have HPP : Hid (wrap64 (a * b) = P) := hP
  by_cases h0 : a = 0
  · subst h0
    have hw0 : wrap64 0 = 0 := wrap_id (by decide) (by decide)
    have HE : Hid (in64 (0 * b) = true ∧ P = 0 * b) := by
      refine ⟨by rw [Int.zero_mul]; rfl, ?_⟩
      rw [← hP, Int.zero_mul, hw0]
    clear ha hb D
    go_enter Try.func46, Try.ntmps46
    go_wp2_with fail
    go_quiet (fail)
    go_wp2_with fail
    go_ret2
    exact ⟨⟨_, rfl⟩, 0, by show _ = Ending.returned (.tuple #[.int .i64 0, .bool (in64 (0 * b))]); rw [HE.out.1]; rfl, fun _ => by show 0 = 0 * b; rw [Int.zero_mul]⟩
  · have h00 : (a == 0) = false := by simpa using h0
    have hdz : Hid (¬ a = 0) := h0
    have HM : Hid ((P.tdiv a == b) = in64 (a * b)) := by
      show _ = _
      have := mul64 (a := b) ha h0
      rw [Int.mul_comm b a, hP] at this
      exact this
    have HP64 : Hid (I64 P) := by
      show I64 P
      rw [← hP]
      unfold I64 wrap64
      omega
    cases hd : dv P a with
    | false =>
      rw [hd] at D
      have HE : Hid (in64 (a * b) = false) := by
        show _ = _
        rw [← HM.out]
        unfold dv at hd
        have h2 : a = -1 ∧ P = -9223372036854775808 := by simpa [h0] using hd
        rw [h2.1, h2.2]
        have := hb.2
        simp
        omega
      clear hd ha hb h0
      go_enter Try.func46, Try.ntmps46
      go_wp2_with fail
      go_quiet ((first | (go_at_call 53; exact Calls.quiet_of_same (D.out _))))
      go_wp2_with fail
      go_ret2
      exact ⟨⟨_, rfl⟩, wrap64 (a * b), by show _ = Ending.returned (.tuple #[.int .i64 (wrap64 (a * b)), .bool (in64 (a * b))]); rw [HE.out]; rfl, fun h => absurd h (by show ¬ in64 (a * b) = true; rw [HE.out]; simp)⟩
    | true =>
      rw [hd] at D
      have hw : wrap64 (P.tdiv a) = P.tdiv a := by
        have := reckon_64 (op := 3) (b := a) HP64.out (by show dv P a = true; exact hd)
        exact wrap_id this.1 this.2
      clear hd ha hb
      go_enter Try.func46, Try.ntmps46
      go_wp2_with fail
      go_quiet ((first | (go_at_call 53; exact Calls.quiet_of_same (D.out _))))
      go_wp2_with fail
      go_ret2
      exact ⟨⟨_, rfl⟩, wrap64 (a * b), by show _ = Ending.returned (.tuple #[.int .i64 (wrap64 (a * b)), .bool (in64 (a * b))]); rw [← HM.out]; rfl, fun h => in64_wrap h⟩
end Go.Proofs.Ytpoepbmomfohlaa
