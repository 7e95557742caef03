/- The project: reckoning, small. -/
import Derived.Test.YtpoepbmomfohlaaPml
import Derived.Test.YtpoepbmomfohlaaMcj
namespace Go.Proofs.Ytpoepbmomfohlaa
open Go.RowKit
set_option linter.all false
def dv (a b : Int) : Bool := !(b == 0) && !(b == -1 && a == -9223372036854775808)
set_option maxRecDepth 100000 in
set_option maxHeartbeats 1000000 in
theorem divides82 {w : World} {a b : Int} : Calls Try.prog 53 #[.int .i64 a, .int .i64 b] w (Gives w (.bool (dv a b))) := by
  by_cases h0 : b = 0
  · subst h0
    go_enter Try.func53, Try.ntmps53
    go_wp2_with fail
    go_ret
    exact ⟨rfl, 0, rfl⟩
  · by_cases ha : a = -9223372036854775808
    · subst ha
      by_cases hb : b = -1
      · subst hb
        go_enter Try.func53, Try.ntmps53
        go_wp2_with fail
        go_ret
        exact ⟨rfl, 0, rfl⟩
      · have HE : Hid (dv (-9223372036854775808) b = true) := by show _ = _; unfold dv; simp [h0, hb]
        rw [HE.out]
        go_enter Try.func53, Try.ntmps53
        go_wp2_with fail
        go_ret
        exact ⟨by simp [h0, hb], 0, rfl⟩
    · have HE : Hid (dv a b = true) := by show _ = _; unfold dv; simp [h0, ha]
      rw [HE.out]
      go_enter Try.func53, Try.ntmps53
      go_wp2_with fail
      go_ret
      exact ⟨by simp [h0, ha], 0, rfl⟩
set_option maxRecDepth 100000 in
set_option maxHeartbeats 1000000 in
theorem truth83 {w : World} (b : Bool) : Calls Try.prog 54 #[.bool b] w (fun e w' => e = .returned (.int .i64 (b2i b)) ∧ w' = w) := by
  cases b
  · go_enter Try.func54, Try.ntmps54
    go_wp2_with fail
    go_ret
    exact ⟨rfl, rfl⟩
  · go_enter Try.func54, Try.ntmps54
    go_wp2_with fail
    go_ret
    exact ⟨rfl, rfl⟩
set_option maxRecDepth 100000 in
set_option maxHeartbeats 1000000 in
theorem holds84_5 {w : World} {a b : Int} : Calls Try.prog 55 #[.int .i64 5, .int .i64 a, .int .i64 b] w (fun e w' => e = .returned (.bool (a == b)) ∧ w' = w) := by
  go_enter Try.func55, Try.ntmps55
  go_wp2_with fail
  go_ret
  exact ⟨rfl, rfl⟩
set_option maxRecDepth 100000 in
set_option maxHeartbeats 1000000 in
theorem holds84_6 {w : World} {a b : Int} : Calls Try.prog 55 #[.int .i64 6, .int .i64 a, .int .i64 b] w (fun e w' => e = .returned (.bool (a != b)) ∧ w' = w) := by
  go_enter Try.func55, Try.ntmps55
  go_wp2_with fail
  go_ret
  exact ⟨rfl, rfl⟩
set_option maxRecDepth 100000 in
set_option maxHeartbeats 1000000 in
theorem holds84_7 {w : World} {a b : Int} : Calls Try.prog 55 #[.int .i64 7, .int .i64 a, .int .i64 b] w (fun e w' => e = .returned (.bool (decide (a < b))) ∧ w' = w) := by
  go_enter Try.func55, Try.ntmps55
  go_wp2_with fail
  go_ret
  exact ⟨rfl, rfl⟩
set_option maxRecDepth 100000 in
set_option maxHeartbeats 1000000 in
theorem holds84_8 {w : World} {a b : Int} : Calls Try.prog 55 #[.int .i64 8, .int .i64 a, .int .i64 b] w (fun e w' => e = .returned (.bool (decide (a ≤ b))) ∧ w' = w) := by
  go_enter Try.func55, Try.ntmps55
  go_wp2_with fail
  go_ret
  exact ⟨rfl, rfl⟩
set_option maxRecDepth 100000 in
set_option maxHeartbeats 1000000 in
theorem holds84_9 {w : World} {a b : Int} : Calls Try.prog 55 #[.int .i64 9, .int .i64 a, .int .i64 b] w (fun e w' => e = .returned (.bool (decide (b < a))) ∧ w' = w) := by
  go_enter Try.func55, Try.ntmps55
  go_wp2_with fail
  go_ret
  exact ⟨rfl, rfl⟩
set_option maxRecDepth 100000 in
set_option maxHeartbeats 1000000 in
theorem holds84_10 {w : World} {a b : Int} : Calls Try.prog 55 #[.int .i64 10, .int .i64 a, .int .i64 b] w (fun e w' => e = .returned (.bool (decide (b ≤ a))) ∧ w' = w) := by
  go_enter Try.func55, Try.ntmps55
  go_wp2_with fail
  go_ret
  exact ⟨rfl, rfl⟩
set_option maxRecDepth 100000 in
set_option maxHeartbeats 1000000 in
theorem neg74 {w : World} {a c : Int} (ha : I64 a) : Calls Try.prog 45 #[.int .i64 a] w (RkPost w 11 a c) := by
  have h1 := ha.1
  have h2 := ha.2
  by_cases hm : a = -9223372036854775808
  · subst hm
    go_enter Try.func45, Try.ntmps45
    go_wp2_with fail
    go_ret2
    exact ⟨⟨0, rfl⟩, _, rfl, fun h => absurd h (by simp [reckon, in64])⟩
  · have e1 : (a == -9223372036854775808) = false := by simpa using hm
    have e2 : (a != -9223372036854775808) = true := by simpa using hm
    have HE : Hid (in64 (-a) = true) := by show _ = _; unfold in64; rw [decide_eq_true_iff]; omega
    have hw : Hid (wrap64 (-a) = -a) := wrap_id (by omega) (by omega)
    clear hm h1 h2 ha
    go_enter Try.func45, Try.ntmps45
    go_wp2_with fail
    go_ret2
    exact ⟨⟨0, rfl⟩, wrap64 (-a), by show _ = Ending.returned (.tuple #[.int .i64 (wrap64 (-a)), .bool (in64 (-a))]); rw [HE.out]; rfl, fun _ => hw.out⟩
end Go.Proofs.Ytpoepbmomfohlaa
namespace Go.Proofs.Ytpoepbmomfohlaa
open Go.RowKit
set_option linter.all false
set_option maxRecDepth 100000 in
set_option maxHeartbeats 1000000 in
theorem two_add {w : World} {a b : Int} (ha : I64 a) (hb : I64 b) : Calls Try.prog 46 #[.int .i64 0, .int .i64 a, .int .i64 b] w (RkPost w 0 a b) := by
  have h1 := ha.1
  have h2 := ha.2
  have h3 := hb.1
  have h4 := hb.2
  clear ha hb
  by_cases h0 : b < 0
  · have w2 : wrap64 (-9223372036854775808 - b) = -9223372036854775808 - b := wrap_id (by omega) (by omega)
    by_cases hc : -9223372036854775808 - b ≤ a
    · have HE : Hid (in64 (a + b) = true) := by show _ = _; unfold in64; rw [decide_eq_true_iff]; omega
      have hw : Hid (wrap64 (a + b) = a + b) := in64_wrap HE.out
      clear h1 h2 h3 h4
      go_enter Try.func46, Try.ntmps46
      go_wp2_with fail
      go_ret2
      exact ⟨⟨0, rfl⟩, wrap64 (a + b), by show _ = Ending.returned (.tuple #[.int .i64 (wrap64 (a + b)), .bool (in64 (a + b))]); rw [HE.out]; rfl, fun _ => hw.out⟩
    · have HE : Hid (in64 (a + b) = false) := by show _ = _; unfold in64; rw [decide_eq_false_iff_not]; omega
      clear h1 h2 h3 h4
      go_enter Try.func46, Try.ntmps46
      go_wp2_with fail
      go_ret2
      exact ⟨⟨0, rfl⟩, wrap64 (a + b), by show _ = Ending.returned (.tuple #[.int .i64 (wrap64 (a + b)), .bool (in64 (a + b))]); rw [HE.out]; rfl, fun h => absurd h (by show ¬ in64 (a + b) = true; rw [HE.out]; simp)⟩
  · have w2 : wrap64 (9223372036854775807 - b) = 9223372036854775807 - b := wrap_id (by omega) (by omega)
    by_cases hc : a ≤ 9223372036854775807 - b
    · have HE : Hid (in64 (a + b) = true) := by show _ = _; unfold in64; rw [decide_eq_true_iff]; omega
      have hw : Hid (wrap64 (a + b) = a + b) := in64_wrap HE.out
      clear h1 h2 h3 h4
      go_enter Try.func46, Try.ntmps46
      go_wp2_with fail
      go_ret2
      exact ⟨⟨0, rfl⟩, wrap64 (a + b), by show _ = Ending.returned (.tuple #[.int .i64 (wrap64 (a + b)), .bool (in64 (a + b))]); rw [HE.out]; rfl, fun _ => hw.out⟩
    · have HE : Hid (in64 (a + b) = false) := by show _ = _; unfold in64; rw [decide_eq_false_iff_not]; omega
      clear h1 h2 h3 h4
      go_enter Try.func46, Try.ntmps46
      go_wp2_with fail
      go_ret2
      exact ⟨⟨0, rfl⟩, wrap64 (a + b), by show _ = Ending.returned (.tuple #[.int .i64 (wrap64 (a + b)), .bool (in64 (a + b))]); rw [HE.out]; rfl, fun h => absurd h (by show ¬ in64 (a + b) = true; rw [HE.out]; simp)⟩
set_option maxRecDepth 100000 in
set_option maxHeartbeats 1000000 in
theorem two_sub {w : World} {a b : Int} (ha : I64 a) (hb : I64 b) : Calls Try.prog 46 #[.int .i64 1, .int .i64 a, .int .i64 b] w (RkPost w 1 a b) := by
  have h1 := ha.1
  have h2 := ha.2
  have h3 := hb.1
  have h4 := hb.2
  clear ha hb
  by_cases h0 : b < 0
  · have w2 : wrap64 (9223372036854775807 + b) = 9223372036854775807 + b := wrap_id (by omega) (by omega)
    by_cases hc : a ≤ 9223372036854775807 + b
    · have HE : Hid (in64 (a - b) = true) := by show _ = _; unfold in64; rw [decide_eq_true_iff]; omega
      have hw : Hid (wrap64 (a - b) = a - b) := in64_wrap HE.out
      clear h1 h2 h3 h4
      go_enter Try.func46, Try.ntmps46
      go_wp2_with fail
      go_ret2
      exact ⟨⟨0, rfl⟩, wrap64 (a - b), by show _ = Ending.returned (.tuple #[.int .i64 (wrap64 (a - b)), .bool (in64 (a - b))]); rw [HE.out]; rfl, fun _ => hw.out⟩
    · have HE : Hid (in64 (a - b) = false) := by show _ = _; unfold in64; rw [decide_eq_false_iff_not]; omega
      clear h1 h2 h3 h4
      go_enter Try.func46, Try.ntmps46
      go_wp2_with fail
      go_ret2
      exact ⟨⟨0, rfl⟩, wrap64 (a - b), by show _ = Ending.returned (.tuple #[.int .i64 (wrap64 (a - b)), .bool (in64 (a - b))]); rw [HE.out]; rfl, fun h => absurd h (by show ¬ in64 (a - b) = true; rw [HE.out]; simp)⟩
  · have w2 : wrap64 (-9223372036854775808 + b) = -9223372036854775808 + b := wrap_id (by omega) (by omega)
    by_cases hc : -9223372036854775808 + b ≤ a
    · have HE : Hid (in64 (a - b) = true) := by show _ = _; unfold in64; rw [decide_eq_true_iff]; omega
      have hw : Hid (wrap64 (a - b) = a - b) := in64_wrap HE.out
      clear h1 h2 h3 h4
      go_enter Try.func46, Try.ntmps46
      go_wp2_with fail
      go_ret2
      exact ⟨⟨0, rfl⟩, wrap64 (a - b), by show _ = Ending.returned (.tuple #[.int .i64 (wrap64 (a - b)), .bool (in64 (a - b))]); rw [HE.out]; rfl, fun _ => hw.out⟩
    · have HE : Hid (in64 (a - b) = false) := by show _ = _; unfold in64; rw [decide_eq_false_iff_not]; omega
      clear h1 h2 h3 h4
      go_enter Try.func46, Try.ntmps46
      go_wp2_with fail
      go_ret2
      exact ⟨⟨0, rfl⟩, wrap64 (a - b), by show _ = Ending.returned (.tuple #[.int .i64 (wrap64 (a - b)), .bool (in64 (a - b))]); rw [HE.out]; rfl, fun h => absurd h (by show ¬ in64 (a - b) = true; rw [HE.out]; simp)⟩
end Go.Proofs.Ytpoepbmomfohlaa
