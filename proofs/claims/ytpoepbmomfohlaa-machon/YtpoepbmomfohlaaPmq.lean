/- The project: quotients. -/
import Derived.Test.YtpoepbmomfohlaaPmo
import Derived.Test.YtpoepbmomfohlaaMcr
namespace Go.Proofs.Ytpoepbmomfohlaa
open Go.RowKit
set_option linter.all false
set_option maxRecDepth 100000 in
set_option maxHeartbeats 1000000 in
theorem two_div {w : World} {a b : Int} (ha : I64 a) (hb : I64 b) : Calls Try.prog 46 #[.int .i64 3, .int .i64 a, .int .i64 b] w (RkPost w 3 a b) := by
  have D : Hid (∀ W, Calls Try.prog 53 #[.int .i64 a, .int .i64 b] W (Gives W (.bool (dv a b)))) := fun W => divides82
  cases hd : dv a b with
  | false =>
    rw [hd] at D
    have HD : Hid (dv a b = false) := hd
    clear hd ha hb
    go_enter Try.func46, Try.ntmps46
    go_wp2_with (go_at_call 53; refine (D.out _).mono ?_; rintro e w2 ⟨rfl, j, rfl⟩)
    go_ret2
    exact ⟨⟨j, rfl⟩, 0, by show _ = Ending.returned (.tuple #[.int .i64 0, .bool (dv a b)]); rw [HD.out]; rfl, fun h => absurd h (by show ¬ dv a b = true; rw [HD.out]; simp)⟩
  | true =>
    rw [hd] at D
    have HD : Hid (dv a b = true) := hd
    have h0 : ¬ b = 0 := by unfold dv at hd; intro e; subst e; simp at hd
    have hw : Hid (wrap64 (a.tdiv b) = a.tdiv b) := by
      show _ = _
      have := reckon_64 (op := 3) (b := b) ha (by show dv a b = true; exact hd)
      exact wrap_id this.1 this.2
    clear hd ha hb
    go_enter Try.func46, Try.ntmps46
    go_wp2_with (go_at_call 53; refine (D.out _).mono ?_; rintro e w2 ⟨rfl, j, rfl⟩)
    go_ret2
    exact ⟨⟨j, rfl⟩, wrap64 (a.tdiv b), by show _ = Ending.returned (.tuple #[.int .i64 (wrap64 (a.tdiv b)), .bool (dv a b)]); rw [HD.out]; rfl, fun _ => hw.out⟩
set_option maxRecDepth 100000 in
set_option maxHeartbeats 1000000 in
theorem two_rem {w : World} {a b : Int} (ha : I64 a) (hb : I64 b) : Calls Try.prog 46 #[.int .i64 4, .int .i64 a, .int .i64 b] w (RkPost w 4 a b) := by
  have D : Hid (∀ W, Calls Try.prog 53 #[.int .i64 a, .int .i64 b] W (Gives W (.bool (dv a b)))) := fun W => divides82
  cases hd : dv a b with
  | false =>
    rw [hd] at D
    have HD : Hid (dv a b = false) := hd
    clear hd ha hb
    go_enter Try.func46, Try.ntmps46
    go_wp2_with (go_at_call 53; refine (D.out _).mono ?_; rintro e w2 ⟨rfl, j, rfl⟩)
    go_ret2
    exact ⟨⟨j, rfl⟩, 0, by show _ = Ending.returned (.tuple #[.int .i64 0, .bool (dv a b)]); rw [HD.out]; rfl, fun h => absurd h (by show ¬ dv a b = true; rw [HD.out]; simp)⟩
  | true =>
    rw [hd] at D
    have HD : Hid (dv a b = true) := hd
    have h0 : ¬ b = 0 := by unfold dv at hd; intro e; subst e; simp at hd
    have hw : Hid (wrap64 (a.tmod b) = a.tmod b) := by
      show _ = _
      have := reckon_64 (op := 4) (b := b) ha (by show dv a b = true; exact hd)
      exact wrap_id this.1 this.2
    clear hd ha hb
    go_enter Try.func46, Try.ntmps46
    go_wp2_with (go_at_call 53; refine (D.out _).mono ?_; rintro e w2 ⟨rfl, j, rfl⟩)
    go_ret2
    exact ⟨⟨j, rfl⟩, a.tmod b, by show _ = Ending.returned (.tuple #[.int .i64 (a.tmod b), .bool (dv a b)]); rw [HD.out]; rfl, fun _ => rfl⟩
end Go.Proofs.Ytpoepbmomfohlaa
