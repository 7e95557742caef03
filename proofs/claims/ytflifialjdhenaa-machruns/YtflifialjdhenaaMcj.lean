/- The document's machine: operators. -/
import Derived.Test.YtflifialjdhenaaMci
namespace Go.Proofs.Ytflifialjdhenaa
open Go.RowKit
set_option linter.all false
def b2i (b : Bool) : Int := if b then 1 else 0
def in64 (x : Int) : Bool := decide (-9223372036854775808 ≤ x ∧ x ≤ 9223372036854775807)
/-- What an operator gives, and whether it can be reckoned; where it cannot, the number is of no account. -/
def reckon (op a b : Int) : Int × Bool :=
  if op = 0 then (a + b, in64 (a + b)) else if op = 1 then (a - b, in64 (a - b)) else if op = 2 then (a * b, in64 (a * b))
  else if op = 3 then (a.tdiv b, !(b == 0) && !(b == -1 && a == -9223372036854775808)) else if op = 4 then (a.tmod b, !(b == 0) && !(b == -1 && a == -9223372036854775808))
  else if op = 5 then (b2i (a == b), true) else if op = 6 then (b2i (a != b), true) else if op = 7 then (b2i (decide (a < b)), true) else if op = 8 then (b2i (decide (a ≤ b)), true)
  else if op = 9 then (b2i (decide (b < a)), true) else if op = 10 then (b2i (decide (b ≤ a)), true) else if op = 11 then (-a, in64 (-a)) else (b2i (a == 0), true)
set_option maxRecDepth 100000 in
theorem truth61 {w : World} (b : Bool) : Calls Try.prog 71 #[.bool b] w (fun e w' => e = .returned (.tuple #[.int .i64 (b2i b), .bool true]) ∧ w' = w) := by
  cases b
  · go_enter Try.func71, Try.ntmps71
    go_wp2_with fail
    go_ret2
    exact ⟨rfl, rfl⟩
  · go_enter Try.func71, Try.ntmps71
    go_wp2_with fail
    go_ret2
    exact ⟨rfl, rfl⟩
def RkPost (w : World) (op a b : Int) (e : Ending) (w' : World) : Prop := (∃ m, w' = w.drewN m) ∧ ∃ v, e = .returned (.tuple #[.int .i64 v, .bool (reckon op a b).2]) ∧ ((reckon op a b).2 = true → v = (reckon op a b).1)
theorem in64_wrap {x : Int} (h : in64 x = true) : wrap64 x = x := by
  unfold in64 at h
  rw [decide_eq_true_iff] at h
  unfold wrap64
  omega
theorem add64 {a b : Int} (ha : I64 a) (hb : I64 b) : (decide (0 ≤ b) == decide (a ≤ wrap64 (a + b))) = in64 (a + b) := by
  have h1 := ha.1
  have h2 := ha.2
  have h3 := hb.1
  have h4 := hb.2
  unfold in64 wrap64
  rw [Bool.eq_iff_iff, beq_iff_eq, decide_eq_decide, decide_eq_true_iff]
  omega
theorem sub64 {a b : Int} (ha : I64 a) (hb : I64 b) : (decide (0 ≤ b) == decide (wrap64 (a - b) ≤ a)) = in64 (a - b) := by
  have h1 := ha.1
  have h2 := ha.2
  have h3 := hb.1
  have h4 := hb.2
  unfold in64 wrap64
  rw [Bool.eq_iff_iff, beq_iff_eq, decide_eq_decide, decide_eq_true_iff]
  omega
set_option maxRecDepth 100000 in
set_option maxHeartbeats 1000000 in
theorem reckon_add {w : World} {a b : Int} (ha : I64 a) (hb : I64 b) : Calls Try.prog 58 #[.int .i64 0, .int .i64 a, .int .i64 b] w (RkPost w 0 a b) := by
  have HE : Hid (Value.bool (decide (0 ≤ b) == decide (a ≤ wrap64 (a + b))) = .bool (in64 (a + b))) := by show _ = _; rw [add64 ha hb]
  clear ha hb
  go_enter Try.func58, Try.ntmps58
  go_wp2_with fail
  go_ret2
  exact ⟨⟨0, rfl⟩, wrap64 (a + b), congrArg (fun v => Ending.returned (.tuple #[.int .i64 (wrap64 (a + b)), v])) HE.out, in64_wrap⟩
set_option maxRecDepth 100000 in
set_option maxHeartbeats 1000000 in
theorem reckon_sub {w : World} {a b : Int} (ha : I64 a) (hb : I64 b) : Calls Try.prog 58 #[.int .i64 1, .int .i64 a, .int .i64 b] w (RkPost w 1 a b) := by
  have HE : Hid (Value.bool (decide (0 ≤ b) == decide (wrap64 (a - b) ≤ a)) = .bool (in64 (a - b))) := by show _ = _; rw [sub64 ha hb]
  clear ha hb
  go_enter Try.func58, Try.ntmps58
  go_wp2_with fail
  go_ret2
  exact ⟨⟨0, rfl⟩, wrap64 (a - b), congrArg (fun v => Ending.returned (.tuple #[.int .i64 (wrap64 (a - b)), v])) HE.out, in64_wrap⟩
set_option maxRecDepth 100000 in
set_option maxHeartbeats 1000000 in
theorem reckon_eq {w : World} {a b : Int} : Calls Try.prog 58 #[.int .i64 5, .int .i64 a, .int .i64 b] w (RkPost w 5 a b) := by
  have HT : Hid (Calls Try.prog 71 #[.bool (a == b)] w (fun e w' => e = .returned (.tuple #[.int .i64 (b2i (a == b)), .bool true]) ∧ w' = w)) := truth61 _
  go_enter Try.func58, Try.ntmps58
  go_wp2_with (go_at_call 71; refine HT.out.mono ?_; rintro e w1 ⟨rfl, rfl⟩)
  go_ret2
  exact ⟨⟨0, rfl⟩, b2i (a == b), rfl, fun _ => rfl⟩
set_option maxRecDepth 100000 in
set_option maxHeartbeats 1000000 in
theorem reckon_ne {w : World} {a b : Int} : Calls Try.prog 58 #[.int .i64 6, .int .i64 a, .int .i64 b] w (RkPost w 6 a b) := by
  have HT : Hid (Calls Try.prog 71 #[.bool (a != b)] w (fun e w' => e = .returned (.tuple #[.int .i64 (b2i (a != b)), .bool true]) ∧ w' = w)) := truth61 _
  go_enter Try.func58, Try.ntmps58
  go_wp2_with (go_at_call 71; refine HT.out.mono ?_; rintro e w1 ⟨rfl, rfl⟩)
  go_ret2
  exact ⟨⟨0, rfl⟩, b2i (a != b), rfl, fun _ => rfl⟩
set_option maxRecDepth 100000 in
set_option maxHeartbeats 1000000 in
theorem reckon_lt {w : World} {a b : Int} : Calls Try.prog 58 #[.int .i64 7, .int .i64 a, .int .i64 b] w (RkPost w 7 a b) := by
  have HT : Hid (Calls Try.prog 71 #[.bool (decide (a < b))] w (fun e w' => e = .returned (.tuple #[.int .i64 (b2i (decide (a < b))), .bool true]) ∧ w' = w)) := truth61 _
  go_enter Try.func58, Try.ntmps58
  go_wp2_with (go_at_call 71; refine HT.out.mono ?_; rintro e w1 ⟨rfl, rfl⟩)
  go_ret2
  exact ⟨⟨0, rfl⟩, b2i (decide (a < b)), rfl, fun _ => rfl⟩
set_option maxRecDepth 100000 in
set_option maxHeartbeats 1000000 in
theorem reckon_le {w : World} {a b : Int} : Calls Try.prog 58 #[.int .i64 8, .int .i64 a, .int .i64 b] w (RkPost w 8 a b) := by
  have HT : Hid (Calls Try.prog 71 #[.bool (decide (a ≤ b))] w (fun e w' => e = .returned (.tuple #[.int .i64 (b2i (decide (a ≤ b))), .bool true]) ∧ w' = w)) := truth61 _
  go_enter Try.func58, Try.ntmps58
  go_wp2_with (go_at_call 71; refine HT.out.mono ?_; rintro e w1 ⟨rfl, rfl⟩)
  go_ret2
  exact ⟨⟨0, rfl⟩, b2i (decide (a ≤ b)), rfl, fun _ => rfl⟩
set_option maxRecDepth 100000 in
set_option maxHeartbeats 1000000 in
theorem reckon_gt {w : World} {a b : Int} : Calls Try.prog 58 #[.int .i64 9, .int .i64 a, .int .i64 b] w (RkPost w 9 a b) := by
  have HT : Hid (Calls Try.prog 71 #[.bool (decide (b < a))] w (fun e w' => e = .returned (.tuple #[.int .i64 (b2i (decide (b < a))), .bool true]) ∧ w' = w)) := truth61 _
  go_enter Try.func58, Try.ntmps58
  go_wp2_with (go_at_call 71; refine HT.out.mono ?_; rintro e w1 ⟨rfl, rfl⟩)
  go_ret2
  exact ⟨⟨0, rfl⟩, b2i (decide (b < a)), rfl, fun _ => rfl⟩
set_option maxRecDepth 100000 in
set_option maxHeartbeats 1000000 in
theorem reckon_ge {w : World} {a b : Int} : Calls Try.prog 58 #[.int .i64 10, .int .i64 a, .int .i64 b] w (RkPost w 10 a b) := by
  have HT : Hid (Calls Try.prog 71 #[.bool (decide (b ≤ a))] w (fun e w' => e = .returned (.tuple #[.int .i64 (b2i (decide (b ≤ a))), .bool true]) ∧ w' = w)) := truth61 _
  go_enter Try.func58, Try.ntmps58
  go_wp2_with (go_at_call 71; refine HT.out.mono ?_; rintro e w1 ⟨rfl, rfl⟩)
  go_ret2
  exact ⟨⟨0, rfl⟩, b2i (decide (b ≤ a)), rfl, fun _ => rfl⟩
set_option maxRecDepth 100000 in
set_option maxHeartbeats 1000000 in
theorem reckon_not {w : World} {a b : Int} : Calls Try.prog 58 #[.int .i64 12, .int .i64 a, .int .i64 b] w (RkPost w 12 a b) := by
  have HT : Hid (Calls Try.prog 71 #[.bool (a == 0)] w (fun e w' => e = .returned (.tuple #[.int .i64 (b2i (a == 0)), .bool true]) ∧ w' = w)) := truth61 _
  go_enter Try.func58, Try.ntmps58
  go_wp2_with (go_at_call 71; refine HT.out.mono ?_; rintro e w1 ⟨rfl, rfl⟩)
  go_ret2
  exact ⟨⟨0, rfl⟩, b2i (a == 0), rfl, fun _ => rfl⟩
end Go.Proofs.Ytflifialjdhenaa
namespace Go.Proofs.Ytflifialjdhenaa
open Go.RowKit
set_option linter.all false
set_option maxRecDepth 100000 in
set_option maxHeartbeats 1000000 in
theorem reckon_neg {w : World} {a b : Int} (ha : I64 a) : Calls Try.prog 58 #[.int .i64 11, .int .i64 a, .int .i64 b] w (RkPost w 11 a b) := by
  have HE : Hid (Value.bool (a != -9223372036854775808) = .bool (in64 (-a))) := by
    show _ = _
    congr 1
    have h1 := ha.1
    have h2 := ha.2
    unfold in64
    rw [Bool.eq_iff_iff, bne_iff_ne, decide_eq_true_iff]
    omega
  clear ha
  go_enter Try.func58, Try.ntmps58
  go_wp2_with fail
  go_ret2
  exact ⟨⟨0, rfl⟩, wrap64 (-a), congrArg (fun v => Ending.returned (.tuple #[.int .i64 (wrap64 (-a)), v])) HE.out, in64_wrap⟩
theorem tdiv64 {a b : Int} (ha : I64 a) (h : ¬ (b = -1 ∧ a = -9223372036854775808)) : wrap64 (a.tdiv b) = a.tdiv b := by
  have h1 := ha.1
  have h2 := ha.2
  have hn : (a.tdiv b).natAbs ≤ a.natAbs := by
    rw [Int.natAbs_tdiv]
    exact Nat.div_le_self _ _
  by_cases hb : b = -1
  · subst hb
    have e : a.tdiv (-1) = -a := by rw [Int.tdiv_neg, Int.tdiv_one]
    rw [e]
    unfold wrap64
    omega
  · by_cases hb1 : b = 1
    · subst hb1
      rw [Int.tdiv_one]
      unfold wrap64
      omega
    · by_cases hb0 : b = 0
      · subst hb0
        rw [Int.tdiv_zero]
        unfold wrap64
        omega
      · have hq : (a.tdiv b).natAbs ≤ a.natAbs / 2 := by
          rw [Int.natAbs_tdiv]
          exact Nat.div_le_div_left (by omega) (by decide)
        unfold wrap64
        omega
theorem tmod64 {a b : Int} (ha : I64 a) : wrap64 (a.tmod b) = a.tmod b := by
  have h1 := ha.1
  have h2 := ha.2
  have hn : (a.tmod b).natAbs ≤ a.natAbs := by
    rw [Int.natAbs_tmod]
    exact Nat.mod_le _ _
  have h3 : 0 ≤ a → 0 ≤ a.tmod b := fun h => Int.tmod_nonneg b h
  have h4 : a ≤ 0 → a.tmod b ≤ 0 := fun h => by
    have := Int.tmod_nonneg (a := -a) b (by omega)
    rw [Int.neg_tmod] at this
    omega
  unfold wrap64
  omega
set_option maxRecDepth 100000 in
set_option maxHeartbeats 1000000 in
theorem reckon_div {w : World} {a b : Int} (ha : I64 a) : Calls Try.prog 58 #[.int .i64 3, .int .i64 a, .int .i64 b] w (RkPost w 3 a b) := by
  by_cases h0 : b = 0
  · subst h0
    go_enter Try.func58, Try.ntmps58
    go_wp2_with fail
    go_ret2
    exact ⟨⟨0, rfl⟩, 0, rfl, fun h => absurd h (by simp [reckon])⟩
  · by_cases h12 : b = -1 ∧ a = -9223372036854775808
    · obtain ⟨rfl, rfl⟩ := h12
      go_enter Try.func58, Try.ntmps58
      go_wp2_with fail
      go_ret2
      exact ⟨⟨0, rfl⟩, 0, rfl, fun h => absurd h (by simp [reckon])⟩
    · have HR : Hid ((reckon 3 a b).2 = true) := by
        show _ = _
        have e1 : (b == 0) = false := by simpa using h0
        have e2 : (b == -1 && a == -9223372036854775808) = false := by
          rw [Bool.and_eq_false_iff]
          by_cases hb : b = -1
          · exact .inr (by simpa using fun e => h12 ⟨hb, e⟩)
          · exact .inl (by simpa using hb)
        show (!(b == 0) && !(b == -1 && a == -9223372036854775808)) = true
        rw [e1, e2]
        rfl
      have HW : Hid (wrap64 (a.tdiv b) = a.tdiv b) := tdiv64 ha h12
      have hb0 : (b == 0) = false := by simpa using h0
      by_cases h1 : b = -1
      · have h2 : ¬ a = -9223372036854775808 := fun e => h12 ⟨h1, e⟩
        have ha0 : (a == -9223372036854775808) = false := by simpa using h2
        have hb1 : (b == -1) = true := by simpa using h1
        clear h1 h2 h12 ha
        go_enter Try.func58, Try.ntmps58
        go_wp2_with fail
        go_ret2
        exact ⟨⟨0, rfl⟩, wrap64 (a.tdiv b), by rw [HR.out]; rfl, fun _ => HW.out⟩
      · have hb1 : (b == -1) = false := by simpa using h1
        clear h1 h12 ha
        go_enter Try.func58, Try.ntmps58
        go_wp2_with fail
        go_ret2
        exact ⟨⟨0, rfl⟩, wrap64 (a.tdiv b), by rw [HR.out]; rfl, fun _ => HW.out⟩
set_option maxRecDepth 100000 in
set_option maxHeartbeats 1000000 in
theorem reckon_rem {w : World} {a b : Int} (ha : I64 a) : Calls Try.prog 58 #[.int .i64 4, .int .i64 a, .int .i64 b] w (RkPost w 4 a b) := by
  by_cases h0 : b = 0
  · subst h0
    go_enter Try.func58, Try.ntmps58
    go_wp2_with fail
    go_ret2
    exact ⟨⟨0, rfl⟩, 0, rfl, fun h => absurd h (by simp [reckon])⟩
  · by_cases h12 : b = -1 ∧ a = -9223372036854775808
    · obtain ⟨rfl, rfl⟩ := h12
      go_enter Try.func58, Try.ntmps58
      go_wp2_with fail
      go_ret2
      exact ⟨⟨0, rfl⟩, 0, rfl, fun h => absurd h (by simp [reckon])⟩
    · have HR : Hid ((reckon 4 a b).2 = true) := by
        show _ = _
        have e1 : (b == 0) = false := by simpa using h0
        have e2 : (b == -1 && a == -9223372036854775808) = false := by
          rw [Bool.and_eq_false_iff]
          by_cases hb : b = -1
          · exact .inr (by simpa using fun e => h12 ⟨hb, e⟩)
          · exact .inl (by simpa using hb)
        show (!(b == 0) && !(b == -1 && a == -9223372036854775808)) = true
        rw [e1, e2]
        rfl
      have HW : Hid (wrap64 (a.tmod b) = a.tmod b) := tmod64 ha
      have hb0 : (b == 0) = false := by simpa using h0
      by_cases h1 : b = -1
      · have h2 : ¬ a = -9223372036854775808 := fun e => h12 ⟨h1, e⟩
        have ha0 : (a == -9223372036854775808) = false := by simpa using h2
        have hb1 : (b == -1) = true := by simpa using h1
        clear h1 h2 h12 ha
        go_enter Try.func58, Try.ntmps58
        go_wp2_with fail
        go_ret2
        exact ⟨⟨0, rfl⟩, a.tmod b, by rw [HR.out]; rfl, fun _ => rfl⟩
      · have hb1 : (b == -1) = false := by simpa using h1
        clear h1 h12 ha
        go_enter Try.func58, Try.ntmps58
        go_wp2_with fail
        go_ret2
        exact ⟨⟨0, rfl⟩, a.tmod b, by rw [HR.out]; rfl, fun _ => rfl⟩
theorem mul64 {a b : Int} (hb : I64 b) (h0 : b ≠ 0) : ((wrap64 (a * b)).tdiv b == a) = in64 (a * b) := by
  have h3 := hb.1
  have h4 := hb.2
  obtain ⟨P, hP⟩ : ∃ P, P = a * b := ⟨_, rfl⟩
  obtain ⟨c, hc⟩ : ∃ c, c = wrap64 P := ⟨_, rfl⟩
  rw [← hP, ← hc]
  rw [Bool.eq_iff_iff, beq_iff_eq]
  unfold in64
  rw [decide_eq_true_iff]
  have e := Int.tdiv_mul_add_tmod c b
  have hm : (c.tmod b).natAbs < b.natAbs := by
    rw [Int.natAbs_tmod]
    exact Nat.mod_lt _ (by omega)
  constructor
  · intro h
    rw [h, ← hP] at e
    unfold wrap64 at hc
    omega
  · intro h
    have hcp : c = P := by
      rw [hc]
      unfold wrap64
      omega
    rw [hcp, hP]
    exact Int.mul_tdiv_cancel a h0
end Go.Proofs.Ytflifialjdhenaa
namespace Go.Proofs.Ytflifialjdhenaa
open Go.RowKit
set_option linter.all false
theorem neg1_64 {a b : Int} (ha : I64 a) (hb : I64 b) (hn : a = -1 ∨ b = -1) : (a != -9223372036854775808 && b != -9223372036854775808) = in64 (a * b) := by
  have h1 := ha.1
  have h2 := ha.2
  have h3 := hb.1
  have h4 := hb.2
  unfold in64
  rw [Bool.eq_iff_iff, Bool.and_eq_true, bne_iff_ne, bne_iff_ne, decide_eq_true_iff]
  rcases hn with rfl | rfl
  · rw [Int.neg_one_mul]
    omega
  · rw [Int.mul_neg_one]
    omega
set_option maxRecDepth 100000 in
set_option maxHeartbeats 1000000 in
theorem reckon_mul {w : World} {a b : Int} (ha : I64 a) (hb : I64 b) : Calls Try.prog 58 #[.int .i64 2, .int .i64 a, .int .i64 b] w (RkPost w 2 a b) := by
  by_cases hz : a = 0 ∨ b = 0
  · have HR : Hid (a * b = 0) := by
      show _ = _
      rcases hz with rfl | rfl <;> simp
    have HE : Hid (Value.bool true = .bool (in64 (a * b))) := by show _ = _; rw [HR.out]; rfl
    by_cases h0 : a = 0
    · have ha0 : (a == 0) = true := by simpa using h0
      clear hz h0 ha hb
      go_enter Try.func58, Try.ntmps58
      go_wp2_with fail
      go_ret2
      exact ⟨⟨0, rfl⟩, 0, congrArg (fun v => Ending.returned (.tuple #[.int .i64 0, v])) HE.out, fun _ => HR.out.symm⟩
    · have hb0 : (b == 0) = true := by simpa using hz.resolve_left h0
      have ha0 : (a == 0) = false := by simpa using h0
      clear hz h0 ha hb
      go_enter Try.func58, Try.ntmps58
      go_wp2_with fail
      go_ret2
      exact ⟨⟨0, rfl⟩, 0, congrArg (fun v => Ending.returned (.tuple #[.int .i64 0, v])) HE.out, fun _ => HR.out.symm⟩
  · have ha0 : (a == 0) = false := by simpa using fun e => hz (.inl e)
    have hb0 : (b == 0) = false := by simpa using fun e => hz (.inr e)
    by_cases hn : a = -1 ∨ b = -1
    · have hE := neg1_64 ha hb hn
      cases hla : (a != -9223372036854775808) with
      | false =>
        rw [hla] at hE
        have HE : Hid (Value.bool false = .bool (in64 (a * b))) := by show _ = _; rw [← hE]; rfl
        have ha1 : (a == -1) = false := by
          have : a = -9223372036854775808 := by simpa using hla
          rw [this]
          rfl
        have hb1 : (b == -1) = true := by
          rcases hn with e | e
          · rw [e] at ha1
            simp at ha1
          · simpa using e
        clear hz hn ha hb hE
        go_enter Try.func58, Try.ntmps58
        go_wp2_with fail
        go_ret2
        exact ⟨⟨0, rfl⟩, wrap64 (a * b), congrArg (fun v => Ending.returned (.tuple #[.int .i64 (wrap64 (a * b)), v])) HE.out, in64_wrap⟩
      | true =>
        rw [hla, Bool.true_and] at hE
        have HE : Hid (Value.bool (b != -9223372036854775808) = .bool (in64 (a * b))) := by show _ = _; rw [← hE]
        by_cases h1 : a = -1
        · have ha1 : (a == -1) = true := by simpa using h1
          clear hz hn ha hb hE h1
          go_enter Try.func58, Try.ntmps58
          go_wp2_with fail
          go_ret2
          exact ⟨⟨0, rfl⟩, wrap64 (a * b), congrArg (fun v => Ending.returned (.tuple #[.int .i64 (wrap64 (a * b)), v])) HE.out, in64_wrap⟩
        · have ha1 : (a == -1) = false := by simpa using h1
          have hb1 : (b == -1) = true := by simpa using hn.resolve_left h1
          clear hz hn ha hb hE h1
          go_enter Try.func58, Try.ntmps58
          go_wp2_with fail
          go_ret2
          exact ⟨⟨0, rfl⟩, wrap64 (a * b), congrArg (fun v => Ending.returned (.tuple #[.int .i64 (wrap64 (a * b)), v])) HE.out, in64_wrap⟩
    · have ha1 : (a == -1) = false := by simpa using fun e => hn (.inl e)
      have hb1 : (b == -1) = false := by simpa using fun e => hn (.inr e)
      have hbn : ¬ b = 0 := fun e => hz (.inr e)
      have hwI : I64 (wrap64 (a * b)) := by unfold wrap64 I64; omega
      have HE : Hid (Value.bool (wrap64 ((wrap64 (a * b)).tdiv b) == a) = .bool (in64 (a * b))) := by show _ = _; rw [tdiv64 hwI (fun e => hn (.inr e.1)), mul64 hb hbn]
      clear hz hn ha hb hwI
      go_enter Try.func58, Try.ntmps58
      go_wp2_with fail
      go_quiet (fail)
      go_wp2_with fail
      go_ret2
      exact ⟨⟨_, rfl⟩, wrap64 (a * b), congrArg (fun v => Ending.returned (.tuple #[.int .i64 (wrap64 (a * b)), v])) HE.out, in64_wrap⟩
/-- What an operator gives. -/
theorem reckon57 {w : World} {op a b : Int} (h0 : 0 ≤ op) (h1 : op ≤ 12) (ha : I64 a) (hb : I64 b) : Calls Try.prog 58 #[.int .i64 op, .int .i64 a, .int .i64 b] w (RkPost w op a b) := by
  have h : op = 0 ∨ op = 1 ∨ op = 2 ∨ op = 3 ∨ op = 4 ∨ op = 5 ∨ op = 6 ∨ op = 7 ∨ op = 8 ∨ op = 9 ∨ op = 10 ∨ op = 11 ∨ op = 12 := by omega
  rcases h with rfl | rfl | rfl | rfl | rfl | rfl | rfl | rfl | rfl | rfl | rfl | rfl | rfl
  · exact reckon_add ha hb
  · exact reckon_sub ha hb
  · exact reckon_mul ha hb
  · exact reckon_div ha
  · exact reckon_rem ha
  · exact reckon_eq
  · exact reckon_ne
  · exact reckon_lt
  · exact reckon_le
  · exact reckon_gt
  · exact reckon_ge
  · exact reckon_neg ha
  · exact reckon_not
end Go.Proofs.Ytflifialjdhenaa
namespace Go.Proofs.Ytflifialjdhenaa
open Go.RowKit
set_option linter.all false
/-- Whether a thread's next step is a meeting; whether it can be done now. -/
def meetB (m : Mc) (code : List Mi) (t : Nat) (th : Th) : Bool × Bool :=
  if th.abo then (true, true)
  else if (insAt code th.pc).1.op = 16 ∨ (insAt code th.pc).1.op = 18 then (true, true)
  else if (insAt code th.pc).1.op = 17 then
    if (slotR th.frame t (insAt code th.pc).1.a).2 = false then (true, true)
    else if m.wordB (m.mem (slotR th.frame t (insAt code th.pc).1.a).1.toNat) (insAt code th.pc).1.c then (true, m.mem (m.mem (slotR th.frame t (insAt code th.pc).1.a).1.toNat + (insAt code th.pc).1.c).toNat != 0)
    else (true, true)
  else (false, true)
section
variable {w : World} {base mb : Nat} {co : Option Addr} {cc : Nat} {code : List Mi} {L : Ly} {m : Mc}
set_option maxRecDepth 100000 in
set_option maxHeartbeats 1000000 in
theorem meet_abo (h : MR w base mb (.slice co code.length cc) L m) {t : Nat} {th : Th} (ht : m.ths[t]? = some th) (ha : th.abo = true) : Calls Try.prog 26 #[.pointer (some ⟨mb, 0, none⟩), .int .i64 t] w (fun e w' => e = .returned (.tuple #[.bool true, .bool true]) ∧ w' = w) := by
  have htl : t < m.ths.length := (List.getElem?_eq_some_iff.1 ht).1
  have htI : (t : Int) < (m.ths.length : Int) := by omega
  have ht0 : (0 : Int) ≤ (t : Int) := by omega
  have hfew := h.th.few
  obtain ⟨g, r, e0, hg, hr, c0, c1, c2, c3, c4, c5⟩ := h.th.nth ht
  have c_3 : w.cell? ⟨mb, 3, none⟩ = some (.slice (some ⟨g, 0, none⟩) m.ths.length L.tc) := by
    rw [cell_of_row w _ 3 _ 45 (0, 0) h.blk, ← e0]
    rfl
  have l_m : mb < w.heap.size := h.lt
  rw [ha] at c4
  clear h ht e0 hr ha
  go_enter Try.func26, Try.ntmps26
  go_wp2_with fail
  go_ret2
  exact ⟨rfl, rfl⟩
set_option maxRecDepth 100000 in
set_option maxHeartbeats 1000000 in
theorem meet_plain (h : MR w base mb (.slice co code.length cc) L m) (hc : CD w base co code) {t : Nat} {th : Th} (ht : m.ths[t]? = some th) (ha : th.abo = false) (hpc : I64 th.pc) (hop : (insAt code th.pc).1.op ≠ 17) : Calls Try.prog 26 #[.pointer (some ⟨mb, 0, none⟩), .int .i64 t] w (fun e w' => e = .returned (.tuple #[.bool (meetB m code t th).1, .bool (meetB m code t th).2]) ∧ Below w.heap.size w w') := by
  have htl : t < m.ths.length := (List.getElem?_eq_some_iff.1 ht).1
  have htI : (t : Int) < (m.ths.length : Int) := by omega
  have ht0 : (0 : Int) ≤ (t : Int) := by omega
  have hfew := h.th.few
  obtain ⟨g, r, e0, hg, hr, c0, c1, c2, c3, c4, c5⟩ := h.th.nth ht
  have c_3 : w.cell? ⟨mb, 3, none⟩ = some (.slice (some ⟨g, 0, none⟩) m.ths.length L.tc) := by
    rw [cell_of_row w _ 3 _ 45 (0, 0) h.blk, ← e0]
    rfl
  have l_m : mb < w.heap.size := h.lt
  have HI : Hid (Calls Try.prog 29 #[.pointer (some ⟨mb, 0, none⟩), .int .i64 t] w (fun e w' => e = .returned (.tuple #[.agg (miC (insAt code th.pc).1), .bool (insAt code th.pc).2]) ∧ Below w.heap.size w w')) := ins38 h hc ht hpc
  have hM : meetB m code t th = if (insAt code th.pc).1.op = 16 ∨ (insAt code th.pc).1.op = 18 then (true, true) else (false, true) := by
    unfold meetB
    rw [ha, if_neg (by decide), if_neg hop]
  rw [ha] at c4
  obtain ⟨⟨⟨x0, x1, x2, x3, x4, x5⟩, xb⟩, hx⟩ : ∃ x, insAt code th.pc = x := ⟨_, rfl⟩
  rw [hx] at HI hM hop
  have HI2 : Hid (Calls Try.prog 29 #[.pointer (some ⟨mb, 0, none⟩), .int .i64 t] w (fun e w' => e = .returned (.tuple #[.agg #[.int .i64 x0, .int .i64 x1, .int .i64 x2, .int .i64 x3, .int .i64 x4, .int .i64 x5], .bool xb]) ∧ Below w.heap.size w w')) := HI
  have HM : Hid (meetB m code t th = if x0 = 16 ∨ x0 = 18 then (true, true) else (false, true)) := hM
  have h17 : (x0 == 17) = false := by simpa using hop
  clear h ht e0 hr ha hx HI hM hop hc hpc
  by_cases h16 : x0 = 16
  · have HM2 : Hid (meetB m code t th = (true, true)) := by show _ = _; rw [HM.out, if_pos (.inl h16)]
    have b16 : (x0 == 16) = true := by simpa using h16
    clear h16 HM
    go_enter Try.func26, Try.ntmps26
    go_wp2_with (go_at_call 29; refine HI2.out.mono ?_; rintro e w1 ⟨rfl, hb⟩)
    go_ret2
    exact ⟨by rw [HM2.out]; rfl, hb.trans ((al1 _ _).1.mono hb.size)⟩
  · have b16 : (x0 == 16) = false := by simpa using h16
    by_cases h18 : x0 = 18
    · have HM2 : Hid (meetB m code t th = (true, true)) := by show _ = _; rw [HM.out, if_pos (.inr h18)]
      have b18 : (x0 == 18) = true := by simpa using h18
      clear h16 h18 HM
      go_enter Try.func26, Try.ntmps26
      go_wp2_with (go_at_call 29; refine HI2.out.mono ?_; rintro e w1 ⟨rfl, hb⟩)
      go_ret2
      exact ⟨by rw [HM2.out]; rfl, hb.trans ((al1 _ _).1.mono hb.size)⟩
    · have HM2 : Hid (meetB m code t th = (false, true)) := by show _ = _; rw [HM.out, if_neg (by omega)]
      have b18 : (x0 == 18) = false := by simpa using h18
      clear h16 h18 HM
      go_enter Try.func26, Try.ntmps26
      go_wp2_with (go_at_call 29; refine HI2.out.mono ?_; rintro e w1 ⟨rfl, hb⟩)
      go_ret2
      exact ⟨by rw [HM2.out]; rfl, hb.trans ((al1 _ _).1.mono hb.size)⟩
end
end Go.Proofs.Ytflifialjdhenaa
