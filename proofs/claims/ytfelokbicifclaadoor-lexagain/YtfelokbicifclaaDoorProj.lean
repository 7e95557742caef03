/- The project's lexer: the small functions on runes. -/
import Derived.Test.YtfelokbicifclaaDoorRef
namespace Go.Proofs.YtfelokbicifclaaDoor
open Go.RowKit

set_option maxHeartbeats 400000 in
theorem blank12 (c : Nat) (w : World) : Calls Tryd.prog 12 #[.int .i32 c] w fun e w' => e = .returned (.bool (blankN c)) ∧ w' = w := by
  rcases (show c = 32 ∨ c = 9 ∨ c = 10 ∨ (c ≠ 32 ∧ c ≠ 9 ∧ c ≠ 10) by omega) with rfl | rfl | rfl | ⟨h1, h2, h3⟩
  · go_enter Tryd.func12, Tryd.ntmps12
    go_wp2
    go_ret
    exact ⟨rfl, rfl⟩
  · go_enter Tryd.func12, Tryd.ntmps12
    go_wp2
    go_ret
    exact ⟨rfl, rfl⟩
  · go_enter Tryd.func12, Tryd.ntmps12
    go_wp2
    go_ret
    exact ⟨rfl, rfl⟩
  · have b1 : ((c : Int) == 32) = false := by simp; omega
    have b2 : ((c : Int) == 9) = false := by simp; omega
    have b3 : ((c : Int) == 10) = false := by simp; omega
    have e : blankN c = false := by simp [blankN]; omega
    have HE : Hid (blankN c = false) := e
    clear e h1 h2 h3
    go_enter Tryd.func12, Tryd.ntmps12
    go_wp2
    go_ret
    exact ⟨by rw [HE.out]; rfl, rfl⟩

set_option maxHeartbeats 400000 in
theorem remark14 (c : Nat) (w : World) : Calls Tryd.prog 14 #[.int .i32 c] w fun e w' => e = .returned (.bool (remN c)) ∧ w' = w := by
  go_enter Tryd.func14, Tryd.ntmps14
  go_wp2
  go_ret
  exact ⟨ret_bool (by rw [remN, Bool.eq_iff_iff]; simp; omega), rfl⟩

set_option maxHeartbeats 400000 in
theorem digit19 (c : Nat) (w : World) : Calls Tryd.prog 19 #[.int .i32 c] w fun e w' => e = .returned (.bool (digN c)) ∧ w' = w := by
  rcases (show (48 : Int) ≤ c ∧ (c : Int) ≤ 57 ∨ (57 : Int) < c ∨ (c : Int) < 48 by omega) with ⟨h1, h2⟩ | h1 | h1
  all_goals
    go_enter Tryd.func19, Tryd.ntmps19
    go_wp2
    go_ret
    exact ⟨ret_bool (by first | (rw [show digN c = true by simp only [digN, decide_eq_true_eq]; omega]; done) | (rw [show digN c = false by simp only [digN, decide_eq_false_iff_not]; omega]; done) | (rw [show digN c = false by simp only [digN, decide_eq_false_iff_not]; omega]; simp; omega)), rfl⟩

set_option maxHeartbeats 400000 in
theorem letter32 (c : Nat) (w : World) : Calls Tryd.prog 32 #[.int .i32 c] w fun e w' => e = .returned (.bool (letN c)) ∧ w' = w := by
  rcases (show (97 : Int) ≤ c ∧ (c : Int) ≤ 122 ∨ (122 : Int) < c ∨ (65 : Int) ≤ c ∧ (c : Int) ≤ 90 ∨ (90 : Int) < c ∧ (c : Int) < 97 ∨ (c : Int) < 65 by omega) with ⟨h1, h2⟩ | h1 | ⟨h1, h2⟩ | ⟨h1, h2⟩ | h1
  all_goals
    go_enter Tryd.func32, Tryd.ntmps32
    go_wp2
    go_ret
    exact ⟨ret_bool (by first | (rw [show letN c = true by simp only [letN, decide_eq_true_eq]; omega]; done) | (rw [show letN c = false by simp only [letN, decide_eq_false_iff_not]; omega]; first | done | rfl | (simp; omega))), rfl⟩

set_option maxHeartbeats 400000 in
theorem inName33 (c : Nat) (w : World) : Calls Tryd.prog 33 #[.int .i32 c] w fun e w' => e = .returned (.bool (namN c)) ∧ w' = w := by
  cases hl : letN c
  · cases hd : digN c
    · go_enter Tryd.func33, Tryd.ntmps33
      go_wp2_with (first | (go_at_call 32; refine (letter32 _ _).mono ?_; rintro e w' ⟨rfl, rfl⟩) | (go_at_call 19; refine (digit19 _ _).mono ?_; rintro e w' ⟨rfl, rfl⟩))
      go_ret
      exact ⟨ret_bool (by rw [namN, hl, hd, Bool.eq_iff_iff]; simp; omega), rfl⟩
    · go_enter Tryd.func33, Tryd.ntmps33
      go_wp2_with (first | (go_at_call 32; refine (letter32 _ _).mono ?_; rintro e w' ⟨rfl, rfl⟩) | (go_at_call 19; refine (digit19 _ _).mono ?_; rintro e w' ⟨rfl, rfl⟩))
      go_ret
      exact ⟨ret_bool (by rw [namN, hl, hd]; rfl), rfl⟩
  · go_enter Tryd.func33, Tryd.ntmps33
    go_wp2_with (first | (go_at_call 32; refine (letter32 _ _).mono ?_; rintro e w' ⟨rfl, rfl⟩) | (go_at_call 19; refine (digit19 _ _).mono ?_; rintro e w' ⟨rfl, rfl⟩))
    go_ret
    exact ⟨ret_bool (by rw [namN, hl]; rfl), rfl⟩

/-- A sort of runes that does not tell runes from 128 on apart: it says of a rune what it says of its first byte. -/
theorem dec_same {p : Nat → Bool} {b : Bool} (hp : ∀ c, 128 ≤ c → p c = b) {s : ByteArray} {q : Nat} (hq : q < s.size) : p (Utf8.decode s q).1 = p (bat s q) := by
  by_cases h : bat s q < 128
  · rw [dec_low hq h]
  · rw [hp _ (dec_high hq (by omega)), hp _ (by omega)]
theorem dec_all {p : Nat → Bool} {b : Bool} (hp : ∀ c, 128 ≤ c → p c = b) {s : ByteArray} {q : Nat} (hq : q < s.size) (ht : p (bat s q) = true) (hall : ∀ j, j < q → p (bat s j) = true) : ∀ j, j < q + (Utf8.decode s q).2 → p (bat s j) = true := by
  intro j hj
  rcases Nat.lt_trichotomy j q with h | h | h
  · exact hall j h
  · rw [h]; exact ht
  · by_cases hb : bat s q < 128
    · rw [dec_low hq hb] at hj; simp at hj; omega
    · have h1 := (dec_width s q hq).2.2 (j - q) (by omega) (by omega)
      rw [show q + (j - q) = j by omega] at h1
      rw [hp _ h1, ← hp _ (show 128 ≤ bat s q by omega), ht]

theorem sortDig : ∀ c, 128 ≤ c → digN c = false := fun c h => by simp only [digN, decide_eq_false_iff_not]; omega
theorem sortLet : ∀ c, 128 ≤ c → letN c = false := fun c h => by simp only [letN, decide_eq_false_iff_not]; omega
theorem sortNam : ∀ c, 128 ≤ c → namN c = false := fun c h => by simp [namN, sortDig c h, sortLet c h]; omega
theorem sortRem : ∀ c, 128 ≤ c → remN c = true := fun c h => by simp [remN]; omega

set_option maxHeartbeats 1000000 in
theorem span_dig (s : ByteArray) (w : World) (_hs : s.size ≤ 6000) : Calls Tryd.prog 13 #[.string s, .func (.func 19) #[] #[]] w fun e w' => e = .returned (.int .i64 (runEnd digN s 0)) ∧ Below w.heap.size w w' := by
  go_enter Tryd.func13, Tryd.ntmps13
  go_wp2_with fail
  go_loopw [5] (fun _ w' => ∃ q : Nat, w' = w.iter s q ∧ q ≤ s.size ∧ ∀ j, j < q → digN (bat s j) = true) (fun _ w' => s.size - w'.iterPos w.heap.size)
  case atStart => exact ⟨0, rfl, Nat.zero_le _, fun j hj => absurd hj (by omega)⟩
  case round =>
    obtain ⟨q, rfl, hq, hall⟩ := hrel
    have HA : Hid (∀ j, j < q → digN (bat s j) = true) := hall
    clear hall
    by_cases hlt : q < s.size
    · have hnx : ∀ ty, (Instr.next (.pointer (some ⟨w.heap.size, 0, none⟩)) true ty).run Tryd.prog (w.iter s q) = _ := fun ty => run_next_any w s q ty hlt
      have hd := dec_width s q hlt
      obtain ⟨hd1, hd2, _⟩ := hd
      have HS : Hid (digN (Utf8.decode s q).1 = digN (bat s q)) := dec_same sortDig hlt
      cases hp : digN (Utf8.decode s q).1
      · go_wp2_with (go_at_call 19; refine (digit19 _ _).mono ?_; rintro e w' ⟨rfl, rfl⟩)
        go_ret
        refine ⟨ret_int ?_, (Below.refl _ _).alloc (Nat.le_refl _) _⟩
        rw [runEnd_eq (Nat.zero_le q) hq (fun j _ hj => HA.out j hj) (fun _ => by rw [← HS.out]; exact hp)]
      · go_wp2_with (go_at_call 19; refine (digit19 _ _).mono ?_; rintro e w' ⟨rfl, rfl⟩)
        go_roundw
        case rel => exact ⟨_, rfl, hd2, dec_all sortDig hlt (by rw [← HS.out]; exact hp) HA.out⟩
        case measure => simp; omega
    · have hnx : ∀ ty, (Instr.next (.pointer (some ⟨w.heap.size, 0, none⟩)) true ty).run Tryd.prog (w.iter s q) = _ := fun ty => run_next_end w s q ty hlt
      go_wp2_with fail
      go_ret
      refine ⟨ret_int ?_, (Below.refl _ _).alloc (Nat.le_refl _) _⟩
      rw [runEnd_eq (Nat.zero_le q) hq (fun j _ hj => HA.out j hj) (fun h => absurd h hlt), show q = s.size by omega]

set_option maxHeartbeats 1000000 in
theorem span_let (s : ByteArray) (w : World) (_hs : s.size ≤ 6000) : Calls Tryd.prog 13 #[.string s, .func (.func 32) #[] #[]] w fun e w' => e = .returned (.int .i64 (runEnd letN s 0)) ∧ Below w.heap.size w w' := by
  go_enter Tryd.func13, Tryd.ntmps13
  go_wp2_with fail
  go_loopw [5] (fun _ w' => ∃ q : Nat, w' = w.iter s q ∧ q ≤ s.size ∧ ∀ j, j < q → letN (bat s j) = true) (fun _ w' => s.size - w'.iterPos w.heap.size)
  case atStart => exact ⟨0, rfl, Nat.zero_le _, fun j hj => absurd hj (by omega)⟩
  case round =>
    obtain ⟨q, rfl, hq, hall⟩ := hrel
    have HA : Hid (∀ j, j < q → letN (bat s j) = true) := hall
    clear hall
    by_cases hlt : q < s.size
    · have hnx : ∀ ty, (Instr.next (.pointer (some ⟨w.heap.size, 0, none⟩)) true ty).run Tryd.prog (w.iter s q) = _ := fun ty => run_next_any w s q ty hlt
      have hd := dec_width s q hlt
      obtain ⟨hd1, hd2, _⟩ := hd
      have HS : Hid (letN (Utf8.decode s q).1 = letN (bat s q)) := dec_same sortLet hlt
      cases hp : letN (Utf8.decode s q).1
      · go_wp2_with (go_at_call 32; refine (letter32 _ _).mono ?_; rintro e w' ⟨rfl, rfl⟩)
        go_ret
        refine ⟨ret_int ?_, (Below.refl _ _).alloc (Nat.le_refl _) _⟩
        rw [runEnd_eq (Nat.zero_le q) hq (fun j _ hj => HA.out j hj) (fun _ => by rw [← HS.out]; exact hp)]
      · go_wp2_with (go_at_call 32; refine (letter32 _ _).mono ?_; rintro e w' ⟨rfl, rfl⟩)
        go_roundw
        case rel => exact ⟨_, rfl, hd2, dec_all sortLet hlt (by rw [← HS.out]; exact hp) HA.out⟩
        case measure => simp; omega
    · have hnx : ∀ ty, (Instr.next (.pointer (some ⟨w.heap.size, 0, none⟩)) true ty).run Tryd.prog (w.iter s q) = _ := fun ty => run_next_end w s q ty hlt
      go_wp2_with fail
      go_ret
      refine ⟨ret_int ?_, (Below.refl _ _).alloc (Nat.le_refl _) _⟩
      rw [runEnd_eq (Nat.zero_le q) hq (fun j _ hj => HA.out j hj) (fun h => absurd h hlt), show q = s.size by omega]

set_option maxHeartbeats 1000000 in
theorem span_nam (s : ByteArray) (w : World) (_hs : s.size ≤ 6000) : Calls Tryd.prog 13 #[.string s, .func (.func 33) #[] #[]] w fun e w' => e = .returned (.int .i64 (runEnd namN s 0)) ∧ Below w.heap.size w w' := by
  go_enter Tryd.func13, Tryd.ntmps13
  go_wp2_with fail
  go_loopw [5] (fun _ w' => ∃ q : Nat, w' = w.iter s q ∧ q ≤ s.size ∧ ∀ j, j < q → namN (bat s j) = true) (fun _ w' => s.size - w'.iterPos w.heap.size)
  case atStart => exact ⟨0, rfl, Nat.zero_le _, fun j hj => absurd hj (by omega)⟩
  case round =>
    obtain ⟨q, rfl, hq, hall⟩ := hrel
    have HA : Hid (∀ j, j < q → namN (bat s j) = true) := hall
    clear hall
    by_cases hlt : q < s.size
    · have hnx : ∀ ty, (Instr.next (.pointer (some ⟨w.heap.size, 0, none⟩)) true ty).run Tryd.prog (w.iter s q) = _ := fun ty => run_next_any w s q ty hlt
      have hd := dec_width s q hlt
      obtain ⟨hd1, hd2, _⟩ := hd
      have HS : Hid (namN (Utf8.decode s q).1 = namN (bat s q)) := dec_same sortNam hlt
      cases hp : namN (Utf8.decode s q).1
      · go_wp2_with (go_at_call 33; refine (inName33 _ _).mono ?_; rintro e w' ⟨rfl, rfl⟩)
        go_ret
        refine ⟨ret_int ?_, (Below.refl _ _).alloc (Nat.le_refl _) _⟩
        rw [runEnd_eq (Nat.zero_le q) hq (fun j _ hj => HA.out j hj) (fun _ => by rw [← HS.out]; exact hp)]
      · go_wp2_with (go_at_call 33; refine (inName33 _ _).mono ?_; rintro e w' ⟨rfl, rfl⟩)
        go_roundw
        case rel => exact ⟨_, rfl, hd2, dec_all sortNam hlt (by rw [← HS.out]; exact hp) HA.out⟩
        case measure => simp; omega
    · have hnx : ∀ ty, (Instr.next (.pointer (some ⟨w.heap.size, 0, none⟩)) true ty).run Tryd.prog (w.iter s q) = _ := fun ty => run_next_end w s q ty hlt
      go_wp2_with fail
      go_ret
      refine ⟨ret_int ?_, (Below.refl _ _).alloc (Nat.le_refl _) _⟩
      rw [runEnd_eq (Nat.zero_le q) hq (fun j _ hj => HA.out j hj) (fun h => absurd h hlt), show q = s.size by omega]

set_option maxHeartbeats 1000000 in
theorem span_rem (s : ByteArray) (w : World) (_hs : s.size ≤ 6000) : Calls Tryd.prog 13 #[.string s, .func (.func 14) #[] #[]] w fun e w' => e = .returned (.int .i64 (runEnd remN s 0)) ∧ Below w.heap.size w w' := by
  go_enter Tryd.func13, Tryd.ntmps13
  go_wp2_with fail
  go_loopw [5] (fun _ w' => ∃ q : Nat, w' = w.iter s q ∧ q ≤ s.size ∧ ∀ j, j < q → remN (bat s j) = true) (fun _ w' => s.size - w'.iterPos w.heap.size)
  case atStart => exact ⟨0, rfl, Nat.zero_le _, fun j hj => absurd hj (by omega)⟩
  case round =>
    obtain ⟨q, rfl, hq, hall⟩ := hrel
    have HA : Hid (∀ j, j < q → remN (bat s j) = true) := hall
    clear hall
    by_cases hlt : q < s.size
    · have hnx : ∀ ty, (Instr.next (.pointer (some ⟨w.heap.size, 0, none⟩)) true ty).run Tryd.prog (w.iter s q) = _ := fun ty => run_next_any w s q ty hlt
      have hd := dec_width s q hlt
      obtain ⟨hd1, hd2, _⟩ := hd
      have HS : Hid (remN (Utf8.decode s q).1 = remN (bat s q)) := dec_same sortRem hlt
      cases hp : remN (Utf8.decode s q).1
      · go_wp2_with (go_at_call 14; refine (remark14 _ _).mono ?_; rintro e w' ⟨rfl, rfl⟩)
        go_ret
        refine ⟨ret_int ?_, (Below.refl _ _).alloc (Nat.le_refl _) _⟩
        rw [runEnd_eq (Nat.zero_le q) hq (fun j _ hj => HA.out j hj) (fun _ => by rw [← HS.out]; exact hp)]
      · go_wp2_with (go_at_call 14; refine (remark14 _ _).mono ?_; rintro e w' ⟨rfl, rfl⟩)
        go_roundw
        case rel => exact ⟨_, rfl, hd2, dec_all sortRem hlt (by rw [← HS.out]; exact hp) HA.out⟩
        case measure => simp; omega
    · have hnx : ∀ ty, (Instr.next (.pointer (some ⟨w.heap.size, 0, none⟩)) true ty).run Tryd.prog (w.iter s q) = _ := fun ty => run_next_end w s q ty hlt
      go_wp2_with fail
      go_ret
      refine ⟨ret_int ?_, (Below.refl _ _).alloc (Nat.le_refl _) _⟩
      rw [runEnd_eq (Nat.zero_le q) hq (fun j _ hj => HA.out j hj) (fun h => absurd h hlt), show q = s.size by omega]

end Go.Proofs.YtfelokbicifclaaDoor
