/- The document's own lexer, function by function: each answers what the plain mathematics says. -/
import Derived.Test.YtfelokbicifclaaDoorLex
import Derived.Lib.Strings
namespace Go.Proofs.YtfelokbicifclaaDoor
open Go.RowKit

theorem ret_bool {a b : Bool} (h : a = b) : Ending.returned (.bool a) = .returned (.bool b) := by rw [h]
theorem ret_int {k : IntKind} {a b : Int} (h : a = b) : Ending.returned (.int k a) = .returned (.int k b) := by rw [h]

set_option maxHeartbeats 400000 in
theorem digit25 (c : Nat) (w : World) : Calls Tryd.prog 25 #[.int .u8 c] w fun e w' => e = .returned (.bool (digN c)) ∧ w' = w := by
  by_cases h1 : (48 : Int) ≤ c
  · by_cases h2 : (c : Int) ≤ 57
    · go_enter Tryd.func25, Tryd.ntmps25
      go_wp2
      go_ret
      exact ⟨ret_bool (by simp [digN]; omega), rfl⟩
    · go_enter Tryd.func25, Tryd.ntmps25
      go_wp2
      go_ret
      exact ⟨ret_bool (by simp [digN]; omega), rfl⟩
  · go_enter Tryd.func25, Tryd.ntmps25
    go_wp2
    go_ret
    exact ⟨ret_bool (by simp [digN]; omega), rfl⟩

set_option maxHeartbeats 400000 in
theorem letter27 (c : Nat) (w : World) : Calls Tryd.prog 27 #[.int .u8 c] w fun e w' => e = .returned (.bool (letN c)) ∧ w' = w := by
  rcases (show (97 : Int) ≤ c ∧ (c : Int) ≤ 122 ∨ (122 : Int) < c ∨ (65 : Int) ≤ c ∧ (c : Int) ≤ 90 ∨ (90 : Int) < c ∧ (c : Int) < 97 ∨ (c : Int) < 65 by omega) with ⟨h1, h2⟩ | h1 | ⟨h1, h2⟩ | ⟨h1, h2⟩ | h1
  all_goals
    go_enter Tryd.func27, Tryd.ntmps27
    go_wp2
    go_ret
    exact ⟨ret_bool (by first | (rw [show letN c = true by simp only [letN, decide_eq_true_eq]; omega]; done) | (rw [show letN c = false by simp only [letN, decide_eq_false_iff_not]; omega]; first | done | rfl | (simp; omega) | trace_state)), rfl⟩

set_option maxHeartbeats 1000000 in
theorem rest28 (s : ByteArray) (i : Nat) (w : World) (hs : s.size ≤ 6000) (hi : i ≤ s.size) : Calls Tryd.prog 28 #[.string s, .int .i64 i] w fun e w' => e = .returned (.int .i64 (runEnd namN s i)) ∧ w' = w := by
  go_enter Tryd.func28, Tryd.ntmps28
  go_wp2_with fail
  go_loop [1] (fun t => ∃ k : Nat, k ≤ s.size ∧ t = .int .i64 k ∧ runEnd namN s k = runEnd namN s i) (fun t => s.size - (intOf t).toNat)
  case atStart => exact ⟨i, hi, rfl, rfl⟩
  case round =>
    obtain ⟨k, hk, rfl, hrun⟩ := hrel
    have HR : Hid (runEnd namN s k = runEnd namN s i) := hrun
    clear hrun
    by_cases hlt : k < s.size
    · have hb := bat_eq hlt
      have HB : Hid (bat s k = (s[k]'hlt).toNat) := hb
      clear hb
      cases hl : letN (s[k]'hlt).toNat
      · cases hd : digN (s[k]'hlt).toNat
        · cases hu : ((((s[k]'hlt).toNat : Int)) == 95)
          · go_wp2_with (first | (go_at_call 27; refine (letter27 _ _).mono ?_; rintro e w' ⟨rfl, rfl⟩) | (go_at_call 25; refine (digit25 _ _).mono ?_; rintro e w' ⟨rfl, rfl⟩))
            go_ret
            exact ⟨ret_int (by have := HR.out; rw [runEnd_no (by rw [HB.out]; simp at hu; simp [namN, hl, hd]; omega)] at this; rw [this]), rfl⟩
          · have hu' : (s[k]'hlt).toNat = 95 := by simp at hu; omega
            have HU : Hid ((s[k]'hlt).toNat = 95) := hu'
            clear hu'
            go_wp2_with (first | (go_at_call 27; refine (letter27 _ _).mono ?_; rintro e w' ⟨rfl, rfl⟩) | (go_at_call 25; refine (digit25 _ _).mono ?_; rintro e w' ⟨rfl, rfl⟩))
            go_round
            case rel => exact ⟨k + 1, by omega, by go_num, by rw [← HR.out]; exact (runEnd_go hlt (by rw [HB.out]; simp [namN, HU.out])).symm⟩
            case measure => simp [intOf]; omega
        · go_wp2_with (first | (go_at_call 27; refine (letter27 _ _).mono ?_; rintro e w' ⟨rfl, rfl⟩) | (go_at_call 25; refine (digit25 _ _).mono ?_; rintro e w' ⟨rfl, rfl⟩))
          go_round
          case rel => exact ⟨k + 1, by omega, by go_num, by rw [← HR.out]; exact (runEnd_go hlt (by rw [HB.out]; simp [namN, hd])).symm⟩
          case measure => simp [intOf]; omega
      · go_wp2_with (first | (go_at_call 27; refine (letter27 _ _).mono ?_; rintro e w' ⟨rfl, rfl⟩) | (go_at_call 25; refine (digit25 _ _).mono ?_; rintro e w' ⟨rfl, rfl⟩))
        go_round
        case rel => exact ⟨k + 1, by omega, by go_num, by rw [← HR.out]; exact (runEnd_go hlt (by rw [HB.out]; simp [namN, hl])).symm⟩
        case measure => simp [intOf]; omega
    · go_wp2
      go_ret
      exact ⟨ret_int (by have := HR.out; rw [runEnd_end hlt] at this; rw [this]), rfl⟩

theorem num_step (s : ByteArray) (i k : Nat) (h : i ≤ k) : numVal s i (k + 1 - i) = numVal s i (k - i) * 10 + (bat s k - 48) := by
  rw [show k + 1 - i = (k - i) + 1 by omega]
  show numVal s i (k - i) * 10 + (bat s (i + (k - i)) - 48) = _
  rw [show i + (k - i) = k by omega]
/-- What 'number' answers: the digits' number, or that it is too great. -/
def NumPost (s : ByteArray) (i : Nat) (e : Ending) : Prop :=
  ∃ (n : Int) (big : Bool), e = .returned (.tuple #[.int .i64 n, .int .i64 (runEnd digN s i), .bool big]) ∧
    (big = true → 9223372036854775807 < numVal s i (runEnd digN s i - i)) ∧ (big = false → n = (numVal s i (runEnd digN s i - i) : Nat) ∧ numVal s i (runEnd digN s i - i) ≤ 9223372036854775807)

set_option maxHeartbeats 1000000 in
theorem number26 (s : ByteArray) (i : Nat) (w : World) (hs : s.size ≤ 6000) (hi : i ≤ s.size) :
    Calls Tryd.prog 26 #[.string s, .int .i64 i] w fun e w' => NumPost s i e ∧ w' = w := by
  go_enter Tryd.func26, Tryd.ntmps26
  go_wp2_with fail
  go_loop [1, 7, 8] (fun t n b => ∃ (k : Nat) (m : Nat) (big : Bool), i ≤ k ∧ k ≤ s.size ∧ m ≤ 9223372036854775807 ∧ t = .int .i64 k ∧ n = .int .i64 m ∧ b = .bool big ∧ runEnd digN s k = runEnd digN s i ∧
      (big = true → 9223372036854775807 < numVal s i (k - i)) ∧ (big = false → m = numVal s i (k - i))) (fun t _ _ => s.size - (intOf t).toNat)
  case atStart => exact ⟨i, 0, false, Nat.le_refl _, hi, by omega, rfl, rfl, rfl, rfl, by simp, by simp [numVal]⟩
  case round =>
    obtain ⟨k, m, big, hik, hk, hm, rfl, rfl, rfl, hrun, hb1, hb2⟩ := hrel
    have HR : Hid (runEnd digN s k = runEnd digN s i) := hrun
    have H1 : Hid (big = true → 9223372036854775807 < numVal s i (k - i)) := hb1
    have H2 : Hid (big = false → m = numVal s i (k - i)) := hb2
    clear hrun hb1 hb2
    by_cases hlt : k < s.size
    · have HB : Hid (bat s k = (s[k]'hlt).toNat) := bat_eq hlt
      cases hd : digN (s[k]'hlt).toNat
      · go_wp2_with (go_at_call 25; refine (digit25 _ _).mono ?_; rintro e w' ⟨rfl, rfl⟩)
        go_ret3
        have e : runEnd digN s i = k := by rw [← HR.out]; exact runEnd_no (by rw [HB.out]; exact hd)
        refine ⟨?_, rfl⟩
        unfold NumPost
        rw [e]
        exact ⟨m, big, rfl, H1.out, fun h => ⟨by rw [H2.out h], by rw [← H2.out h]; exact hm⟩⟩
      · have hd1 : (48 : Int) ≤ ((s[k]'hlt).toNat : Int) := by simp [digN] at hd; omega
        have hd2 : ((s[k]'hlt).toNat : Int) ≤ 57 := by simp [digN] at hd; omega
        have HS : Hid (numVal s i (k + 1 - i) = numVal s i (k - i) * 10 + ((s[k]'hlt).toNat - 48)) := by
          have := num_step s i k hik
          rw [bat_eq hlt] at this
          exact this
        have HG : Hid (runEnd digN s (k + 1) = runEnd digN s i) := by
          have := HR.out
          rw [runEnd_go hlt (by rw [HB.out]; exact hd)] at this
          exact this
        by_cases hbig : (9223372036854775807 - (((s[k]'hlt).toNat : Int) - 48)) / 10 < (m : Int)
        · go_wp2_with (go_at_call 25; refine (digit25 _ _).mono ?_; rintro e w' ⟨rfl, rfl⟩)
          go_round
          case rel =>
            refine ⟨k + 1, m, true, by omega, by omega, hm, by go_num, rfl, rfl, HG.out, fun _ => ?_, fun h => by cases h⟩
            rw [HS.out]
            cases big
            · have := H2.out rfl
              rw [← this]; omega
            · have := H1.out rfl
              omega
          case measure => simp [intOf]; omega
        · go_wp2_with (go_at_call 25; refine (digit25 _ _).mono ?_; rintro e w' ⟨rfl, rfl⟩)
          go_round
          case rel =>
            refine ⟨k + 1, m * 10 + ((s[k]'hlt).toNat - 48), big, by omega, by omega, by omega, by go_num, by go_num, rfl, HG.out, fun h => ?_, fun h => ?_⟩
            · rw [HS.out]
              have := H1.out h
              omega
            · rw [HS.out, ← H2.out h]
          case measure => simp [intOf]; omega
    · go_wp2
      go_ret3
      have e : runEnd digN s i = k := by rw [← HR.out]; exact runEnd_end hlt
      refine ⟨?_, rfl⟩
      unfold NumPost
      rw [e]
      exact ⟨m, big, rfl, H1.out, fun h => ⟨by rw [H2.out h], by rw [← H2.out h]; exact hm⟩⟩

theorem two_eq {s : ByteArray} {i : Nat} (h : i + 1 < s.size) (a b : UInt8) : ((s.extract i (i + 2)).toList == [a, b]) = ((bat s i, bat s (i + 1)) == (a.toNat, b.toNat)) := by
  have e : (s.extract i (i + 2)).toList = [s[i]'(by omega), s[i + 1]'h] := by
    rw [Lib.extract_toList, show i + 2 - i = 2 by omega]
    rw [List.drop_eq_getElem_cons (by simp; omega), List.drop_eq_getElem_cons (by simpa using h)]
    rfl
  rw [e, bat_eq h, bat_eq (show i < s.size by omega), Bool.eq_iff_iff]
  simp [UInt8.toNat_inj]
theorem two_yes {s : ByteArray} {i : Nat} (h : i + 1 < s.size) (a b : UInt8) (hl : ((s.extract i (i + 2)).toList == [a, b]) = true) (hm : twoSigns.contains (a.toNat, b.toNat) = true) : signLen s i = 2 := by
  rw [two_eq h] at hl
  have e : (bat s i, bat s (i + 1)) = (a.toNat, b.toNat) := by simpa using hl
  unfold signLen
  rw [e, if_pos hm]
theorem two_no {s : ByteArray} {i : Nat} (h : i + 1 < s.size) (h1 : ((s.extract i (i + 2)).toList == [58, 58]) = false) (h2 : ((s.extract i (i + 2)).toList == [45, 62]) = false) (h3 : ((s.extract i (i + 2)).toList == [61, 62]) = false) (h4 : ((s.extract i (i + 2)).toList == [61, 61]) = false) (h5 : ((s.extract i (i + 2)).toList == [33, 61]) = false) (h6 : ((s.extract i (i + 2)).toList == [60, 61]) = false) (h7 : ((s.extract i (i + 2)).toList == [62, 61]) = false) (h8 : ((s.extract i (i + 2)).toList == [38, 38]) = false) (h9 : ((s.extract i (i + 2)).toList == [124, 124]) = false) : twoSigns.contains (bat s i, bat s (i + 1)) = false := by
  rw [two_eq h] at h1
  rw [two_eq h] at h2
  rw [two_eq h] at h3
  rw [two_eq h] at h4
  rw [two_eq h] at h5
  rw [two_eq h] at h6
  rw [two_eq h] at h7
  rw [two_eq h] at h8
  rw [two_eq h] at h9
  simp only [twoSigns, List.contains, List.elem]
  simp only [UInt8.reduceToNat] at h1 h2 h3 h4 h5 h6 h7 h8 h9
  simp only [h1, h2, h3, h4, h5, h6, h7, h8, h9]
theorem two_out {s : ByteArray} {i : Nat} (h : ¬ i + 1 < s.size) : twoSigns.contains (bat s i, bat s (i + 1)) = false := by
  rw [bat_out h]; simp [twoSigns]
theorem one_yes {s : ByteArray} {i : Nat} {c : Int} (h : twoSigns.contains (bat s i, bat s (i + 1)) = false) (hi : i < s.size) (hc : (((s[i]'hi).toNat : Int) == c) = true) (hm : oneSigns.contains c.toNat = true) : signLen s i = 1 := by
  have e : bat s i = c.toNat := by rw [bat_eq hi]; simp at hc; omega
  unfold signLen
  rw [h, e, if_neg (by simp), if_pos hm]

set_option maxRecDepth 100000 in
set_option maxHeartbeats 1000000 in
theorem sign29_one (s : ByteArray) (i : Nat) (w : World) (hs : s.size ≤ 6000) (hi : i < s.size) (hno : twoSigns.contains (bat s i, bat s (i + 1)) = false)
    (hl : i + 1 < s.size → ((s.extract i (i + 2)).toList == [58, 58]) = false ∧ ((s.extract i (i + 2)).toList == [45, 62]) = false ∧ ((s.extract i (i + 2)).toList == [61, 62]) = false ∧ ((s.extract i (i + 2)).toList == [61, 61]) = false ∧ ((s.extract i (i + 2)).toList == [33, 61]) = false ∧ ((s.extract i (i + 2)).toList == [60, 61]) = false ∧ ((s.extract i (i + 2)).toList == [62, 61]) = false ∧ ((s.extract i (i + 2)).toList == [38, 38]) = false ∧ ((s.extract i (i + 2)).toList == [124, 124]) = false) :
    Calls Tryd.prog 29 #[.string s, .int .i64 i] w fun e w' => e = .returned (.int .i64 (signLen s i)) ∧ w' = w := by
  have HN : Hid (twoSigns.contains (bat s i, bat s (i + 1)) = false) := hno
  clear hno
  by_cases h2 : i + 1 < s.size
  · obtain ⟨h11, h12, h13, h14, h15, h16, h17, h18, h19⟩ := hl h2
    clear hl
    go_enter Tryd.func29, Tryd.ntmps29
    go_wp2_with fail
    all_goals first | (exfalso; simp_all; done) | (go_ret; refine ⟨ret_int ?_, rfl⟩; first | (have hy := one_yes HN.out hi ‹(((s[i]'hi).toNat : Int) == _) = true› (by decide); rw [hy]; rfl) | (unfold signLen; rw [HN.out, if_neg (by simp), if_neg (by rw [bat_eq hi]; simp_all [oneSigns]; omega)]; rfl))
  · clear hl
    go_enter Tryd.func29, Tryd.ntmps29
    go_wp2_with fail
    all_goals first | (exfalso; simp_all; done) | (go_ret; refine ⟨ret_int ?_, rfl⟩; first | (have hy := one_yes HN.out hi ‹(((s[i]'hi).toNat : Int) == _) = true› (by decide); rw [hy]; rfl) | (unfold signLen; rw [HN.out, if_neg (by simp), if_neg (by rw [bat_eq hi]; simp_all [oneSigns]; omega)]; rfl))

set_option maxRecDepth 100000 in
set_option maxHeartbeats 2000000 in
theorem sign29 (s : ByteArray) (i : Nat) (w : World) (hs : s.size ≤ 6000) (hi : i < s.size) :
    Calls Tryd.prog 29 #[.string s, .int .i64 i] w fun e w' => e = .returned (.int .i64 (signLen s i)) ∧ w' = w := by
  by_cases h2 : i + 1 < s.size
  · cases h11 : ((s.extract i (i + 2)).toList == [58, 58])
    · cases h12 : ((s.extract i (i + 2)).toList == [45, 62])
      · cases h13 : ((s.extract i (i + 2)).toList == [61, 62])
        · cases h14 : ((s.extract i (i + 2)).toList == [61, 61])
          · cases h15 : ((s.extract i (i + 2)).toList == [33, 61])
            · cases h16 : ((s.extract i (i + 2)).toList == [60, 61])
              · cases h17 : ((s.extract i (i + 2)).toList == [62, 61])
                · cases h18 : ((s.extract i (i + 2)).toList == [38, 38])
                  · cases h19 : ((s.extract i (i + 2)).toList == [124, 124])
                    · exact sign29_one s i w hs hi (two_no h2 h11 h12 h13 h14 h15 h16 h17 h18 h19) (fun _ => ⟨h11, h12, h13, h14, h15, h16, h17, h18, h19⟩)
                    · have HT : Hid (signLen s i = 2) := two_yes h2 _ _ h19 (by decide)
                      go_enter Tryd.func29, Tryd.ntmps29
                      go_wp2_with fail
                      all_goals first | (exfalso; simp_all; done) | (go_ret; exact ⟨ret_int (by rw [HT.out]; rfl), rfl⟩)
                  · have HT : Hid (signLen s i = 2) := two_yes h2 _ _ h18 (by decide)
                    go_enter Tryd.func29, Tryd.ntmps29
                    go_wp2_with fail
                    all_goals first | (exfalso; simp_all; done) | (go_ret; exact ⟨ret_int (by rw [HT.out]; rfl), rfl⟩)
                · have HT : Hid (signLen s i = 2) := two_yes h2 _ _ h17 (by decide)
                  go_enter Tryd.func29, Tryd.ntmps29
                  go_wp2_with fail
                  all_goals first | (exfalso; simp_all; done) | (go_ret; exact ⟨ret_int (by rw [HT.out]; rfl), rfl⟩)
              · have HT : Hid (signLen s i = 2) := two_yes h2 _ _ h16 (by decide)
                go_enter Tryd.func29, Tryd.ntmps29
                go_wp2_with fail
                all_goals first | (exfalso; simp_all; done) | (go_ret; exact ⟨ret_int (by rw [HT.out]; rfl), rfl⟩)
            · have HT : Hid (signLen s i = 2) := two_yes h2 _ _ h15 (by decide)
              go_enter Tryd.func29, Tryd.ntmps29
              go_wp2_with fail
              all_goals first | (exfalso; simp_all; done) | (go_ret; exact ⟨ret_int (by rw [HT.out]; rfl), rfl⟩)
          · have HT : Hid (signLen s i = 2) := two_yes h2 _ _ h14 (by decide)
            go_enter Tryd.func29, Tryd.ntmps29
            go_wp2_with fail
            all_goals first | (exfalso; simp_all; done) | (go_ret; exact ⟨ret_int (by rw [HT.out]; rfl), rfl⟩)
        · have HT : Hid (signLen s i = 2) := two_yes h2 _ _ h13 (by decide)
          go_enter Tryd.func29, Tryd.ntmps29
          go_wp2_with fail
          all_goals first | (exfalso; simp_all; done) | (go_ret; exact ⟨ret_int (by rw [HT.out]; rfl), rfl⟩)
      · have HT : Hid (signLen s i = 2) := two_yes h2 _ _ h12 (by decide)
        go_enter Tryd.func29, Tryd.ntmps29
        go_wp2_with fail
        all_goals first | (exfalso; simp_all; done) | (go_ret; exact ⟨ret_int (by rw [HT.out]; rfl), rfl⟩)
    · have HT : Hid (signLen s i = 2) := two_yes h2 _ _ h11 (by decide)
      go_enter Tryd.func29, Tryd.ntmps29
      go_wp2_with fail
      all_goals first | (exfalso; simp_all; done) | (go_ret; exact ⟨ret_int (by rw [HT.out]; rfl), rfl⟩)
  · exact sign29_one s i w hs hi (two_out h2) (fun h => absurd h h2)
end Go.Proofs.YtfelokbicifclaaDoor
