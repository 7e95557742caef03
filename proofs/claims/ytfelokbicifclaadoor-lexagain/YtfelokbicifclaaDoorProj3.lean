/- The project's lexer: what stands at a text's beginning, a sign aside. -/
import Derived.Test.YtfelokbicifclaaDoorProj2
namespace Go.Proofs.YtfelokbicifclaaDoor
open Go.RowKit

/-- The world behind 'plainToken''s first step: its result's block. -/
theorem start_below (w : World) : Below (w.heap.size + 1) (w.alloc (.cells #[.int .i64 0, .int .i64 0, .string ⟨#[]⟩, .int .i64 0] 30)) (w.alloc (.cells #[.int .i64 0, .int .i64 0, .string ⟨#[]⟩, .int .i64 0] 30)) := Below.refl _ _

/-- A call more, behind a world that keeps the first block. -/
theorem more_below {w w1 w2 : World} {o : Obj} (h : Below (w.heap.size + 1) (w.alloc o) w1) (h2 : Below w1.heap.size w1 w2) : Below (w.heap.size + 1) (w.alloc o) w2 :=
  h.trans (h2.mono (by have := h.size; simpa using this))
theorem glob_below {w w1 : World} {o : Obj} (hG : Globals w) (h : Below (w.heap.size + 1) (w.alloc o) w1) : Globals w1 := (hG.alloc o).below h (by have := hG.room; omega)

set_option maxHeartbeats 1000000 in
theorem plain15_digit (t : ByteArray) (w : World) (hs : t.size ≤ 6000) (h0 : 0 < t.size) (hd : digN (bat t 0) = true) (hG : Globals w) :
    Calls Tryd.prog 15 #[.string t] w fun e w' => e = .returned (plainV (plain t).err (plain t).kind (plainText t) (plain t).n (plain t).stop) ∧ Below w.heap.size w w' := by
  have hk := runEnd_pos h0 hd
  have hk2 := runEnd_le digN t 0 (Nat.zero_le _)
  have hall := runEnd_all digN t 0
  have HP : Hid (plain t = one t 0) := by show plain t = one t 0; rw [plain, if_pos (by simp [isPlain, hd])]
  have HO : Hid (one t 0 = if numVal t 0 (runEnd digN t 0 - 0) ≤ 9223372036854775807 then ⟨0, 1, runEnd digN t 0, numVal t 0 (runEnd digN t 0 - 0)⟩ else ⟨3, 0, 0, 0⟩) := one_digit hd
  have hsz : (t.extract 0 (runEnd digN t 0)).size = runEnd digN t 0 := by rw [ext_size t 0 _ hk2]; omega
  have hnum : numVal (t.extract 0 (runEnd digN t 0)) 0 (runEnd digN t 0) = numVal t 0 (runEnd digN t 0) := ext_numVal t 0 _ hk2 _ (by omega)
  have HD : Hid (∀ j, j < (t.extract 0 (runEnd digN t 0)).size → digN (bat (t.extract 0 (runEnd digN t 0)) j) = true) := by
    intro j hj
    rw [hsz] at hj
    rw [ext_bat t 0 _ j hk2 (by omega), Nat.zero_add]
    exact hall j (Nat.zero_le _) hj
  have HS : Hid ((t.extract 0 (runEnd digN t 0)).size = runEnd digN t 0) := hsz
  have HN : Hid (numVal (t.extract 0 (runEnd digN t 0)) 0 (runEnd digN t 0) = numVal t 0 (runEnd digN t 0)) := hnum
  clear hall hd hsz hnum
  go_enter Tryd.func15, Tryd.ntmps15
  go_wp2_with fail
  refine (span_dig t _ hs).mono ?_
  rintro e w1 ⟨rfl, hb⟩
  have hb1 := more_below (start_below w) hb
  have hG1 := glob_below hG hb1
  clear hb
  go_wp2_with fail
  by_cases hm : numVal t 0 (runEnd digN t 0) ≤ 9223372036854775807
  · refine (number20_ok _ _ (by rw [HS.out]; omega) (by rw [HS.out]; omega) HD.out (by rw [HS.out, HN.out]; exact hm)).mono ?_
    rintro e w2 ⟨rfl, hb⟩
    have hb2 := more_below hb1 hb
    clear hb hb1 hG1
    rw [HS.out, HN.out]
    have e1 : plain t = ⟨0, 1, runEnd digN t 0, numVal t 0 (runEnd digN t 0)⟩ := by rw [HP.out, HO.out, Nat.sub_zero, if_pos hm]
    have HE : Hid (plain t = ⟨0, 1, runEnd digN t 0, numVal t 0 (runEnd digN t 0)⟩) := e1
    clear e1 hm
    obtain ⟨f0, f1, f2, f3, g0, g1, g2, g3⟩ := tokBlock hb2
    unfold plainV
    go_wp2_with fail
    refine bodyPost_ret (v := plainV 0 1 ⟨#[]⟩ (numVal t 0 (runEnd digN t 0)) (runEnd digN t 0)) (by simp [results, Tryd.results15, go_sem, plainV, f0, f1, f2, f3]) rfl ⟨?_, below_four hb2 _ _ _ _⟩
    rw [plainText, HE.out]; rfl
  · refine (number20_big _ _ (by rw [HS.out]; omega) (by rw [HS.out]; omega) HD.out (by rw [HS.out, HN.out]; exact hm) hG1).mono ?_
    rintro e w2 ⟨rfl, hb⟩
    have hb2 := more_below hb1 hb
    clear hb hb1 hG1
    have e1 : plain t = ⟨3, 0, 0, 0⟩ := by rw [HP.out, HO.out, Nat.sub_zero, if_neg hm]
    have HE : Hid (plain t = ⟨3, 0, 0, 0⟩) := e1
    clear e1 hm
    obtain ⟨f0, f1, f2, f3, g0, g1, g2, g3⟩ := tokBlock hb2
    unfold plainV
    go_wp2_with fail
    refine bodyPost_ret (v := plainV 3 0 ⟨#[]⟩ 0 0) (by simp [results, Tryd.results15, go_sem, plainV, f0, f1, f2, f3]) rfl ⟨?_, below_four hb2 _ _ _ _⟩
    rw [plainText, HE.out]; rfl

set_option maxHeartbeats 1000000 in
theorem plain15_letter (t : ByteArray) (w : World) (hs : t.size ≤ 6000) (h0 : 0 < t.size) (hd : letN (bat t 0) = true) (hG : Globals w) :
    Calls Tryd.prog 15 #[.string t] w fun e w' => e = .returned (plainV (plain t).err (plain t).kind (plainText t) (plain t).n (plain t).stop) ∧ Below w.heap.size w w' := by
  have hk : 0 < runEnd namN t 0 := runEnd_pos h0 (by simp [namN, hd])
  have hk2 := runEnd_le namN t 0 (Nat.zero_le _)
  have HP : Hid (plain t = one t 0) := by show plain t = one t 0; rw [plain, if_pos (by simp [isPlain, hd])]
  have HO : Hid (one t 0 = if isWord (t.extract 0 (runEnd namN t 0)).toList then ⟨0, 3, runEnd namN t 0, 0⟩ else if 20 < runEnd namN t 0 - 0 then ⟨3, 0, 0, 0⟩ else ⟨0, 2, runEnd namN t 0, 0⟩) := one_letter hd
  have HS : Hid ((t.extract 0 (runEnd namN t 0)).size = runEnd namN t 0) := by show (t.extract 0 (runEnd namN t 0)).size = _; rw [ext_size t 0 _ hk2]; omega
  have HZ : Hid (runEnd digN t 0 = 0) := runEnd_no (let_not_dig hd)
  have HL : Hid (nameLen t = runEnd namN t 0) := by show nameLen t = _; rw [nameLen, hd]; simp
  clear hd
  go_enter Tryd.func15, Tryd.ntmps15
  go_wp2_with fail
  refine (span_dig t _ hs).mono ?_
  rintro e w1 ⟨rfl, hb⟩
  have hb1 := more_below (start_below w) hb
  clear hb
  rw [HZ.out]
  go_wp2_with fail
  refine (nameSize21 t _ hs).mono ?_
  rintro e w2 ⟨rfl, hb⟩
  have hb2 := more_below hb1 hb
  have hG2 := glob_below hG hb2
  clear hb hb1
  rw [HL.out]
  go_wp2_with fail
  refine (name22 _ _ (by rw [HS.out]; omega) hG2).mono ?_
  rintro e w3 ⟨rfl, hb⟩
  have hb3 := more_below hb2 hb
  clear hb hb2 hG2
  rw [HS.out]
  cases hw : isWord (t.extract 0 (runEnd namN t 0)).toList
  · rw [if_neg (by simp)]
    by_cases h20 : 20 < runEnd namN t 0
    · rw [if_pos h20]
      have e1 : plain t = ⟨3, 0, 0, 0⟩ := by rw [HP.out, HO.out, Nat.sub_zero, if_neg (by simp [hw]), if_pos h20]
      have HE : Hid (plain t = ⟨3, 0, 0, 0⟩) := e1
      clear e1 h20 hw
      obtain ⟨f0, f1, f2, f3, g0, g1, g2, g3⟩ := tokBlock hb3
      unfold plainV
      go_wp2_with fail
      refine bodyPost_ret (v := plainV 3 0 ⟨#[]⟩ 0 0) (by simp [results, Tryd.results15, go_sem, plainV, f0, f1, f2, f3]) rfl ⟨?_, below_four hb3 _ _ _ _⟩
      rw [plainText, HE.out]; rfl
    · rw [if_neg h20]
      have e1 : plain t = ⟨0, 2, runEnd namN t 0, 0⟩ := by rw [HP.out, HO.out, Nat.sub_zero, if_neg (by simp [hw]), if_neg h20]
      have HE : Hid (plain t = ⟨0, 2, runEnd namN t 0, 0⟩) := e1
      clear e1 h20 hw
      obtain ⟨f0, f1, f2, f3, g0, g1, g2, g3⟩ := tokBlock hb3
      unfold plainV
      go_wp2_with fail
      refine bodyPost_ret (v := plainV 0 2 (t.extract 0 (runEnd namN t 0)) 0 (runEnd namN t 0)) (by simp [results, Tryd.results15, go_sem, plainV, f0, f1, f2, f3]) rfl ⟨?_, below_four hb3 _ _ _ _⟩
      rw [plainText, HE.out]; rfl
  · rw [if_pos rfl]
    have e1 : plain t = ⟨0, 3, runEnd namN t 0, 0⟩ := by rw [HP.out, HO.out, if_pos hw]
    have HE : Hid (plain t = ⟨0, 3, runEnd namN t 0, 0⟩) := e1
    clear e1 hw
    obtain ⟨f0, f1, f2, f3, g0, g1, g2, g3⟩ := tokBlock hb3
    unfold plainV
    go_wp2_with fail
    refine bodyPost_ret (v := plainV 0 3 (t.extract 0 (runEnd namN t 0)) 0 (runEnd namN t 0)) (by simp [results, Tryd.results15, go_sem, plainV, f0, f1, f2, f3]) rfl ⟨?_, below_four hb3 _ _ _ _⟩
    rw [plainText, HE.out]; rfl

theorem nameLen_one (t : ByteArray) (h0 : 0 < t.size) (hd : letN (bat t 1) = true) : 1 + nameLen (t.extract 1 t.size) = runEnd namN t 1 := by
  rw [nameLen, ext_bat_end, if_pos hd]
  have := ext_runEnd namN t 1 0 (by omega)
  simpa using this
theorem nameLen_no (t : ByteArray) (hd : letN (bat t 1) = false) : nameLen (t.extract 1 t.size) = 0 := by
  rw [nameLen, ext_bat_end, if_neg (by simp [hd])]

set_option maxHeartbeats 1000000 in
theorem plain15_life (t : ByteArray) (w : World) (hs : t.size ≤ 6000) (h0 : 0 < t.size) (hb0 : bat t 0 = 39) (hd : letN (bat t 1) = true) :
    Calls Tryd.prog 15 #[.string t] w fun e w' => e = .returned (plainV (plain t).err (plain t).kind (plainText t) (plain t).n (plain t).stop) ∧ Below w.heap.size w w' := by
  have hi1 : 1 < t.size := by
    rcases Nat.lt_or_ge 1 t.size with h | h
    · exact h
    · rw [bat_out (by omega)] at hd; simp [letN] at hd
  have hk : 1 < runEnd namN t 1 := runEnd_pos hi1 (by simp [namN, hd])
  have hk2 := runEnd_le namN t 1 (by omega)
  have HP : Hid (plain t = one t 0) := by show plain t = one t 0; rw [plain, if_pos (by simp [isPlain, hb0, hd])]
  have HO : Hid (one t 0 = if 21 < runEnd namN t (0 + 1) - 0 then ⟨3, 0, 0, 0⟩ else ⟨0, 4, runEnd namN t (0 + 1), 0⟩) := one_life hb0 (by rw [Nat.zero_add]; exact hd)
  have HS : Hid ((t.extract 0 (runEnd namN t 1)).size = runEnd namN t 1) := by show (t.extract 0 (runEnd namN t 1)).size = _; rw [ext_size t 0 _ hk2]; omega
  have HZ : Hid (runEnd digN t 0 = 0) := runEnd_no (by rw [hb0]; rfl)
  have HL : Hid (nameLen t = 0) := by show nameLen t = 0; rw [nameLen, hb0]; rfl
  have HL1 : Hid (1 + nameLen (t.extract 1 t.size) = runEnd namN t 1) := nameLen_one t h0 hd
  have hx : (((t[0]'h0).toNat : Int) == 39) = true := by rw [← bat_eq h0, hb0]; rfl
  have hs1 : (t.extract 1 t.size).size ≤ 6000 := by rw [ext_size t 1 t.size (Nat.le_refl _)]; omega
  have HS1 : Hid ((t.extract 1 t.size).size ≤ 6000) := hs1
  clear hd hb0 hs1
  go_enter Tryd.func15, Tryd.ntmps15
  go_wp2_with fail
  refine (span_dig t _ hs).mono ?_
  rintro e w1 ⟨rfl, hb⟩
  have hb1 := more_below (start_below w) hb
  clear hb
  rw [HZ.out]
  go_wp2_with fail
  refine (nameSize21 t _ hs).mono ?_
  rintro e w2 ⟨rfl, hb⟩
  have hb2 := more_below hb1 hb
  clear hb hb1
  rw [HL.out]
  go_wp2_with fail
  refine (nameSize21 _ _ HS1.out).mono ?_
  rintro e w3 ⟨rfl, hb⟩
  have hb3 := more_below hb2 hb
  clear hb hb2
  obtain ⟨m, hm⟩ : ∃ m, m = nameLen (t.extract 1 t.size) := ⟨_, rfl⟩
  rw [← hm]
  have HM : Hid (1 + m = runEnd namN t 1) := by show 1 + m = _; rw [hm]; exact HL1.out
  have hm1 : 0 < m := by have := HM.out; omega
  have hm2 : 1 + m ≤ t.size := by have := HM.out; omega
  clear hm
  go_wp2_with fail
  rw [HM.out]
  refine (life23 _ _ (by rw [HS.out]; omega) (by rw [HS.out]; omega)).mono ?_
  rintro e w4 ⟨rfl, hb⟩
  have hb4 := more_below hb3 hb
  clear hb hb3
  rw [HS.out]
  by_cases h21 : 21 < runEnd namN t 1
  · rw [if_pos h21]
    have e1 : plain t = ⟨3, 0, 0, 0⟩ := by rw [HP.out, HO.out, Nat.sub_zero, Nat.zero_add, if_pos h21]
    have HE : Hid (plain t = ⟨3, 0, 0, 0⟩) := e1
    clear e1 h21
    obtain ⟨f0, f1, f2, f3, g0, g1, g2, g3⟩ := tokBlock hb4
    unfold plainV
    go_wp2_with fail
    refine bodyPost_ret (v := plainV 3 0 ⟨#[]⟩ 0 0) (by simp [results, Tryd.results15, go_sem, plainV, f0, f1, f2, f3]) rfl ⟨?_, below_four hb4 _ _ _ _⟩
    rw [plainText, HE.out]; rfl
  · rw [if_neg h21]
    have e1 : plain t = ⟨0, 4, runEnd namN t 1, 0⟩ := by rw [HP.out, HO.out, Nat.sub_zero, Nat.zero_add, if_neg h21]
    have HE : Hid (plain t = ⟨0, 4, runEnd namN t 1, 0⟩) := e1
    clear e1 h21
    obtain ⟨f0, f1, f2, f3, g0, g1, g2, g3⟩ := tokBlock hb4
    unfold plainV
    go_wp2_with fail
    refine bodyPost_ret (v := plainV 0 4 (t.extract 0 (runEnd namN t 1)) 0 (runEnd namN t 1)) (by simp [results, Tryd.results15, go_sem, plainV, f0, f1, f2, f3]) rfl ⟨?_, below_four hb4 _ _ _ _⟩
    rw [plainText, HE.out]; rfl

set_option maxHeartbeats 1000000 in
theorem plain15_none (t : ByteArray) (w : World) (hs : t.size ≤ 6000) (h0 : 0 < t.size) (hd : digN (bat t 0) = false) (hl : letN (bat t 0) = false) (hl1 : bat t 0 ≠ 39 ∨ letN (bat t 1) = false) :
    Calls Tryd.prog 15 #[.string t] w fun e w' => e = .returned (plainV (plain t).err (plain t).kind (plainText t) (plain t).n (plain t).stop) ∧ Below w.heap.size w w' := by
  have HE : Hid (plain t = ⟨0, 0, 0, 0⟩) := by
    show plain t = _
    rw [plain, if_neg]
    rcases hl1 with h | h <;> simp [isPlain, hd, hl, h]
  have HZ : Hid (runEnd digN t 0 = 0) := runEnd_no hd
  have HL : Hid (nameLen t = 0) := by show nameLen t = 0; rw [nameLen, hl]; rfl
  have hs1 : (t.extract 1 t.size).size ≤ 6000 := by rw [ext_size t 1 t.size (Nat.le_refl _)]; omega
  have HS1 : Hid ((t.extract 1 t.size).size ≤ 6000) := hs1
  have HX : Hid (0 < nameLen (t.extract 1 t.size) → ((((t[0]'h0).toNat : Int) == 39) = false)) := by
    intro h
    rcases hl1 with h1 | h1
    · rw [bat_eq h0] at h1; simp; omega
    · rw [nameLen_no t h1] at h; omega
  clear hd hl hl1 hs1
  go_enter Tryd.func15, Tryd.ntmps15
  go_wp2_with fail
  refine (span_dig t _ hs).mono ?_
  rintro e w1 ⟨rfl, hb⟩
  have hb1 := more_below (start_below w) hb
  clear hb
  rw [HZ.out]
  go_wp2_with fail
  refine (nameSize21 t _ hs).mono ?_
  rintro e w2 ⟨rfl, hb⟩
  have hb2 := more_below hb1 hb
  clear hb hb1
  rw [HL.out]
  go_wp2_with fail
  refine (nameSize21 _ _ HS1.out).mono ?_
  rintro e w3 ⟨rfl, hb⟩
  have hb3 := more_below hb2 hb
  clear hb hb2
  obtain ⟨m, hm⟩ : ∃ m, m = nameLen (t.extract 1 t.size) := ⟨_, rfl⟩
  rw [← hm]
  have HX' : Hid (0 < m → ((((t[0]'h0).toNat : Int) == 39) = false)) := by rw [hm]; exact HX.out
  clear hm
  obtain ⟨f0, f1, f2, f3, g0, g1, g2, g3⟩ := tokBlock hb3
  by_cases hm1 : 0 < m
  · have hx := HX'.out hm1
    go_wp2_with fail
    refine bodyPost_ret (v := plainV 0 0 ⟨#[]⟩ 0 0) (by simp [results, Tryd.results15, go_sem, plainV, f0, f1, f2, f3]) rfl ⟨?_, below_four hb3 _ _ _ _⟩
    rw [plainText, HE.out]; rfl
  · go_wp2_with fail
    refine bodyPost_ret (v := plainV 0 0 ⟨#[]⟩ 0 0) (by simp [results, Tryd.results15, go_sem, plainV, f0, f1, f2, f3]) rfl ⟨?_, below_four hb3 _ _ _ _⟩
    rw [plainText, HE.out]; rfl

theorem plain15 (t : ByteArray) (w : World) (hs : t.size ≤ 6000) (h0 : 0 < t.size) (hG : Globals w) :
    Calls Tryd.prog 15 #[.string t] w fun e w' => e = .returned (plainV (plain t).err (plain t).kind (plainText t) (plain t).n (plain t).stop) ∧ Below w.heap.size w w' := by
  cases hd : digN (bat t 0)
  · cases hl : letN (bat t 0)
    · by_cases h39 : bat t 0 = 39
      · cases hl1 : letN (bat t 1)
        · exact plain15_none t w hs h0 hd hl (.inr hl1)
        · exact plain15_life t w hs h0 h39 hl1
      · exact plain15_none t w hs h0 hd hl (.inl h39)
    · exact plain15_letter t w hs h0 hl hG
  · exact plain15_digit t w hs h0 hd hG
end Go.Proofs.YtfelokbicifclaaDoor
