/- The document's own lexer: one token at a place. -/
import Derived.Test.YtfelokbicifclaaDoorRef
namespace Go.Proofs.YtfelokbicifclaaDoor
open Go.RowKit

/-- What 'one' answers: the token and where it ends, or the fault. -/
def OnePost (s : ByteArray) (i : Nat) (e : Ending) : Prop :=
  ∃ (a b : Int) (t : ByteArray) (n j : Int), e = .returned (.tuple #[.agg #[.int .i64 a, .int .i64 b, .string t, .int .i64 n], .int .i64 j, .int .i64 (one s i).err]) ∧
    ((one s i).err = 0 → a = (one s i).kind ∧ b = i ∧ t = oneText s i (one s i) ∧ n = (one s i).n ∧ j = ((one s i).stop : Nat))

theorem onePost_bad {s : ByteArray} {i : Nat} {a b : Int} {t : ByteArray} {n j : Int} {k : Nat} (h : (one s i).err = k) (hk : k ≠ 0) : OnePost s i (.returned (.tuple #[.agg #[.int .i64 a, .int .i64 b, .string t, .int .i64 n], .int .i64 j, .int .i64 (k : Int)])) :=
  ⟨a, b, t, n, j, by rw [h], fun h0 => absurd h0 (by omega)⟩
theorem onePost_ok {s : ByteArray} {i : Nat} {o : One} {t : ByteArray} {a b : Int} (h : one s i = o) (h0 : o.err = 0) (ht : oneText s i o = t) (ha : a = o.kind) (hb : b = o.n) : OnePost s i (.returned (.tuple #[.agg #[.int .i64 a, .int .i64 (i : Int), .string t, .int .i64 b], .int .i64 (o.stop : Int), .int .i64 0])) :=
  ⟨_, _, _, _, _, by rw [h, h0]; rfl, fun _ => ⟨by rw [h, ha], rfl, by rw [h, ht], by rw [h, hb], by rw [h]⟩⟩

theorem one_digit {s : ByteArray} {i : Nat} (hd : digN (bat s i) = true) : one s i = if numVal s i (runEnd digN s i - i) ≤ 9223372036854775807 then ⟨0, 1, runEnd digN s i, numVal s i (runEnd digN s i - i)⟩ else ⟨3, 0, 0, 0⟩ := by
  rw [one, if_pos hd]
theorem let_not_dig {c : Nat} (h : letN c = true) : digN c = false := by
  simp only [letN, digN, decide_eq_true_eq, decide_eq_false_iff_not] at h ⊢; omega
theorem one_letter {s : ByteArray} {i : Nat} (hd : letN (bat s i) = true) : one s i = if isWord (s.extract i (runEnd namN s i)).toList then ⟨0, 3, runEnd namN s i, 0⟩ else if 20 < runEnd namN s i - i then ⟨3, 0, 0, 0⟩ else ⟨0, 2, runEnd namN s i, 0⟩ := by
  rw [one, if_neg (by simp [let_not_dig hd]), if_pos hd]
theorem one_life {s : ByteArray} {i : Nat} (h : bat s i = 39) (hd : letN (bat s (i + 1)) = true) : one s i = if 21 < runEnd namN s (i + 1) - i then ⟨3, 0, 0, 0⟩ else ⟨0, 4, runEnd namN s (i + 1), 0⟩ := by
  rw [one, if_neg (by simp [h, digN]), if_neg (by simp [h, letN]), if_pos (by simp [h, hd])]
theorem one_sign {s : ByteArray} {i : Nat} (h1 : digN (bat s i) = false) (h2 : letN (bat s i) = false) (h3 : bat s i ≠ 39 ∨ letN (bat s (i + 1)) = false) : one s i = if signLen s i = 0 then ⟨2, 0, 0, 0⟩ else ⟨0, 5, i + signLen s i, 0⟩ := by
  rw [one, if_neg (by simp [h1]), if_neg (by simp [h2]), if_neg]
  rcases h3 with h | h <;> simp [h]

theorem rest28' (s : ByteArray) (i : Nat) (x : Int) (w : World) (hs : s.size ≤ 6000) (hi : i ≤ s.size) (hx : x = (i : Nat)) : Calls Tryd.prog 28 #[.string s, .int .i64 x] w fun e w' => e = .returned (.int .i64 (runEnd namN s i)) ∧ w' = w := by
  subst hx; exact rest28 s i w hs hi

theorem below2 (w : World) (o1 o2 : Obj) : Below w.heap.size w ((w.alloc o1).alloc o2) := ((Below.refl _ _).alloc (Nat.le_refl _) _).alloc (by simp) _

set_option maxHeartbeats 1000000 in
theorem one17_digit (s : ByteArray) (i : Nat) (w : World) (hs : s.size ≤ 6000) (hi : i < s.size) (hd : digN (bat s i) = true) :
    Calls Tryd.prog 17 #[.string s, .int .i64 i] w fun e w' => OnePost s i e ∧ Below w.heap.size w w' := by
  have hd' : digN (s[i]'hi).toNat = true := by rw [← bat_eq hi]; exact hd
  have HO : Hid (one s i = if numVal s i (runEnd digN s i - i) ≤ 9223372036854775807 then ⟨0, 1, runEnd digN s i, numVal s i (runEnd digN s i - i)⟩ else ⟨3, 0, 0, 0⟩) := one_digit hd
  clear hd
  go_enter Tryd.func17, Tryd.ntmps17
  go_wp2_with (first | (go_at_call 25; refine (digit25 _ _).mono ?_; rintro e w' ⟨rfl, rfl⟩) | (go_at_call 26; refine (number26 s i _ hs (Nat.le_of_lt hi)).mono ?_; rintro e w' ⟨⟨n, big, rfl, hn1, hn2⟩, rfl⟩; cases big))
  · obtain ⟨hn3, hn4⟩ := hn2 (by trivial)
    have e : one s i = ⟨0, 1, runEnd digN s i, numVal s i (runEnd digN s i - i)⟩ := by rw [HO.out, if_pos hn4]
    exact bodyPost_ret (v := .tuple #[.agg #[.int .i64 1, .int .i64 i, .string ⟨#[]⟩, .int .i64 (numVal s i (runEnd digN s i - i))], .int .i64 (runEnd digN s i), .int .i64 0]) (by simp [results, Tryd.results17, go_sem]) rfl ⟨onePost_ok e rfl rfl rfl rfl, below2 _ _ _⟩
  · have hn3 := hn1 (by trivial)
    have e : (one s i).err = 3 := by rw [HO.out, if_neg (by omega)]
    exact bodyPost_ret (v := .tuple #[.agg #[.int .i64 1, .int .i64 i, .string ⟨#[]⟩, .int .i64 n], .int .i64 (runEnd digN s i), .int .i64 3]) (by simp [results, Tryd.results17, go_sem]) rfl ⟨onePost_bad e (by decide), below2 _ _ _⟩

set_option maxHeartbeats 1000000 in
theorem one17_letter (s : ByteArray) (i : Nat) (w : World) (hs : s.size ≤ 6000) (hi : i < s.size) (hd : letN (bat s i) = true) :
    Calls Tryd.prog 17 #[.string s, .int .i64 i] w fun e w' => OnePost s i e ∧ Below w.heap.size w w' := by
  have hd' : letN (s[i]'hi).toNat = true := by rw [← bat_eq hi]; exact hd
  have hd0 : digN (s[i]'hi).toNat = false := let_not_dig hd'
  have HO : Hid (one s i = if isWord (s.extract i (runEnd namN s i)).toList then ⟨0, 3, runEnd namN s i, 0⟩ else if 20 < runEnd namN s i - i then ⟨3, 0, 0, 0⟩ else ⟨0, 2, runEnd namN s i, 0⟩) := one_letter hd
  have h1 : i < runEnd namN s i := runEnd_pos hi (by simp [namN, hd])
  have h2 := runEnd_le namN s i (by omega)
  clear hd
  cases hw : isWord (s.extract i (runEnd namN s i)).toList
  · by_cases h20 : (20 : Int) < (runEnd namN s i : Int) - i
    · go_enter Tryd.func17, Tryd.ntmps17
      go_wp2_with (first | (go_at_call 25; refine (digit25 _ _).mono ?_; rintro e w' ⟨rfl, rfl⟩) | (go_at_call 27; refine (letter27 _ _).mono ?_; rintro e w' ⟨rfl, rfl⟩) | (go_at_call 28; refine (rest28' s i _ _ hs (by omega) rfl).mono ?_; rintro e w' ⟨rfl, rfl⟩) | (go_at_call 10; refine (word10 _ _).mono ?_; rintro e w' ⟨rfl, rfl⟩))
      have e : (one s i).err = 3 := by rw [HO.out, if_neg (by simp [hw]), if_pos (by omega)]
      exact bodyPost_ret (v := .tuple #[.agg #[.int .i64 2, .int .i64 i, .string (s.extract i (runEnd namN s i)), .int .i64 0], .int .i64 (runEnd namN s i), .int .i64 3]) (by simp [results, Tryd.results17, go_sem]) rfl ⟨onePost_bad e (by decide), below2 _ _ _⟩
    · go_enter Tryd.func17, Tryd.ntmps17
      go_wp2_with (first | (go_at_call 25; refine (digit25 _ _).mono ?_; rintro e w' ⟨rfl, rfl⟩) | (go_at_call 27; refine (letter27 _ _).mono ?_; rintro e w' ⟨rfl, rfl⟩) | (go_at_call 28; refine (rest28' s i _ _ hs (by omega) rfl).mono ?_; rintro e w' ⟨rfl, rfl⟩) | (go_at_call 10; refine (word10 _ _).mono ?_; rintro e w' ⟨rfl, rfl⟩))
      have e : one s i = ⟨0, 2, runEnd namN s i, 0⟩ := by rw [HO.out, if_neg (by simp [hw]), if_neg (by omega)]
      exact bodyPost_ret (v := .tuple #[.agg #[.int .i64 2, .int .i64 i, .string (s.extract i (runEnd namN s i)), .int .i64 0], .int .i64 (runEnd namN s i), .int .i64 0]) (by simp [results, Tryd.results17, go_sem]) rfl ⟨onePost_ok e rfl (by simp [oneText]) rfl rfl, below2 _ _ _⟩
  · go_enter Tryd.func17, Tryd.ntmps17
    go_wp2_with (first | (go_at_call 25; refine (digit25 _ _).mono ?_; rintro e w' ⟨rfl, rfl⟩) | (go_at_call 27; refine (letter27 _ _).mono ?_; rintro e w' ⟨rfl, rfl⟩) | (go_at_call 28; refine (rest28' s i _ _ hs (by omega) rfl).mono ?_; rintro e w' ⟨rfl, rfl⟩) | (go_at_call 10; refine (word10 _ _).mono ?_; rintro e w' ⟨rfl, rfl⟩))
    have e : one s i = ⟨0, 3, runEnd namN s i, 0⟩ := by rw [HO.out, if_pos hw]
    exact bodyPost_ret (v := .tuple #[.agg #[.int .i64 3, .int .i64 i, .string (s.extract i (runEnd namN s i)), .int .i64 0], .int .i64 (runEnd namN s i), .int .i64 0]) (by simp [results, Tryd.results17, go_sem]) rfl ⟨onePost_ok e rfl (by simp [oneText]) rfl rfl, below2 _ _ _⟩

set_option maxHeartbeats 1000000 in
theorem one17_life (s : ByteArray) (i : Nat) (w : World) (hs : s.size ≤ 6000) (hi : i < s.size) (hb : bat s i = 39) (hi2 : i + 1 < s.size) (hd : letN (bat s (i + 1)) = true) :
    Calls Tryd.prog 17 #[.string s, .int .i64 i] w fun e w' => OnePost s i e ∧ Below w.heap.size w w' := by
  have hd' : letN (s[i + 1]'hi2).toNat = true := by rw [← bat_eq hi2]; exact hd
  have hb' : (s[i]'hi).toNat = 39 := by rw [← bat_eq hi]; exact hb
  have hd0 : digN (s[i]'hi).toNat = false := by rw [hb']; rfl
  have hd1 : letN (s[i]'hi).toNat = false := by rw [hb']; rfl
  have hb2 : (((s[i]'hi).toNat : Int) == 39) = true := by simp [hb']
  have HO : Hid (one s i = if 21 < runEnd namN s (i + 1) - i then ⟨3, 0, 0, 0⟩ else ⟨0, 4, runEnd namN s (i + 1), 0⟩) := one_life hb hd
  have h1 : i + 1 < runEnd namN s (i + 1) := runEnd_pos hi2 (by simp [namN, hd])
  have h2 := runEnd_le namN s (i + 1) (by omega)
  clear hd hb hb'
  by_cases h21 : (21 : Int) < (runEnd namN s (i + 1) : Int) - i
  · go_enter Tryd.func17, Tryd.ntmps17
    go_wp2_with (first | (go_at_call 25; refine (digit25 _ _).mono ?_; rintro e w' ⟨rfl, rfl⟩) | (go_at_call 27; refine (letter27 _ _).mono ?_; rintro e w' ⟨rfl, rfl⟩) | (go_at_call 28; refine (rest28' s (i + 1) _ _ hs (by omega) (by omega)).mono ?_; rintro e w' ⟨rfl, rfl⟩) | (go_at_call 29; refine (sign29 s i _ hs hi).mono ?_; rintro e w' ⟨rfl, rfl⟩))
    have e : (one s i).err = 3 := by rw [HO.out, if_pos (by omega)]
    exact bodyPost_ret (v := .tuple #[.agg #[.int .i64 4, .int .i64 i, .string (s.extract i (runEnd namN s (i + 1))), .int .i64 0], .int .i64 (runEnd namN s (i + 1)), .int .i64 3]) (by simp [results, Tryd.results17, go_sem]) rfl ⟨onePost_bad e (by decide), below2 _ _ _⟩
  · go_enter Tryd.func17, Tryd.ntmps17
    go_wp2_with (first | (go_at_call 25; refine (digit25 _ _).mono ?_; rintro e w' ⟨rfl, rfl⟩) | (go_at_call 27; refine (letter27 _ _).mono ?_; rintro e w' ⟨rfl, rfl⟩) | (go_at_call 28; refine (rest28' s (i + 1) _ _ hs (by omega) (by omega)).mono ?_; rintro e w' ⟨rfl, rfl⟩) | (go_at_call 29; refine (sign29 s i _ hs hi).mono ?_; rintro e w' ⟨rfl, rfl⟩))
    have e : one s i = ⟨0, 4, runEnd namN s (i + 1), 0⟩ := by rw [HO.out, if_neg (by omega)]
    exact bodyPost_ret (v := .tuple #[.agg #[.int .i64 4, .int .i64 i, .string (s.extract i (runEnd namN s (i + 1))), .int .i64 0], .int .i64 (runEnd namN s (i + 1)), .int .i64 0]) (by simp [results, Tryd.results17, go_sem]) rfl ⟨onePost_ok e rfl (by simp [oneText]) rfl rfl, below2 _ _ _⟩

set_option maxHeartbeats 1000000 in
theorem one17_sign (s : ByteArray) (i : Nat) (w : World) (hs : s.size ≤ 6000) (hi : i < s.size) (hd0 : digN (bat s i) = false) (hd1 : letN (bat s i) = false)
    (hl : (bat s i ≠ 39) ∨ (bat s i = 39 ∧ ¬ i + 1 < s.size) ∨ (bat s i = 39 ∧ ∃ h : i + 1 < s.size, letN (s[i + 1]'h).toNat = false)) :
    Calls Tryd.prog 17 #[.string s, .int .i64 i] w fun e w' => OnePost s i e ∧ Below w.heap.size w w' := by
  have h3 : bat s i ≠ 39 ∨ letN (bat s (i + 1)) = false := by
    rcases hl with h | ⟨_, h⟩ | ⟨_, h, h'⟩
    · exact .inl h
    · exact .inr (by rw [bat_out h]; rfl)
    · exact .inr (by rw [bat_eq h]; exact h')
  have HO : Hid (one s i = if signLen s i = 0 then ⟨2, 0, 0, 0⟩ else ⟨0, 5, i + signLen s i, 0⟩) := one_sign hd0 hd1 h3
  have hle := signLen_pos_le hi
  clear h3
  rw [bat_eq hi] at hd0 hd1 hl
  by_cases hz : signLen s i = 0
  · have HZ : Hid (signLen s i = 0) := hz
    have hz' : ((signLen s i : Int) == 0) = true := by simp [hz]
    clear hz
    rcases hl with hb | ⟨hb, hi2⟩ | ⟨hb, hi2, hl2⟩
    · have hb' : (((s[i]'hi).toNat : Int) == 39) = false := by simp; omega
      clear hb
      go_enter Tryd.func17, Tryd.ntmps17
      go_wp2_with (first | (go_at_call 25; refine (digit25 _ _).mono ?_; rintro e w' ⟨rfl, rfl⟩) | (go_at_call 27; refine (letter27 _ _).mono ?_; rintro e w' ⟨rfl, rfl⟩) | (go_at_call 28; refine (rest28' s (i + 1) _ _ hs (by omega) (by omega)).mono ?_; rintro e w' ⟨rfl, rfl⟩) | (go_at_call 29; refine (sign29 s i _ hs hi).mono ?_; rintro e w' ⟨rfl, rfl⟩))
      have e : (one s i).err = 2 := by rw [HO.out, if_pos HZ.out]
      exact bodyPost_ret (v := .tuple #[.agg #[.int .i64 0, .int .i64 i, .string ⟨#[]⟩, .int .i64 0], .int .i64 (i), .int .i64 2]) (by simp [results, Tryd.results17, go_sem]) rfl ⟨onePost_bad e (by decide), below2 _ _ _⟩
    · have hb' : (((s[i]'hi).toNat : Int) == 39) = true := by simp; omega
      clear hb
      go_enter Tryd.func17, Tryd.ntmps17
      go_wp2_with (first | (go_at_call 25; refine (digit25 _ _).mono ?_; rintro e w' ⟨rfl, rfl⟩) | (go_at_call 27; refine (letter27 _ _).mono ?_; rintro e w' ⟨rfl, rfl⟩) | (go_at_call 28; refine (rest28' s (i + 1) _ _ hs (by omega) (by omega)).mono ?_; rintro e w' ⟨rfl, rfl⟩) | (go_at_call 29; refine (sign29 s i _ hs hi).mono ?_; rintro e w' ⟨rfl, rfl⟩))
      have e : (one s i).err = 2 := by rw [HO.out, if_pos HZ.out]
      exact bodyPost_ret (v := .tuple #[.agg #[.int .i64 0, .int .i64 i, .string ⟨#[]⟩, .int .i64 0], .int .i64 (i), .int .i64 2]) (by simp [results, Tryd.results17, go_sem]) rfl ⟨onePost_bad e (by decide), below2 _ _ _⟩
    · have hb' : (((s[i]'hi).toNat : Int) == 39) = true := by simp; omega
      clear hb
      go_enter Tryd.func17, Tryd.ntmps17
      go_wp2_with (first | (go_at_call 25; refine (digit25 _ _).mono ?_; rintro e w' ⟨rfl, rfl⟩) | (go_at_call 27; refine (letter27 _ _).mono ?_; rintro e w' ⟨rfl, rfl⟩) | (go_at_call 28; refine (rest28' s (i + 1) _ _ hs (by omega) (by omega)).mono ?_; rintro e w' ⟨rfl, rfl⟩) | (go_at_call 29; refine (sign29 s i _ hs hi).mono ?_; rintro e w' ⟨rfl, rfl⟩))
      have e : (one s i).err = 2 := by rw [HO.out, if_pos HZ.out]
      exact bodyPost_ret (v := .tuple #[.agg #[.int .i64 0, .int .i64 i, .string ⟨#[]⟩, .int .i64 0], .int .i64 (i), .int .i64 2]) (by simp [results, Tryd.results17, go_sem]) rfl ⟨onePost_bad e (by decide), below2 _ _ _⟩
  · have HZ : Hid (signLen s i ≠ 0) := hz
    have hz' : ((signLen s i : Int) == 0) = false := by simp; omega
    have hzp : 0 < signLen s i := by omega
    clear hz
    rcases hl with hb | ⟨hb, hi2⟩ | ⟨hb, hi2, hl2⟩
    · have hb' : (((s[i]'hi).toNat : Int) == 39) = false := by simp; omega
      clear hb
      go_enter Tryd.func17, Tryd.ntmps17
      go_wp2_with (first | (go_at_call 25; refine (digit25 _ _).mono ?_; rintro e w' ⟨rfl, rfl⟩) | (go_at_call 27; refine (letter27 _ _).mono ?_; rintro e w' ⟨rfl, rfl⟩) | (go_at_call 28; refine (rest28' s (i + 1) _ _ hs (by omega) (by omega)).mono ?_; rintro e w' ⟨rfl, rfl⟩) | (go_at_call 29; refine (sign29 s i _ hs hi).mono ?_; rintro e w' ⟨rfl, rfl⟩))
      have e : one s i = ⟨0, 5, i + signLen s i, 0⟩ := by rw [HO.out, if_neg HZ.out]
      exact bodyPost_ret (v := .tuple #[.agg #[.int .i64 5, .int .i64 i, .string (s.extract i (i + signLen s i)), .int .i64 0], .int .i64 (i + signLen s i), .int .i64 0]) (by simp [results, Tryd.results17, go_sem]) rfl ⟨onePost_ok e rfl (by simp [oneText]) rfl rfl, below2 _ _ _⟩
    · have hb' : (((s[i]'hi).toNat : Int) == 39) = true := by simp; omega
      clear hb
      go_enter Tryd.func17, Tryd.ntmps17
      go_wp2_with (first | (go_at_call 25; refine (digit25 _ _).mono ?_; rintro e w' ⟨rfl, rfl⟩) | (go_at_call 27; refine (letter27 _ _).mono ?_; rintro e w' ⟨rfl, rfl⟩) | (go_at_call 28; refine (rest28' s (i + 1) _ _ hs (by omega) (by omega)).mono ?_; rintro e w' ⟨rfl, rfl⟩) | (go_at_call 29; refine (sign29 s i _ hs hi).mono ?_; rintro e w' ⟨rfl, rfl⟩))
      have e : one s i = ⟨0, 5, i + signLen s i, 0⟩ := by rw [HO.out, if_neg HZ.out]
      exact bodyPost_ret (v := .tuple #[.agg #[.int .i64 5, .int .i64 i, .string (s.extract i (i + signLen s i)), .int .i64 0], .int .i64 (i + signLen s i), .int .i64 0]) (by simp [results, Tryd.results17, go_sem]) rfl ⟨onePost_ok e rfl (by simp [oneText]) rfl rfl, below2 _ _ _⟩
    · have hb' : (((s[i]'hi).toNat : Int) == 39) = true := by simp; omega
      clear hb
      go_enter Tryd.func17, Tryd.ntmps17
      go_wp2_with (first | (go_at_call 25; refine (digit25 _ _).mono ?_; rintro e w' ⟨rfl, rfl⟩) | (go_at_call 27; refine (letter27 _ _).mono ?_; rintro e w' ⟨rfl, rfl⟩) | (go_at_call 28; refine (rest28' s (i + 1) _ _ hs (by omega) (by omega)).mono ?_; rintro e w' ⟨rfl, rfl⟩) | (go_at_call 29; refine (sign29 s i _ hs hi).mono ?_; rintro e w' ⟨rfl, rfl⟩))
      have e : one s i = ⟨0, 5, i + signLen s i, 0⟩ := by rw [HO.out, if_neg HZ.out]
      exact bodyPost_ret (v := .tuple #[.agg #[.int .i64 5, .int .i64 i, .string (s.extract i (i + signLen s i)), .int .i64 0], .int .i64 (i + signLen s i), .int .i64 0]) (by simp [results, Tryd.results17, go_sem]) rfl ⟨onePost_ok e rfl (by simp [oneText]) rfl rfl, below2 _ _ _⟩

theorem one17 (s : ByteArray) (i : Nat) (w : World) (hs : s.size ≤ 6000) (hi : i < s.size) :
    Calls Tryd.prog 17 #[.string s, .int .i64 i] w fun e w' => OnePost s i e ∧ Below w.heap.size w w' := by
  cases hd : digN (bat s i)
  · cases hl : letN (bat s i)
    · by_cases hb : bat s i = 39
      · by_cases hi2 : i + 1 < s.size
        · cases hl2 : letN (bat s (i + 1))
          · exact one17_sign s i w hs hi hd hl (.inr (.inr ⟨hb, hi2, by rw [← bat_eq hi2]; exact hl2⟩))
          · exact one17_life s i w hs hi hb hi2 hl2
        · exact one17_sign s i w hs hi hd hl (.inr (.inl ⟨hb, hi2⟩))
      · exact one17_sign s i w hs hi hd hl (.inl hb)
    · exact one17_letter s i w hs hi hl
  · exact one17_digit s i w hs hi hd

theorem one17_ok (s : ByteArray) (i : Nat) (w : World) (hs : s.size ≤ 6000) (hi : i < s.size) (h0 : (one s i).err = 0) :
    Calls Tryd.prog 17 #[.string s, .int .i64 i] w fun e w' => e = .returned (.tuple #[.agg #[.int .i64 (one s i).kind, .int .i64 i, .string (oneText s i (one s i)), .int .i64 (one s i).n], .int .i64 (one s i).stop, .int .i64 0]) ∧ Below w.heap.size w w' := by
  refine (one17 s i w hs hi).mono ?_
  rintro e w' ⟨⟨a, b, t, n, j, rfl, h⟩, hb⟩
  obtain ⟨rfl, rfl, rfl, rfl, rfl⟩ := h h0
  exact ⟨by rw [h0]; rfl, hb⟩
theorem one17_bad (s : ByteArray) (i : Nat) (w : World) (hs : s.size ≤ 6000) (hi : i < s.size) :
    Calls Tryd.prog 17 #[.string s, .int .i64 i] w fun e w' => (∃ (a b : Int) (t : ByteArray) (n j : Int), e = .returned (.tuple #[.agg #[.int .i64 a, .int .i64 b, .string t, .int .i64 n], .int .i64 j, .int .i64 (one s i).err])) ∧ Below w.heap.size w w' := by
  refine (one17 s i w hs hi).mono ?_
  rintro e w' ⟨⟨a, b, t, n, j, rfl, h⟩, hb⟩
  exact ⟨⟨a, b, t, n, j, rfl⟩, hb⟩
end Go.Proofs.YtfelokbicifclaaDoor
