/- More of the lexer's plain mathematics: a text's rest read from its own beginning; digits and strconv's numerals; the table of signs. -/
import Derived.Test.YtfelokbicifclaaDoorRefOne
import Derived.Lib.Strings
import Derived.Lib.AtoiAll
namespace Go.Proofs.YtfelokbicifclaaDoor

theorem ext_size (s : ByteArray) (i j : Nat) (h : j ≤ s.size) : (s.extract i j).size = j - i := by
  rw [ByteArray.size_extract]; omega
theorem ext_bat (s : ByteArray) (i j k : Nat) (h : j ≤ s.size) (hk : k < j - i) : bat (s.extract i j) k = bat s (i + k) := by
  have h1 : k < (s.extract i j).size := by rw [ext_size s i j h]; exact hk
  rw [bat_eq h1, bat_eq (show i + k < s.size by omega)]
  rw [ByteArray.getElem_extract]
theorem ext_bat_end (s : ByteArray) (i k : Nat) : bat (s.extract i s.size) k = bat s (i + k) := by
  by_cases h : k < s.size - i
  · exact ext_bat s i s.size k (Nat.le_refl _) h
  · rw [bat_out (by rw [ext_size s i s.size (Nat.le_refl _)]; exact h), bat_out (by omega)]
theorem ext_ext (s : ByteArray) (i k : Nat) (h : i + k ≤ s.size) : (s.extract i s.size).extract 0 k = s.extract i (i + k) := by
  rw [Lib.extract_eq, Lib.extract_data, Lib.extract_eq s i (i + k)]
  congr 2
  have hl : s.data.toList.length = s.size := by simp
  rw [List.drop_zero, List.take_take]
  congr 1
  omega

theorem ext_runEnd (p : Nat → Bool) (s : ByteArray) (i k : Nat) (h : i + k ≤ s.size) : i + runEnd p (s.extract i s.size) k = runEnd p s (i + k) := by
  have hsz := ext_size s i s.size (Nat.le_refl _)
  have hle := runEnd_le p (s.extract i s.size) k (by omega)
  have hge := runEnd_ge p (s.extract i s.size) k
  symm
  refine runEnd_eq (by omega) (by omega) (fun j hj hl => ?_) (fun hl => ?_)
  · have := runEnd_all p (s.extract i s.size) k (j - i) (by omega) (by omega)
    rw [ext_bat_end, show i + (j - i) = j by omega] at this
    exact this
  · have := runEnd_stop p (s.extract i s.size) k (by omega)
    rw [ext_bat_end] at this
    exact this
theorem ext_numVal (s : ByteArray) (i j : Nat) (h : j ≤ s.size) : ∀ m, m ≤ j - i → numVal (s.extract i j) 0 m = numVal s i m
  | 0, _ => rfl
  | m + 1, hm => by
    show numVal (s.extract i j) 0 m * 10 + (bat (s.extract i j) (0 + m) - 48) = numVal s i m * 10 + (bat s (i + m) - 48)
    rw [ext_numVal s i j h m (by omega), Nat.zero_add, ext_bat s i j m h (by omega)]
theorem numVal_base (s : ByteArray) (i : Nat) : ∀ m, numVal (s.extract i s.size) 0 m = numVal s i m
  | 0 => rfl
  | m + 1 => by
    show numVal (s.extract i s.size) 0 m * 10 + (bat (s.extract i s.size) (0 + m) - 48) = numVal s i m * 10 + (bat s (i + m) - 48)
    rw [numVal_base s i m, Nat.zero_add, ext_bat_end]

/-- What the project's 'plainToken' reads at a text's beginning: a number, a name or a lifetime; nothing where none stands there. -/
def isPlain (t : ByteArray) : Bool := digN (bat t 0) || letN (bat t 0) || (bat t 0 == 39 && letN (bat t 1))
def plain (t : ByteArray) : One := if isPlain t then one t 0 else ⟨0, 0, 0, 0⟩
def plainText (t : ByteArray) : ByteArray := if (plain t).kind ≤ 1 then ⟨#[]⟩ else t.extract 0 (plain t).stop

/-- A rest's first token is the text's token there. -/
theorem one_rest (s : ByteArray) (i : Nat) (hi : i < s.size) (hp : isPlain (s.extract i s.size) = true) :
    (one (s.extract i s.size) 0).err = (one s i).err ∧ (one (s.extract i s.size) 0).kind = (one s i).kind ∧ (one (s.extract i s.size) 0).n = (one s i).n ∧
      ((one s i).err = 0 → i + (one (s.extract i s.size) 0).stop = (one s i).stop) ∧ ((one s i).err ≠ 0 → one (s.extract i s.size) 0 = ⟨3, 0, 0, 0⟩) ∧ ((one s i).err = 0 → 1 ≤ (one s i).kind ∧ (one s i).kind ≤ 4) := by
  have b0 : bat (s.extract i s.size) 0 = bat s i := ext_bat_end s i 0
  have b1 : bat (s.extract i s.size) 1 = bat s (i + 1) := ext_bat_end s i 1
  cases hd : digN (bat s i)
  · cases hl : letN (bat s i)
    · have h39 : bat s i = 39 ∧ letN (bat s (i + 1)) = true := by
        simp [isPlain, b0, b1, hd, hl] at hp; exact hp
      have hi1 : i + 1 < s.size := by
        rcases Nat.lt_or_ge (i + 1) s.size with h | h
        · exact h
        · have := h39.2; rw [bat_out (by omega)] at this; simp [letN] at this
      have hr := ext_runEnd namN s i 1 (by omega)
      have hge := runEnd_ge namN s (i + 1)
      rw [one_life (s := s.extract i s.size) (by rw [b0]; exact h39.1) (by rw [Nat.zero_add, b1]; exact h39.2), one_life h39.1 h39.2, Nat.zero_add]
      by_cases h21 : 21 < runEnd namN s (i + 1) - i
      · rw [if_pos h21, if_pos (by omega)]; simp
      · rw [if_neg h21, if_neg (by omega)]; simp; exact hr
    · have hr := ext_runEnd namN s i 0 (by omega)
      rw [Nat.add_zero] at hr
      have hle := runEnd_le namN s i (by omega)
      rw [one_letter (s := s.extract i s.size) (by rw [b0]; exact hl), one_letter hl, ext_ext s i _ (by omega), hr]
      cases hw : isWord (s.extract i (runEnd namN s i)).toList
      · by_cases h20 : 20 < runEnd namN s i - i
        · rw [if_neg (by simp), if_pos (by omega), if_neg (by simp), if_pos h20]; simp
        · rw [if_neg (by simp), if_neg (by omega), if_neg (by simp), if_neg h20]; simp; exact hr
      · rw [if_pos rfl, if_pos rfl]; simp; exact hr
  · have hr := ext_runEnd digN s i 0 (by omega)
    rw [Nat.add_zero] at hr
    rw [one_digit (s := s.extract i s.size) (by rw [b0]; exact hd), one_digit hd, Nat.sub_zero, numVal_base, show runEnd digN (s.extract i s.size) 0 = runEnd digN s i - i by omega]
    by_cases hm : numVal s i (runEnd digN s i - i) ≤ 9223372036854775807
    · rw [if_pos hm, if_pos hm]; simp; omega
    · rw [if_neg hm, if_neg hm]; simp

/-! ### Numerals -/
/-- The number of a list of digits behind a number. -/
def decList (acc : Nat) : List UInt8 → Nat
  | [] => acc
  | c :: r => decList (acc * 10 + (c.toNat - 48)) r
theorem decList_ge : ∀ (l : List UInt8) (acc : Nat), acc ≤ decList acc l
  | [], acc => Nat.le_refl _
  | c :: r, acc => by have := decList_ge r (acc * 10 + (c.toNat - 48)); show acc ≤ decList _ r; omega
theorem parse_dec : ∀ (l : List UInt8) (acc : Nat), acc < 18446744073709551616 → (∀ c ∈ l, 48 ≤ c.toNat ∧ c.toNat ≤ 57) → Lib.parseUint10 acc l = if decList acc l < 18446744073709551616 then .ok (decList acc l) else .range
  | [], acc, h, _ => by rw [show decList acc [] = acc from rfl, if_pos h, Lib.parseUint10]
  | c :: r, acc, h, hd => by
    have hc := hd c (List.mem_cons_self ..)
    have hg := decList_ge r (acc * 10 + (c.toNat - 48))
    rw [Lib.parseUint10, if_pos hc]
    rw [show decList acc (c :: r) = decList (acc * 10 + (c.toNat - 48)) r from rfl]
    by_cases h1 : 1844674407370955162 ≤ acc
    · rw [if_pos h1, if_neg (by omega)]
    · rw [if_neg h1]
      by_cases h2 : 18446744073709551616 ≤ acc * 10 + (c.toNat - 48)
      · rw [if_pos h2, if_neg (by omega)]
      · rw [if_neg h2, parse_dec r _ (by omega) (fun x hx => hd x (List.mem_cons_of_mem _ hx))]
theorem decList_snoc : ∀ (l : List UInt8) (acc : Nat) (c : UInt8), decList acc (l ++ [c]) = decList acc l * 10 + (c.toNat - 48)
  | [], _, _ => rfl
  | _ :: r, _, c => decList_snoc r _ c
theorem decList_num (d : ByteArray) : ∀ m, m ≤ d.size → decList 0 (d.data.toList.take m) = numVal d 0 m
  | 0, _ => rfl
  | m + 1, h => by
    have hm : m < d.size := h
    rw [List.take_succ_eq_append_getElem (by simpa using hm), decList_snoc, decList_num d m (by omega)]
    show _ = numVal d 0 m * 10 + (bat d (0 + m) - 48)
    rw [Nat.zero_add, bat_eq hm]
    rfl
theorem atoi_digits (d : ByteArray) (h0 : 0 < d.size) (hd : ∀ j, j < d.size → digN (bat d j) = true) :
    Lib.atoiAll d.data.toList = if numVal d 0 d.size ≤ 9223372036854775807 then .ok (numVal d 0 d.size : Nat) else .range := by
  have hall : ∀ c ∈ d.data.toList, 48 ≤ c.toNat ∧ c.toNat ≤ 57 := by
    intro c hc
    obtain ⟨j, hj, rfl⟩ := List.getElem_of_mem hc
    have hj' : j < d.size := by simpa using hj
    have := hd j hj'
    rw [bat_eq hj'] at this
    have h2 : 48 ≤ (d[j]'hj').toNat ∧ (d[j]'hj').toNat ≤ 57 := by simpa [digN] using this
    exact h2
  have hn : decList 0 d.data.toList = numVal d 0 d.size := by
    have := decList_num d d.size (Nat.le_refl _)
    rwa [List.take_of_length_le (by simp)] at this
  match hl : d.data.toList with
  | [] => have : d.data.toList.length = d.size := by simp
          rw [hl] at this; simp at this; omega
  | c :: r =>
    rw [hl] at hall hn
    have hc := hall c (List.mem_cons_self ..)
    rw [Lib.atoiAll]
    rw [if_neg (by omega), Lib.parseMag, if_neg (by simp), parse_dec _ 0 (by omega) hall, hn]
    by_cases h1 : numVal d 0 d.size ≤ 9223372036854775807
    · rw [if_pos h1, if_pos (by omega)]
      simp only
      rw [if_neg (by omega), if_neg (by omega), if_neg (by omega)]
    · rw [if_neg h1]
      by_cases h2 : numVal d 0 d.size < 18446744073709551616
      · rw [if_pos h2]
        simp only
        rw [if_pos (by omega)]
      · rw [if_neg h2]
end Go.Proofs.YtfelokbicifclaaDoor
