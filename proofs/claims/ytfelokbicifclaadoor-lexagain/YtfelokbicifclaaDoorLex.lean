/- The plain mathematics of the lexer: what the tokens of a text are, said on bytes and places; no program is named here. -/
import Derived.Test.YtfelokbicifclaaDoorWords
import Derived.Laws.RangeAny
namespace Go.Proofs.YtfelokbicifclaaDoor

/-- The byte at a place, as a number; 0 behind the end. -/
def bat (s : ByteArray) (i : Nat) : Nat := if h : i < s.size then (s[i]'h).toNat else 0
theorem bat_eq {s : ByteArray} {i : Nat} (h : i < s.size) : bat s i = (s[i]'h).toNat := by simp [bat, h]
theorem bat_out {s : ByteArray} {i : Nat} (h : ¬ i < s.size) : bat s i = 0 := by simp [bat, h]
theorem bat_lt (s : ByteArray) (i : Nat) : bat s i < 256 := by
  unfold bat; split
  · exact UInt8.toNat_lt _
  · omega
theorem bat_get (s : ByteArray) (i : Nat) (h : i < s.size) : (s.get! i).toNat = bat s i := by
  have := get_at s i h
  rw [bat_eq h, ← this]; rfl

def digN (c : Nat) : Bool := decide (48 ≤ c ∧ c ≤ 57)
def letN (c : Nat) : Bool := decide (97 ≤ c ∧ c ≤ 122 ∨ 65 ≤ c ∧ c ≤ 90)
def namN (c : Nat) : Bool := letN c || digN c || c == 95
def remN (c : Nat) : Bool := c != 10
def blankN (c : Nat) : Bool := c == 32 || c == 9 || c == 10

/-- Where a run of bytes of a sort ends, looked for over at most f bytes. -/
def runGo (p : Nat → Bool) (s : ByteArray) : Nat → Nat → Nat
  | 0, i => i
  | f + 1, i => if p (bat s i) then runGo p s f (i + 1) else i
/-- Where a run of bytes of a sort ends. -/
def runEnd (p : Nat → Bool) (s : ByteArray) (i : Nat) : Nat := runGo p s (s.size - i) i

theorem runEnd_go {p : Nat → Bool} {s : ByteArray} {i : Nat} (h : i < s.size) (hp : p (bat s i) = true) : runEnd p s i = runEnd p s (i + 1) := by
  unfold runEnd
  rw [show s.size - i = (s.size - (i + 1)) + 1 by omega, runGo, if_pos hp]
theorem runEnd_no {p : Nat → Bool} {s : ByteArray} {i : Nat} (hp : p (bat s i) = false) : runEnd p s i = i := by
  unfold runEnd
  cases s.size - i with
  | zero => rfl
  | succ f => rw [runGo, if_neg (by simp [hp])]
theorem runEnd_end {p : Nat → Bool} {s : ByteArray} {i : Nat} (h : ¬ i < s.size) : runEnd p s i = i := by
  unfold runEnd
  rw [show s.size - i = 0 by omega, runGo]

theorem runGo_ge (p : Nat → Bool) (s : ByteArray) : ∀ (f i : Nat), i ≤ runGo p s f i
  | 0, _ => Nat.le_refl _
  | f + 1, i => by
    rw [runGo]
    split
    · have := runGo_ge p s f (i + 1); omega
    · exact Nat.le_refl _
theorem runGo_le (p : Nat → Bool) (s : ByteArray) : ∀ (f i : Nat), runGo p s f i ≤ i + f
  | 0, _ => Nat.le_refl _
  | f + 1, i => by
    rw [runGo]
    split
    · have := runGo_le p s f (i + 1); omega
    · omega
theorem runGo_all (p : Nat → Bool) (s : ByteArray) : ∀ (f i j : Nat), i ≤ j → j < runGo p s f i → p (bat s j) = true
  | 0, i, j, h1, h2 => by rw [runGo] at h2; omega
  | f + 1, i, j, h1, h2 => by
    rw [runGo] at h2
    split at h2
    · rename_i hp
      by_cases e : j = i
      · subst e; exact hp
      · exact runGo_all p s f (i + 1) j (by omega) h2
    · omega
theorem runGo_stop (p : Nat → Bool) (s : ByteArray) : ∀ (f i : Nat), runGo p s f i < i + f → p (bat s (runGo p s f i)) = false
  | 0, i, h => by rw [runGo] at h; omega
  | f + 1, i, h => by
    rw [runGo] at h ⊢
    split
    · rename_i hp
      rw [if_pos hp] at h
      exact runGo_stop p s f (i + 1) (by omega)
    · rename_i hp
      simpa using hp
theorem runEnd_ge (p : Nat → Bool) (s : ByteArray) (i : Nat) : i ≤ runEnd p s i := runGo_ge p s _ i
theorem runEnd_le (p : Nat → Bool) (s : ByteArray) (i : Nat) (hi : i ≤ s.size) : runEnd p s i ≤ s.size := by
  have := runGo_le p s (s.size - i) i
  unfold runEnd; omega
theorem runEnd_all (p : Nat → Bool) (s : ByteArray) (i j : Nat) (hj : i ≤ j) (hl : j < runEnd p s i) : p (bat s j) = true := runGo_all p s _ i j hj hl
theorem runEnd_stop (p : Nat → Bool) (s : ByteArray) (i : Nat) (hl : runEnd p s i < s.size) : p (bat s (runEnd p s i)) = false := by
  have hge := runEnd_ge p s i
  exact runGo_stop p s _ i (by unfold runEnd at hl hge; omega)
/-- The end of a run is known by what stands ahead of it and at it. -/
theorem runEnd_eq {p : Nat → Bool} {s : ByteArray} {i e : Nat} (hie : i ≤ e) (hes : e ≤ s.size) (hall : ∀ j, i ≤ j → j < e → p (bat s j) = true) (hst : e < s.size → p (bat s e) = false) : runEnd p s i = e := by
  have h1 := runEnd_le p s i (by omega)
  have h2 := runEnd_ge p s i
  rcases Nat.lt_trichotomy (runEnd p s i) e with h | h | h
  · have a := runEnd_stop p s i (by omega)
    rw [hall _ h2 h] at a
    cases a
  · exact h
  · have a := runEnd_all p s i e hie h
    rw [hst (by omega)] at a
    cases a
theorem runEnd_pos {p : Nat → Bool} {s : ByteArray} {i : Nat} (h : i < s.size) (hp : p (bat s i) = true) : i < runEnd p s i := by
  rw [runEnd_go h hp]; have := runEnd_ge p s (i + 1); omega

/-- The number that k digits from i on are. -/
def numVal (s : ByteArray) (i : Nat) : Nat → Nat
  | 0 => 0
  | k + 1 => numVal s i k * 10 + (bat s (i + k) - 48)
theorem numVal_le (s : ByteArray) (i : Nat) : ∀ (d k : Nat), numVal s i k ≤ numVal s i (k + d)
  | 0, k => Nat.le_refl _
  | d + 1, k => by
    have := numVal_le s i d k
    show _ ≤ numVal s i (k + d) * 10 + _
    omega

structure One where
  err : Nat
  kind : Nat
  stop : Nat
  n : Nat

def twoSigns : List (Nat × Nat) := [(58, 58), (45, 62), (61, 62), (61, 61), (33, 61), (60, 61), (62, 61), (38, 38), (124, 124)]
def oneSigns : List Nat := [40, 41, 123, 125, 91, 93, 60, 62, 44, 59, 58, 46, 61, 43, 45, 42, 47, 37, 38, 33, 95]
def signLen (s : ByteArray) (i : Nat) : Nat := if twoSigns.contains (bat s i, bat s (i + 1)) then 2 else if oneSigns.contains (bat s i) then 1 else 0

/-- The token at a place that is no blank and no remark: its kind, where it ends, its number; or the fault. -/
def one (s : ByteArray) (i : Nat) : One :=
  if digN (bat s i) then
    (if numVal s i (runEnd digN s i - i) ≤ 9223372036854775807 then ⟨0, 1, runEnd digN s i, numVal s i (runEnd digN s i - i)⟩ else ⟨3, 0, 0, 0⟩)
  else if letN (bat s i) then
    (if isWord (s.extract i (runEnd namN s i)).toList then ⟨0, 3, runEnd namN s i, 0⟩ else if 20 < runEnd namN s i - i then ⟨3, 0, 0, 0⟩ else ⟨0, 2, runEnd namN s i, 0⟩)
  else if bat s i == 39 && letN (bat s (i + 1)) then
    (if 21 < runEnd namN s (i + 1) - i then ⟨3, 0, 0, 0⟩ else ⟨0, 4, runEnd namN s (i + 1), 0⟩)
  else if signLen s i = 0 then ⟨2, 0, 0, 0⟩ else ⟨0, 5, i + signLen s i, 0⟩

def oneText (s : ByteArray) (i : Nat) (o : One) : ByteArray := if o.kind = 1 then ⟨#[]⟩ else s.extract i o.stop

/-- A token's cells. -/
def tokCells (kind : Nat) (i : Nat) (t : ByteArray) (n : Nat) : List Value := [.int .i64 kind, .int .i64 i, .string t, .int .i64 n]
def oneCells (s : ByteArray) (i : Nat) : List Value := tokCells (one s i).kind i (oneText s i (one s i)) (one s i).n

/-- What reading a text comes to: the fault and its place, or the tokens' cells. -/
abbrev LexOut := Sum (Nat × Nat) (List (List Value))

def lexFrom : Nat → ByteArray → Nat → List (List Value) → LexOut
  | 0, s, _, acc => .inr (acc ++ [tokCells 0 s.size ⟨#[]⟩ 0])
  | b + 1, s, i, acc =>
    if i < s.size then
      if blankN (bat s i) then lexFrom b s (i + 1) acc
      else if bat s i = 35 then lexFrom b s (runEnd remN s i) acc
      else if (one s i).err ≠ 0 then .inl ((one s i).err, i)
      else lexFrom b s (one s i).stop (acc ++ [oneCells s i])
    else .inr (acc ++ [tokCells 0 s.size ⟨#[]⟩ 0])
def lexAll (s : ByteArray) : LexOut := if 6000 < s.size then .inl (1, 0) else lexFrom s.size s 0 []

theorem signLen_pos_le {s : ByteArray} {i : Nat} (hi : i < s.size) : i + signLen s i ≤ s.size := by
  unfold signLen
  split
  · rename_i h
    by_cases h2 : i + 1 < s.size
    · omega
    · rw [bat_out h2] at h
      simp [twoSigns] at h
  · split <;> omega

/-- A token without fault takes at least a byte, and ends within the text. -/
theorem one_stop {s : ByteArray} {i : Nat} (hi : i < s.size) (h : (one s i).err = 0) : i < (one s i).stop ∧ (one s i).stop ≤ s.size := by
  unfold one at h ⊢
  split
  · rename_i hd
    have h1 := runEnd_pos hi hd
    have h2 := runEnd_le digN s i (by omega)
    split at h <;> split at h <;> simp_all
  · split
    · rename_i hd
      have h1 : i < runEnd namN s i := runEnd_pos hi (by simp [namN, hd])
      have h2 := runEnd_le namN s i (by omega)
      split
      · exact ⟨h1, h2⟩
      · split
        · simp_all
        · exact ⟨h1, h2⟩
    · split
      · have h2 := runEnd_le namN s (i + 1) (by omega)
        have h1 := runEnd_ge namN s (i + 1)
        split
        · simp_all
        · exact ⟨by simp; omega, h2⟩
      · split
        · simp_all
        · have := signLen_pos_le hi
          exact ⟨by simp; omega, this⟩

theorem lex_blank {s : ByteArray} {i b : Nat} {acc : List (List Value)} (hi : i < s.size) (hb : blankN (bat s i) = true) : lexFrom (b + 1) s i acc = lexFrom b s (i + 1) acc := by
  rw [lexFrom, if_pos hi, if_pos hb]
theorem lex_rem {s : ByteArray} {i b : Nat} {acc : List (List Value)} (hi : i < s.size) (hb : bat s i = 35) : lexFrom (b + 1) s i acc = lexFrom b s (runEnd remN s i) acc := by
  rw [lexFrom, if_pos hi, if_neg (by simp [blankN, hb]), if_pos hb]
theorem lex_bad {s : ByteArray} {i b : Nat} {acc : List (List Value)} (hi : i < s.size) (hb : blankN (bat s i) = false) (hr : bat s i ≠ 35) (he : (one s i).err ≠ 0) : lexFrom (b + 1) s i acc = .inl ((one s i).err, i) := by
  rw [lexFrom, if_pos hi, if_neg (by simp [hb]), if_neg hr, if_pos he]
theorem lex_tok {s : ByteArray} {i b : Nat} {acc : List (List Value)} (hi : i < s.size) (hb : blankN (bat s i) = false) (hr : bat s i ≠ 35) (he : (one s i).err = 0) : lexFrom (b + 1) s i acc = lexFrom b s (one s i).stop (acc ++ [oneCells s i]) := by
  rw [lexFrom, if_pos hi, if_neg (by simp [hb]), if_neg hr, if_neg (by simp [he])]
theorem lex_end {s : ByteArray} {i b : Nat} {acc : List (List Value)} (hi : ¬ i < s.size) : lexFrom b s i acc = .inr (acc ++ [tokCells 0 s.size ⟨#[]⟩ 0]) := by
  cases b with
  | zero => rfl
  | succ b => rw [lexFrom, if_neg hi]

/-! ### Runes -/
theorem dec_low {s : ByteArray} {p : Nat} (hp : p < s.size) (h : bat s p < 128) : Utf8.decode s p = (bat s p, 1) := by
  rw [bat_eq hp] at h ⊢; exact decode_ascii s p hp h
theorem dec_high {s : ByteArray} {p : Nat} (hp : p < s.size) (h : 128 ≤ bat s p) : 128 ≤ (Utf8.decode s p).1 := by
  rw [bat_eq hp] at h; exact (decode_high s p hp h).1
theorem dec_width (s : ByteArray) (p : Nat) (hp : p < s.size) : 1 ≤ (Utf8.decode s p).2 ∧ p + (Utf8.decode s p).2 ≤ s.size ∧ ∀ k, 1 ≤ k → k < (Utf8.decode s p).2 → 128 ≤ bat s (p + k) := by
  have key : ∀ k, (decide (p + k < s.size) && (s.get! (p + k)).toNat / 64 == 2) = true → p + k < s.size ∧ 128 ≤ bat s (p + k) := by
    intro k hk
    simp only [Bool.and_eq_true, decide_eq_true_eq, beq_iff_eq] at hk
    rw [bat_get s _ hk.1] at hk
    exact ⟨hk.1, by omega⟩
  have one' : ∀ c : Nat, 1 ≤ ((c, 1) : Nat × Nat).2 ∧ p + ((c, 1) : Nat × Nat).2 ≤ s.size ∧ ∀ k, 1 ≤ k → k < ((c, 1) : Nat × Nat).2 → 128 ≤ bat s (p + k) :=
    fun c => ⟨Nat.le_refl _, hp, fun k h1 h2 => absurd h2 (by simp; omega)⟩
  unfold Utf8.decode
  simp only
  split
  · exact one' _
  · split
    · rename_i h1
      simp only [Bool.and_eq_true] at h1
      have k1 := key 1 (by simpa using h1.2)
      split
      · exact ⟨by simp, by simp; omega, fun k a b => by have : k = 1 := by simp at b; omega
                                                        subst this; exact k1.2⟩
      · exact one' _
    · split
      · rename_i h1
        simp only [Bool.and_eq_true] at h1
        have k1 := key 1 (by simpa using h1.1.2)
        have k2 := key 2 (by simpa using h1.2)
        split
        · exact ⟨by simp, by simp; omega, fun k a b => by
            have : k = 1 ∨ k = 2 := by simp at b; omega
            rcases this with rfl | rfl
            · exact k1.2
            · exact k2.2⟩
        · exact one' _
      · split
        · rename_i h1
          simp only [Bool.and_eq_true] at h1
          have k1 := key 1 (by simpa using h1.1.1.2)
          have k2 := key 2 (by simpa using h1.1.2)
          have k3 := key 3 (by simpa using h1.2)
          split
          · exact ⟨by simp, by simp; omega, fun k a b => by
              have : k = 1 ∨ k = 2 ∨ k = 3 := by simp at b; omega
              rcases this with rfl | rfl | rfl
              · exact k1.2
              · exact k2.2
              · exact k3.2⟩
          · exact one' _
        · exact one' _

/-- No rune reaches over a byte below 128. -/
theorem dec_before {s : ByteArray} {p q : Nat} (hpq : p < q) (hq : q < s.size) (hb : bat s q < 128) : p + (Utf8.decode s p).2 ≤ q := by
  obtain ⟨_, _, h⟩ := dec_width s p (by omega)
  rcases Nat.lt_or_ge q (p + (Utf8.decode s p).2) with hl | hl
  · have := h (q - p) (by omega) (by omega)
    rw [show p + (q - p) = q by omega] at this
    omega
  · exact hl
end Go.Proofs.YtfelokbicifclaaDoor
