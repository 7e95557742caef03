/- Tokens written out with a space behind each are read as the same tokens: the plain mathematics. -/
import Derived.Test.YtfelokbicifclaaDoorLaw3
import Derived.Lib.ItoaMem
namespace Go.Proofs.YtfelokbicifclaaDoor

/-- What a token of a text is like. -/
def WfTok (kind : Nat) (t : ByteArray) (n : Nat) : Prop :=
  (kind = 1 ∧ t = ⟨#[]⟩ ∧ n ≤ 9223372036854775807) ∨
  (kind = 2 ∧ n = 0 ∧ 0 < t.size ∧ letN (bat t 0) = true ∧ (∀ j, j < t.size → namN (bat t j) = true) ∧ t.size ≤ 20 ∧ isWord t.toList = false) ∨
  (kind = 3 ∧ n = 0 ∧ 0 < t.size ∧ letN (bat t 0) = true ∧ (∀ j, j < t.size → namN (bat t j) = true) ∧ isWord t.toList = true) ∨
  (kind = 4 ∧ n = 0 ∧ 2 ≤ t.size ∧ t.size ≤ 21 ∧ bat t 0 = 39 ∧ letN (bat t 1) = true ∧ (∀ j, 1 ≤ j → j < t.size → namN (bat t j) = true)) ∨
  (kind = 5 ∧ n = 0 ∧ t.size = 2 ∧ twoSigns.contains (bat t 0, bat t 1) = true) ∨
  (kind = 5 ∧ n = 0 ∧ t.size = 1 ∧ oneSigns.contains (bat t 0) = true)
theorem WfTok.int (n : Nat) (h : n ≤ 9223372036854775807) : WfTok 1 ⟨#[]⟩ n := .inl ⟨rfl, rfl, h⟩
theorem WfTok.name (t : ByteArray) (h0 : 0 < t.size) (h1 : letN (bat t 0) = true) (h2 : ∀ j, j < t.size → namN (bat t j) = true) (h3 : t.size ≤ 20) (h4 : isWord t.toList = false) : WfTok 2 t 0 := .inr (.inl ⟨rfl, rfl, h0, h1, h2, h3, h4⟩)
theorem WfTok.word (t : ByteArray) (h0 : 0 < t.size) (h1 : letN (bat t 0) = true) (h2 : ∀ j, j < t.size → namN (bat t j) = true) (h4 : isWord t.toList = true) : WfTok 3 t 0 := .inr (.inr (.inl ⟨rfl, rfl, h0, h1, h2, h4⟩))
theorem WfTok.life (t : ByteArray) (h0 : 2 ≤ t.size) (h3 : t.size ≤ 21) (h1 : bat t 0 = 39) (h2 : letN (bat t 1) = true) (h4 : ∀ j, 1 ≤ j → j < t.size → namN (bat t j) = true) : WfTok 4 t 0 := .inr (.inr (.inr (.inl ⟨rfl, rfl, h0, h3, h1, h2, h4⟩)))
theorem WfTok.two (t : ByteArray) (h0 : t.size = 2) (h1 : twoSigns.contains (bat t 0, bat t 1) = true) : WfTok 5 t 0 := .inr (.inr (.inr (.inr (.inl ⟨rfl, rfl, h0, h1⟩))))
theorem WfTok.single (t : ByteArray) (h0 : t.size = 1) (h1 : oneSigns.contains (bat t 0) = true) : WfTok 5 t 0 := .inr (.inr (.inr (.inr (.inr ⟨rfl, rfl, h0, h1⟩))))

theorem one_wf {s : ByteArray} {i : Nat} (hi : i < s.size) (he : (one s i).err = 0) : WfTok (one s i).kind (oneText s i (one s i)) (one s i).n := by
  cases hd : digN (bat s i)
  · cases hl : letN (bat s i)
    · by_cases h39 : bat s i = 39 ∧ letN (bat s (i + 1)) = true
      · have hi1 : i + 1 < s.size := by
          rcases Nat.lt_or_ge (i + 1) s.size with h | h
          · exact h
          · have := h39.2; rw [bat_out (by omega)] at this; simp [letN] at this
        have h1 : i + 1 < runEnd namN s (i + 1) := runEnd_pos hi1 (by simp [namN, h39.2])
        have h2 := runEnd_le namN s (i + 1) (by omega)
        have hall := runEnd_all namN s (i + 1)
        have e := one_life h39.1 h39.2
        by_cases h21 : 21 < runEnd namN s (i + 1) - i
        · rw [e, if_pos h21] at he; simp at he
        · rw [if_neg h21] at e
          rw [oneText, e]
          show WfTok 4 (s.extract i (runEnd namN s (i + 1))) 0
          have hsz := ext_size s i _ h2
          refine WfTok.life _ (by rw [hsz]; omega) (by rw [hsz]; omega) ?_ ?_ ?_
          · rw [ext_bat s i _ 0 h2 (by omega)]; exact h39.1
          · rw [ext_bat s i _ 1 h2 (by omega)]; exact h39.2
          · intro j hj1 hj2
            rw [hsz] at hj2
            rw [ext_bat s i _ j h2 (by omega)]
            exact hall (i + j) (by omega) (by omega)
      · have h3 : bat s i ≠ 39 ∨ letN (bat s (i + 1)) = false := by
          by_cases h : bat s i = 39
          · exact .inr (by cases h' : letN (bat s (i + 1)); rfl; exact absurd ⟨h, h'⟩ h39)
          · exact .inl h
        have e := one_sign hd hl h3
        have hle := signLen_pos_le hi
        by_cases hz : signLen s i = 0
        · rw [e, if_pos hz] at he; simp at he
        · rw [if_neg hz] at e
          rw [oneText, e]
          show WfTok 5 (s.extract i (i + signLen s i)) 0
          have hsz := ext_size s i _ hle
          cases ht : twoSigns.contains (bat s i, bat s (i + 1))
          · cases ho : oneSigns.contains (bat s i)
            · exact absurd (by rw [signLen, ht, ho]; rfl) hz
            · have hs1 : signLen s i = 1 := by rw [signLen, ht, ho]; rfl
              rw [hs1] at hsz hle ⊢
              refine WfTok.single _ (by rw [hsz]; omega) ?_
              rw [ext_bat s i _ 0 hle (by omega)]; exact ho
          · have hs1 : signLen s i = 2 := by rw [signLen, ht]; rfl
            rw [hs1] at hsz hle ⊢
            refine WfTok.two _ (by rw [hsz]; omega) ?_
            rw [ext_bat s i _ 0 hle (by omega), ext_bat s i _ 1 hle (by omega)]; exact ht
    · have h1 : i < runEnd namN s i := runEnd_pos hi (by simp [namN, hl])
      have h2 := runEnd_le namN s i (by omega)
      have hall := runEnd_all namN s i
      have hsz := ext_size s i _ h2
      have e := one_letter hl
      have a0 : 0 < (s.extract i (runEnd namN s i)).size := by rw [hsz]; omega
      have a1 : letN (bat (s.extract i (runEnd namN s i)) 0) = true := by rw [ext_bat s i _ 0 h2 (by omega)]; exact hl
      have a2 : ∀ j, j < (s.extract i (runEnd namN s i)).size → namN (bat (s.extract i (runEnd namN s i)) j) = true := by
        intro j hj
        rw [hsz] at hj
        rw [ext_bat s i _ j h2 (by omega)]
        exact hall (i + j) (by omega) (by omega)
      cases hw : isWord (s.extract i (runEnd namN s i)).toList
      · rw [hw] at e
        rw [if_neg (by simp)] at e
        by_cases h20 : 20 < runEnd namN s i - i
        · rw [e, if_pos h20] at he; simp at he
        · rw [if_neg h20] at e
          rw [oneText, e]
          show WfTok 2 (s.extract i (runEnd namN s i)) 0
          exact WfTok.name _ a0 a1 a2 (by rw [hsz]; omega) hw
      · rw [hw, if_pos rfl] at e
        rw [oneText, e]
        show WfTok 3 (s.extract i (runEnd namN s i)) 0
        exact WfTok.word _ a0 a1 a2 hw
  · have e := one_digit hd
    by_cases hm : numVal s i (runEnd digN s i - i) ≤ 9223372036854775807
    · rw [if_pos hm] at e
      rw [oneText, e]
      exact WfTok.int _ hm
    · rw [e, if_neg hm] at he; simp at he

/-! ### A token written out -/
def pieceB (kind : Nat) (t : ByteArray) (n : Nat) : ByteArray := if kind = 1 then ⟨(Lib.decDigits n).toArray⟩ else t

theorem dec_digits (n : Nat) : (∀ c ∈ Lib.decDigits n, 48 ≤ c.toNat ∧ c.toNat ≤ 57) ∧ decList 0 (Lib.decDigits n) = n ∧ 0 < (Lib.decDigits n).length := by
  induction n using Nat.strongRecOn with
  | _ n ih =>
    by_cases h : n < 10
    · rw [Lib.decDigits_one h]
      have e : (UInt8.ofNat (48 + n)).toNat = 48 + n := by rw [UInt8.toNat_ofNat']; omega
      refine ⟨fun c hc => ?_, ?_, by simp⟩
      · have hc' := List.mem_singleton.1 hc; rw [hc', e]; omega
      · show 0 * 10 + ((UInt8.ofNat (48 + n)).toNat - 48) = n
        rw [e]; omega
    · obtain ⟨i1, i2, i3⟩ := ih (n / 10) (by omega)
      have e : (UInt8.ofNat (48 + n % 10)).toNat = 48 + n % 10 := by rw [UInt8.toNat_ofNat']; omega
      rw [Lib.decDigits, dif_neg h]
      refine ⟨fun c hc => ?_, ?_, by simp⟩
      · rcases List.mem_append.1 hc with hc | hc
        · exact i1 c hc
        · have hc' := List.mem_singleton.1 hc; rw [hc', e]; omega
      · rw [decList_snoc, i2, e]; omega

theorem bat_list (s : ByteArray) (i : Nat) : bat s i = ((s.data.toList[i]?).map (·.toNat)).getD 0 := by
  by_cases h : i < s.size
  · rw [bat_eq h, List.getElem?_eq_getElem (by simpa using h)]; rfl
  · rw [bat_out h, List.getElem?_eq_none (by simp; omega)]; rfl
theorem ext_of_bat {o t : ByteArray} {p : Nat} (hp : p + t.size ≤ o.size) (h : ∀ j, j < t.size → bat o (p + j) = bat t j) : o.extract p (p + t.size) = t := by
  have hsz := ext_size o p _ hp
  apply ByteArray.ext
  apply Array.ext
  · show (o.extract p (p + t.size)).size = t.size
    rw [hsz]; omega
  · intro j h1 h2
    have hj : j < t.size := h2
    have hb := ext_bat o p _ j hp (by omega)
    rw [h j hj, bat_eq hj, bat_eq (show j < (o.extract p (p + t.size)).size by rw [hsz]; omega)] at hb
    exact UInt8.toNat_inj.1 hb
theorem num_of_bat {o q : ByteArray} {p : Nat} : ∀ m, (∀ j, j < m → bat o (p + j) = bat q j) → numVal o p m = numVal q 0 m
  | 0, _ => rfl
  | m + 1, h => by
    show numVal o p m * 10 + (bat o (p + m) - 48) = numVal q 0 m * 10 + (bat q (0 + m) - 48)
    rw [num_of_bat m (fun j hj => h j (by omega)), Nat.zero_add, h m (by omega)]

theorem sp_nam : namN 32 = false := rfl
theorem sp_dig : digN 32 = false := rfl
theorem two_first : ∀ q ∈ twoSigns, digN q.1 = false ∧ letN q.1 = false ∧ q.1 ≠ 39 ∧ blankN q.1 = false ∧ q.1 ≠ 35 := by decide
theorem one_first : ∀ q ∈ oneSigns, digN q = false ∧ letN q = false ∧ q ≠ 39 ∧ blankN q = false ∧ q ≠ 35 ∧ twoSigns.contains (q, 32) = false := by decide

/-- A token that stands in a text, a space behind it, is read as that token. -/
theorem stand {kind n : Nat} {t : ByteArray} (hw : WfTok kind t n) {o : ByteArray} {p : Nat} (hb : ∀ j, j < (pieceB kind t n).size → bat o (p + j) = bat (pieceB kind t n) j) (hsp : bat o (p + (pieceB kind t n).size) = 32) (hlt : p + (pieceB kind t n).size < o.size) :
    one o p = ⟨0, kind, p + (pieceB kind t n).size, n⟩ ∧ oneText o p (one o p) = t ∧ blankN (bat o p) = false ∧ bat o p ≠ 35 := by
  rcases hw with ⟨rfl, rfl, h⟩ | ⟨rfl, rfl, h0, h1, h2, h3, h4⟩ | ⟨rfl, rfl, h0, h1, h2, h4⟩ | ⟨rfl, rfl, h0, h3, h1, h2, h4⟩ | ⟨rfl, rfl, h0, h1⟩ | ⟨rfl, rfl, h0, h1⟩
  · have e1 : pieceB 1 ⟨#[]⟩ n = ⟨(Lib.decDigits n).toArray⟩ := rfl
    rw [e1] at hb hsp hlt ⊢
    obtain ⟨hd, hv, hl⟩ := dec_digits n
    have hsz : (⟨(Lib.decDigits n).toArray⟩ : ByteArray).size = (Lib.decDigits n).length := by show (Lib.decDigits n).toArray.size = _; simp
    have hdig : ∀ j, j < (⟨(Lib.decDigits n).toArray⟩ : ByteArray).size → digN (bat ⟨(Lib.decDigits n).toArray⟩ j) = true := by
      intro j hj
      rw [bat_list]
      simp only
      rw [List.getElem?_eq_getElem (by rw [hsz] at hj; exact hj)]
      have := hd _ (List.getElem_mem (by rw [hsz] at hj; exact hj : j < (Lib.decDigits n).length))
      simp [digN]; exact this
    have hr : runEnd digN o p = p + (⟨(Lib.decDigits n).toArray⟩ : ByteArray).size := by
      refine runEnd_eq (by omega) (by omega) (fun j h1 h2 => ?_) (fun _ => by rw [hsp]; rfl)
      have := hb (j - p) (by omega)
      rw [show p + (j - p) = j by omega] at this
      rw [this]; exact hdig _ (by omega)
    have h0 := hb 0 (by omega)
    have hd0 := hdig 0 (by omega)
    rw [Nat.add_zero] at h0
    rw [← h0] at hd0
    have hnum : numVal o p (⟨(Lib.decDigits n).toArray⟩ : ByteArray).size = n := by
      rw [num_of_bat _ hb, ← decList_num _ _ (Nat.le_refl _)]
      rw [List.take_of_length_le (by rw [hsz]; simp)]
      exact hv
    have e : one o p = ⟨0, 1, p + (⟨(Lib.decDigits n).toArray⟩ : ByteArray).size, n⟩ := by
      rw [one_digit hd0, hr, show p + (⟨(Lib.decDigits n).toArray⟩ : ByteArray).size - p = (⟨(Lib.decDigits n).toArray⟩ : ByteArray).size by omega, hnum, if_pos h]
    refine ⟨e, by rw [oneText, e]; rfl, ?_, ?_⟩
    · simp only [digN, decide_eq_true_eq] at hd0; simp [blankN]; omega
    · simp only [digN, decide_eq_true_eq] at hd0; omega
  · have e1 : pieceB 2 t 0 = t := rfl
    rw [e1] at hb hsp hlt ⊢
    have b0 := hb 0 h0
    rw [Nat.add_zero] at b0
    have hx := ext_of_bat (by omega) hb
    have hr : runEnd namN o p = p + t.size := by
      refine runEnd_eq (by omega) (by omega) (fun j a b => ?_) (fun _ => by rw [hsp]; rfl)
      have := hb (j - p) (by omega)
      rw [show p + (j - p) = j by omega] at this
      rw [this]; exact h2 _ (by omega)
    rw [← b0] at h1
    have e : one o p = ⟨0, 2, p + t.size, 0⟩ := by
      rw [one_letter h1, hr, hx, if_neg (by simp [h4]), if_neg (by omega)]
    refine ⟨e, by rw [oneText, e]; exact hx, ?_, ?_⟩
    · simp only [letN, decide_eq_true_eq] at h1; simp [blankN]; omega
    · simp only [letN, decide_eq_true_eq] at h1; omega
  · have e1 : pieceB 3 t 0 = t := rfl
    rw [e1] at hb hsp hlt ⊢
    have b0 := hb 0 h0
    rw [Nat.add_zero] at b0
    have hx := ext_of_bat (by omega) hb
    have hr : runEnd namN o p = p + t.size := by
      refine runEnd_eq (by omega) (by omega) (fun j a b => ?_) (fun _ => by rw [hsp]; rfl)
      have := hb (j - p) (by omega)
      rw [show p + (j - p) = j by omega] at this
      rw [this]; exact h2 _ (by omega)
    rw [← b0] at h1
    have e : one o p = ⟨0, 3, p + t.size, 0⟩ := by
      rw [one_letter h1, hr, hx, if_pos h4]
    refine ⟨e, by rw [oneText, e]; exact hx, ?_, ?_⟩
    · simp only [letN, decide_eq_true_eq] at h1; simp [blankN]; omega
    · simp only [letN, decide_eq_true_eq] at h1; omega
  · have e1 : pieceB 4 t 0 = t := rfl
    rw [e1] at hb hsp hlt ⊢
    have b0 := hb 0 (by omega)
    have b1 := hb 1 (by omega)
    rw [Nat.add_zero, h1] at b0
    rw [← b1] at h2
    have hx := ext_of_bat (by omega) hb
    have hr : runEnd namN o (p + 1) = p + t.size := by
      refine runEnd_eq (by omega) (by omega) (fun j a b => ?_) (fun _ => by rw [hsp]; rfl)
      have := hb (j - p) (by omega)
      rw [show p + (j - p) = j by omega] at this
      rw [this]; exact h4 _ (by omega) (by omega)
    have e : one o p = ⟨0, 4, p + t.size, 0⟩ := by
      rw [one_life b0 h2, hr, if_neg (by omega)]
    exact ⟨e, by rw [oneText, e]; exact hx, by rw [b0]; rfl, by rw [b0]; omega⟩
  · have e1 : pieceB 5 t 0 = t := rfl
    rw [e1] at hb hsp hlt ⊢
    have b0 := hb 0 (by omega)
    have b1 := hb 1 (by omega)
    rw [Nat.add_zero] at b0
    have hx := ext_of_bat (by omega) hb
    rw [← b0, ← b1] at h1
    obtain ⟨f1, f2, f3, f4, f5⟩ := two_first _ (by simpa using h1)
    have hs : signLen o p = 2 := by rw [signLen, h1]; rfl
    have e : one o p = ⟨0, 5, p + t.size, 0⟩ := by
      rw [one_sign f1 f2 (.inl f3), hs, h0]; rfl
    exact ⟨e, by rw [oneText, e]; exact hx, f4, f5⟩
  · have e1 : pieceB 5 t 0 = t := rfl
    rw [e1] at hb hsp hlt ⊢
    have b0 := hb 0 (by omega)
    rw [Nat.add_zero] at b0
    have hx := ext_of_bat (by omega) hb
    rw [← b0] at h1
    rw [h0] at hsp
    obtain ⟨f1, f2, f3, f4, f5, f6⟩ := one_first _ (by simpa using h1)
    have hs : signLen o p = 1 := by rw [signLen, hsp, f6, h1]; rfl
    have e : one o p = ⟨0, 5, p + t.size, 0⟩ := by
      rw [one_sign f1 f2 (.inl f3), hs, h0]; rfl
    exact ⟨e, by rw [oneText, e]; exact hx, f4, f5⟩

/-! ### All tokens written out -/
/-- A token, its place aside. -/
structure Tk where
  kind : Nat
  text : ByteArray
  n : Nat
def Tk.wf (q : Tk) : Prop := WfTok q.kind q.text q.n
def Tk.piece (q : Tk) : ByteArray := pieceB q.kind q.text q.n
def Tk.cells (q : Tk) (i : Nat) : List Value := tokCells q.kind i q.text q.n
/-- The tokens with the places that they have when they are written out from p on. -/
def place (p : Nat) : List Tk → List (List Value)
  | [] => []
  | q :: l => q.cells p :: place (p + q.piece.size + 1) l
/-- From p on the tokens stand in o, a space behind each, and at the end a space more. -/
def Stand (o : ByteArray) (p : Nat) : List Tk → Prop
  | [] => bat o p = 32 ∧ p + 1 = o.size
  | q :: l => (∀ j, j < q.piece.size → bat o (p + j) = bat q.piece j) ∧ bat o (p + q.piece.size) = 32 ∧ p + q.piece.size < o.size ∧ Stand o (p + q.piece.size + 1) l
theorem stand_le {o : ByteArray} : ∀ {l : List Tk} {p : Nat}, Stand o p l → p < o.size
  | [], p, h => by have := h.2; omega
  | q :: l, p, h => by have := h.2.2.1; omega

theorem lex_stand {o : ByteArray} : ∀ (l : List Tk) (p b : Nat) (acc : List (List Value)), (∀ q ∈ l, q.wf) → Stand o p l → o.size ≤ p + b → lexFrom b o p acc = .inr (acc ++ place p l ++ [tokCells 0 o.size ⟨#[]⟩ 0])
  | [], p, b, acc, _, hs, hb => by
    obtain ⟨h1, h2⟩ := hs
    obtain ⟨b', rfl⟩ : ∃ b', b = b' + 1 := ⟨b - 1, by omega⟩
    rw [lex_blank (by omega) (by rw [h1]; rfl), lex_end (by omega)]
    simp [place]
  | q :: l, p, b, acc, hw, hs, hb => by
    obtain ⟨h1, h2, h3, h4⟩ := hs
    have hlt := stand_le h4
    obtain ⟨e1, e2, e3, e4⟩ := stand (hw q (List.mem_cons_self ..)) h1 h2 h3
    have e1' : one o p = ⟨0, q.kind, p + q.piece.size, q.n⟩ := e1
    have hst := one_stop (s := o) (i := p) (by omega) (by rw [e1'])
    rw [e1'] at hst
    simp only at hst
    obtain ⟨b', rfl⟩ : ∃ b', b = b' + 1 + 1 := ⟨b - 2, by omega⟩
    rw [lex_tok (by omega) e3 e4 (by rw [e1'])]
    have ec : oneCells o p = q.cells p := by rw [oneCells, e2, e1']; rfl
    rw [ec, e1']
    show lexFrom (b' + 1) o (p + q.piece.size) (acc ++ [q.cells p]) = _
    rw [lex_blank h3 (by rw [h2]; rfl), lex_stand l _ b' _ (fun x hx => hw x (List.mem_cons_of_mem _ hx)) h4 (by omega)]
    simp [place]

/-- What is written out. -/
def outL : List Tk → List UInt8
  | [] => [32]
  | q :: l => q.piece.data.toList ++ 32 :: outL l
theorem bat_at {o : ByteArray} {pre suf : List UInt8} (h : o.data.toList = pre ++ suf) (j : Nat) : bat o (pre.length + j) = ((suf[j]?).map (·.toNat)).getD 0 := by
  rw [bat_list, h, List.getElem?_append_right (by omega), show pre.length + j - pre.length = j by omega]
theorem size_list (o : ByteArray) : o.size = o.data.toList.length := by rw [Array.length_toList]; rfl
theorem stand_out : ∀ (l : List Tk) (o : ByteArray) (pre : List UInt8), o.data.toList = pre ++ outL l → Stand o pre.length l
  | [], o, pre, h => by
    have h0 := bat_at h 0
    rw [Nat.add_zero] at h0
    exact ⟨h0, by rw [size_list, h]; simp [outL]⟩
  | q :: l, o, pre, h => by
    have hsz := size_list q.piece
    have hlen : o.size = pre.length + (q.piece.size + 1 + (outL l).length) := by rw [size_list, h, List.length_append]; simp only [outL, List.length_append, List.length_cons]; omega
    refine ⟨fun j hj => ?_, ?_, by omega, ?_⟩
    · rw [bat_at h j, bat_list]
      simp only [outL]
      rw [List.getElem?_append_left (by omega)]
    · rw [bat_at h]
      simp only [outL]
      rw [List.getElem?_append_right (by omega), hsz, Nat.sub_self]
      rfl
    · have h' : o.data.toList = (pre ++ q.piece.data.toList ++ [32]) ++ outL l := by rw [h]; simp [outL]
      have := stand_out l o _ h'
      have e : (pre ++ q.piece.data.toList ++ [32]).length = pre.length + q.piece.size + 1 := by simp only [List.length_append, List.length_cons, List.length_nil]; omega
      rw [e] at this
      exact this

/-- The tokens of a text, its end aside. -/
theorem lexFrom_tks (s : ByteArray) : ∀ (b i : Nat) (acc : List (List Value)) (pl : List (Tk × Nat)) (ts : List (List Value)), acc = pl.map (fun x => x.1.cells x.2) → (∀ x ∈ pl, x.1.wf) → lexFrom b s i acc = .inr ts →
    ∃ pl' : List (Tk × Nat), ts = pl'.map (fun x => x.1.cells x.2) ++ [tokCells 0 s.size ⟨#[]⟩ 0] ∧ ∀ x ∈ pl', x.1.wf
  | 0, i, acc, pl, ts, ha, hw, h => by
    simp only [lexFrom, Sum.inr.injEq] at h
    exact ⟨pl, by rw [← h, ha], hw⟩
  | b + 1, i, acc, pl, ts, ha, hw, h => by
    rw [lexFrom] at h
    split at h
    · rename_i hi
      split at h
      · exact lexFrom_tks s b _ _ pl ts ha hw h
      · split at h
        · exact lexFrom_tks s b _ _ pl ts ha hw h
        · split at h
          · cases h
          · rename_i he
            refine lexFrom_tks s b _ _ (pl ++ [(⟨(one s i).kind, oneText s i (one s i), (one s i).n⟩, i)]) ts (by rw [ha]; simp [oneCells, Tk.cells]) (fun x hx => ?_) h
            rcases List.mem_append.1 hx with hx | hx
            · exact hw x hx
            · rw [List.mem_singleton.1 hx]; exact one_wf hi (by simpa using he)
    · simp only [Sum.inr.injEq] at h
      exact ⟨pl, by rw [← h, ha], hw⟩
theorem lexAll_tks {s : ByteArray} {ts : List (List Value)} (h : lexAll s = .inr ts) : ∃ pl : List (Tk × Nat), ts = pl.map (fun x => x.1.cells x.2) ++ [tokCells 0 s.size ⟨#[]⟩ 0] ∧ ∀ x ∈ pl, x.1.wf := by
  rw [lexAll] at h
  split at h
  · cases h
  · exact lexFrom_tks s _ _ [] [] ts rfl (fun x hx => by simp at hx) h

/-- TOKENS WITH A SPACE BETWEEN ARE THE SAME TOKENS. -/
theorem lex_again (l : List Tk) (hw : ∀ q ∈ l, q.wf) (o : ByteArray) (ho : o.data.toList = outL l) (hs : o.size ≤ 6000) : lexAll o = .inr (place 0 l ++ [tokCells 0 o.size ⟨#[]⟩ 0]) := by
  rw [lexAll, if_neg (by omega), lex_stand l 0 o.size [] hw (stand_out l o [] (by simpa using ho)) (by omega)]
  simp
theorem place_length : ∀ (l : List Tk) (p : Nat), (place p l).length = l.length
  | [], _ => rfl
  | q :: l, p => by simp [place, place_length l]
theorem place_at : ∀ (l : List Tk) (p i : Nat) (hi : i < l.length), ∃ a, (place p l)[i]? = some ((l[i]).cells a)
  | q :: l, p, 0, _ => ⟨p, rfl⟩
  | q :: l, p, i + 1, hi => by
    obtain ⟨a, ha⟩ := place_at l (p + q.piece.size + 1) i (by simpa using hi)
    exact ⟨a, by simpa [place] using ha⟩
end Go.Proofs.YtfelokbicifclaaDoor
