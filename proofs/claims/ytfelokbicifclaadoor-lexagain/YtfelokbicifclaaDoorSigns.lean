/- The table of signs, and how the first sign that fits is the sign at a place. -/
import Derived.Test.YtfelokbicifclaaDoorLexMore
namespace Go.Proofs.YtfelokbicifclaaDoor

def signsB : List ByteArray := [⟨#[58, 58]⟩, ⟨#[45, 62]⟩, ⟨#[61, 62]⟩, ⟨#[61, 61]⟩, ⟨#[33, 61]⟩, ⟨#[60, 61]⟩, ⟨#[62, 61]⟩, ⟨#[38, 38]⟩, ⟨#[124, 124]⟩, ⟨#[40]⟩, ⟨#[41]⟩, ⟨#[123]⟩, ⟨#[125]⟩, ⟨#[91]⟩, ⟨#[93]⟩, ⟨#[60]⟩, ⟨#[62]⟩, ⟨#[44]⟩, ⟨#[59]⟩, ⟨#[58]⟩, ⟨#[46]⟩, ⟨#[61]⟩, ⟨#[43]⟩, ⟨#[45]⟩, ⟨#[42]⟩, ⟨#[47]⟩, ⟨#[37]⟩, ⟨#[38]⟩, ⟨#[33]⟩, ⟨#[95]⟩]
def signsC : Array Value := (signsB.map Value.string).toArray
def signAt (k : Nat) : ByteArray := signsB.getD k ByteArray.empty
theorem index_signs (w : World) : (k : Nat) → k < 30 → (Instr.index 38 (.agg signsC) (.int .i64 k)).run Tryd.prog w = .ok (.string (signAt k)) w
  | 0, _ => by kernel_rfl
  | 1, _ => by kernel_rfl
  | 2, _ => by kernel_rfl
  | 3, _ => by kernel_rfl
  | 4, _ => by kernel_rfl
  | 5, _ => by kernel_rfl
  | 6, _ => by kernel_rfl
  | 7, _ => by kernel_rfl
  | 8, _ => by kernel_rfl
  | 9, _ => by kernel_rfl
  | 10, _ => by kernel_rfl
  | 11, _ => by kernel_rfl
  | 12, _ => by kernel_rfl
  | 13, _ => by kernel_rfl
  | 14, _ => by kernel_rfl
  | 15, _ => by kernel_rfl
  | 16, _ => by kernel_rfl
  | 17, _ => by kernel_rfl
  | 18, _ => by kernel_rfl
  | 19, _ => by kernel_rfl
  | 20, _ => by kernel_rfl
  | 21, _ => by kernel_rfl
  | 22, _ => by kernel_rfl
  | 23, _ => by kernel_rfl
  | 24, _ => by kernel_rfl
  | 25, _ => by kernel_rfl
  | 26, _ => by kernel_rfl
  | 27, _ => by kernel_rfl
  | 28, _ => by kernel_rfl
  | 29, _ => by kernel_rfl
  | k + 30, h => absurd h (by omega)

/-- Whether the k-th sign stands at a place. -/
def signHit (s : ByteArray) (i k : Nat) : Bool := Lib.hasPrefix (s.extract i s.size).data.toList (signAt k).data.toList

theorem rest_list (s : ByteArray) (i : Nat) : (s.extract i s.size).data.toList = s.data.toList.drop i := by
  rw [Lib.extract_data, List.take_of_length_le (by simp)]
theorem pre_one (s : ByteArray) (i : Nat) (hi : i < s.size) (a : UInt8) : Lib.hasPrefix (s.extract i s.size).data.toList [a] = (bat s i == a.toNat) := by
  rw [rest_list, List.drop_eq_getElem_cons (by simpa using hi), bat_eq hi, Bool.eq_iff_iff]
  have e : (s.data.toList)[i]'(by simpa using hi) = s[i]'hi := rfl
  rw [e]
  simp only [Lib.hasPrefix, List.isPrefixOf, Bool.and_true, beq_iff_eq, UInt8.toNat_inj]
  exact eq_comm
theorem pre_two (s : ByteArray) (i : Nat) (hi : i < s.size) (a b : UInt8) (hb : b ≠ 0) : Lib.hasPrefix (s.extract i s.size).data.toList [a, b] = ((bat s i, bat s (i + 1)) == (a.toNat, b.toNat)) := by
  have hb' : b.toNat ≠ 0 := fun h => hb (UInt8.toNat_inj.1 h)
  have e : (s.data.toList)[i]'(by simpa using hi) = s[i]'hi := rfl
  rw [rest_list, List.drop_eq_getElem_cons (by simpa using hi), bat_eq hi, e]
  by_cases h : i + 1 < s.size
  · have e2 : (s.data.toList)[i + 1]'(by simpa using h) = s[i + 1]'h := rfl
    rw [List.drop_eq_getElem_cons (by simpa using h), bat_eq h, e2, Bool.eq_iff_iff]
    simp only [Lib.hasPrefix, List.isPrefixOf, Bool.and_true, Bool.and_eq_true, beq_iff_eq, Prod.mk.injEq, UInt8.toNat_inj]
    constructor <;> (rintro ⟨h1, h2⟩; exact ⟨h1.symm, h2.symm⟩)
  · rw [List.drop_eq_nil_of_le (by simp; omega), bat_out h, Bool.eq_iff_iff]
    simp [Lib.hasPrefix]
    intro _; omega
theorem hit0 (s : ByteArray) (i : Nat) (hi : i < s.size) : signHit s i 0 = ((bat s i, bat s (i + 1)) == (58, 58)) := pre_two s i hi 58 58 (by decide)
theorem hit1 (s : ByteArray) (i : Nat) (hi : i < s.size) : signHit s i 1 = ((bat s i, bat s (i + 1)) == (45, 62)) := pre_two s i hi 45 62 (by decide)
theorem hit2 (s : ByteArray) (i : Nat) (hi : i < s.size) : signHit s i 2 = ((bat s i, bat s (i + 1)) == (61, 62)) := pre_two s i hi 61 62 (by decide)
theorem hit3 (s : ByteArray) (i : Nat) (hi : i < s.size) : signHit s i 3 = ((bat s i, bat s (i + 1)) == (61, 61)) := pre_two s i hi 61 61 (by decide)
theorem hit4 (s : ByteArray) (i : Nat) (hi : i < s.size) : signHit s i 4 = ((bat s i, bat s (i + 1)) == (33, 61)) := pre_two s i hi 33 61 (by decide)
theorem hit5 (s : ByteArray) (i : Nat) (hi : i < s.size) : signHit s i 5 = ((bat s i, bat s (i + 1)) == (60, 61)) := pre_two s i hi 60 61 (by decide)
theorem hit6 (s : ByteArray) (i : Nat) (hi : i < s.size) : signHit s i 6 = ((bat s i, bat s (i + 1)) == (62, 61)) := pre_two s i hi 62 61 (by decide)
theorem hit7 (s : ByteArray) (i : Nat) (hi : i < s.size) : signHit s i 7 = ((bat s i, bat s (i + 1)) == (38, 38)) := pre_two s i hi 38 38 (by decide)
theorem hit8 (s : ByteArray) (i : Nat) (hi : i < s.size) : signHit s i 8 = ((bat s i, bat s (i + 1)) == (124, 124)) := pre_two s i hi 124 124 (by decide)
theorem hit9 (s : ByteArray) (i : Nat) (hi : i < s.size) : signHit s i 9 = (bat s i == 40) := pre_one s i hi 40
theorem hit10 (s : ByteArray) (i : Nat) (hi : i < s.size) : signHit s i 10 = (bat s i == 41) := pre_one s i hi 41
theorem hit11 (s : ByteArray) (i : Nat) (hi : i < s.size) : signHit s i 11 = (bat s i == 123) := pre_one s i hi 123
theorem hit12 (s : ByteArray) (i : Nat) (hi : i < s.size) : signHit s i 12 = (bat s i == 125) := pre_one s i hi 125
theorem hit13 (s : ByteArray) (i : Nat) (hi : i < s.size) : signHit s i 13 = (bat s i == 91) := pre_one s i hi 91
theorem hit14 (s : ByteArray) (i : Nat) (hi : i < s.size) : signHit s i 14 = (bat s i == 93) := pre_one s i hi 93
theorem hit15 (s : ByteArray) (i : Nat) (hi : i < s.size) : signHit s i 15 = (bat s i == 60) := pre_one s i hi 60
theorem hit16 (s : ByteArray) (i : Nat) (hi : i < s.size) : signHit s i 16 = (bat s i == 62) := pre_one s i hi 62
theorem hit17 (s : ByteArray) (i : Nat) (hi : i < s.size) : signHit s i 17 = (bat s i == 44) := pre_one s i hi 44
theorem hit18 (s : ByteArray) (i : Nat) (hi : i < s.size) : signHit s i 18 = (bat s i == 59) := pre_one s i hi 59
theorem hit19 (s : ByteArray) (i : Nat) (hi : i < s.size) : signHit s i 19 = (bat s i == 58) := pre_one s i hi 58
theorem hit20 (s : ByteArray) (i : Nat) (hi : i < s.size) : signHit s i 20 = (bat s i == 46) := pre_one s i hi 46
theorem hit21 (s : ByteArray) (i : Nat) (hi : i < s.size) : signHit s i 21 = (bat s i == 61) := pre_one s i hi 61
theorem hit22 (s : ByteArray) (i : Nat) (hi : i < s.size) : signHit s i 22 = (bat s i == 43) := pre_one s i hi 43
theorem hit23 (s : ByteArray) (i : Nat) (hi : i < s.size) : signHit s i 23 = (bat s i == 45) := pre_one s i hi 45
theorem hit24 (s : ByteArray) (i : Nat) (hi : i < s.size) : signHit s i 24 = (bat s i == 42) := pre_one s i hi 42
theorem hit25 (s : ByteArray) (i : Nat) (hi : i < s.size) : signHit s i 25 = (bat s i == 47) := pre_one s i hi 47
theorem hit26 (s : ByteArray) (i : Nat) (hi : i < s.size) : signHit s i 26 = (bat s i == 37) := pre_one s i hi 37
theorem hit27 (s : ByteArray) (i : Nat) (hi : i < s.size) : signHit s i 27 = (bat s i == 38) := pre_one s i hi 38
theorem hit28 (s : ByteArray) (i : Nat) (hi : i < s.size) : signHit s i 28 = (bat s i == 33) := pre_one s i hi 33
theorem hit29 (s : ByteArray) (i : Nat) (hi : i < s.size) : signHit s i 29 = (bat s i == 95) := pre_one s i hi 95

theorem no_two (s : ByteArray) (i : Nat) (hi : i < s.size) (h : ∀ j, j < 9 → signHit s i j = false) : twoSigns.contains (bat s i, bat s (i + 1)) = false := by
  have h0 := h 0 (by omega); rw [hit0 s i hi] at h0
  have h1 := h 1 (by omega); rw [hit1 s i hi] at h1
  have h2 := h 2 (by omega); rw [hit2 s i hi] at h2
  have h3 := h 3 (by omega); rw [hit3 s i hi] at h3
  have h4 := h 4 (by omega); rw [hit4 s i hi] at h4
  have h5 := h 5 (by omega); rw [hit5 s i hi] at h5
  have h6 := h 6 (by omega); rw [hit6 s i hi] at h6
  have h7 := h 7 (by omega); rw [hit7 s i hi] at h7
  have h8 := h 8 (by omega); rw [hit8 s i hi] at h8
  simp only [twoSigns, List.contains, List.elem, h0, h1, h2, h3, h4, h5, h6, h7, h8]
theorem no_one (s : ByteArray) (i : Nat) (hi : i < s.size) (h : ∀ j, j < 30 → signHit s i j = false) : oneSigns.contains (bat s i) = false := by
  have h9 := h 9 (by omega); rw [hit9 s i hi] at h9
  have h10 := h 10 (by omega); rw [hit10 s i hi] at h10
  have h11 := h 11 (by omega); rw [hit11 s i hi] at h11
  have h12 := h 12 (by omega); rw [hit12 s i hi] at h12
  have h13 := h 13 (by omega); rw [hit13 s i hi] at h13
  have h14 := h 14 (by omega); rw [hit14 s i hi] at h14
  have h15 := h 15 (by omega); rw [hit15 s i hi] at h15
  have h16 := h 16 (by omega); rw [hit16 s i hi] at h16
  have h17 := h 17 (by omega); rw [hit17 s i hi] at h17
  have h18 := h 18 (by omega); rw [hit18 s i hi] at h18
  have h19 := h 19 (by omega); rw [hit19 s i hi] at h19
  have h20 := h 20 (by omega); rw [hit20 s i hi] at h20
  have h21 := h 21 (by omega); rw [hit21 s i hi] at h21
  have h22 := h 22 (by omega); rw [hit22 s i hi] at h22
  have h23 := h 23 (by omega); rw [hit23 s i hi] at h23
  have h24 := h 24 (by omega); rw [hit24 s i hi] at h24
  have h25 := h 25 (by omega); rw [hit25 s i hi] at h25
  have h26 := h 26 (by omega); rw [hit26 s i hi] at h26
  have h27 := h 27 (by omega); rw [hit27 s i hi] at h27
  have h28 := h 28 (by omega); rw [hit28 s i hi] at h28
  have h29 := h 29 (by omega); rw [hit29 s i hi] at h29
  simp only [oneSigns, List.contains, List.elem, h9, h10, h11, h12, h13, h14, h15, h16, h17, h18, h19, h20, h21, h22, h23, h24, h25, h26, h27, h28, h29]
theorem sign_none (s : ByteArray) (i : Nat) (hi : i < s.size) (h : ∀ j, j < 30 → signHit s i j = false) : signLen s i = 0 := by
  rw [signLen, if_neg (by rw [no_two s i hi (fun j hj => h j (by omega))]; simp), if_neg (by rw [no_one s i hi h]; simp)]
theorem sign_size (s : ByteArray) (i : Nat) (hi : i < s.size) : (k : Nat) → k < 30 → signHit s i k = true → (∀ j, j < k → signHit s i j = false) → signLen s i = (signAt k).size
  | 0, _, h, _ => by
    rw [hit0 s i hi] at h
    have e : (bat s i, bat s (i + 1)) = (58, 58) := by simpa using h
    rw [signLen, e]; rfl
  | 1, _, h, _ => by
    rw [hit1 s i hi] at h
    have e : (bat s i, bat s (i + 1)) = (45, 62) := by simpa using h
    rw [signLen, e]; rfl
  | 2, _, h, _ => by
    rw [hit2 s i hi] at h
    have e : (bat s i, bat s (i + 1)) = (61, 62) := by simpa using h
    rw [signLen, e]; rfl
  | 3, _, h, _ => by
    rw [hit3 s i hi] at h
    have e : (bat s i, bat s (i + 1)) = (61, 61) := by simpa using h
    rw [signLen, e]; rfl
  | 4, _, h, _ => by
    rw [hit4 s i hi] at h
    have e : (bat s i, bat s (i + 1)) = (33, 61) := by simpa using h
    rw [signLen, e]; rfl
  | 5, _, h, _ => by
    rw [hit5 s i hi] at h
    have e : (bat s i, bat s (i + 1)) = (60, 61) := by simpa using h
    rw [signLen, e]; rfl
  | 6, _, h, _ => by
    rw [hit6 s i hi] at h
    have e : (bat s i, bat s (i + 1)) = (62, 61) := by simpa using h
    rw [signLen, e]; rfl
  | 7, _, h, _ => by
    rw [hit7 s i hi] at h
    have e : (bat s i, bat s (i + 1)) = (38, 38) := by simpa using h
    rw [signLen, e]; rfl
  | 8, _, h, _ => by
    rw [hit8 s i hi] at h
    have e : (bat s i, bat s (i + 1)) = (124, 124) := by simpa using h
    rw [signLen, e]; rfl
  | 9, _, h, hn => by
    rw [hit9 s i hi] at h
    have e : bat s i = 40 := by simpa using h
    rw [signLen, if_neg (by rw [no_two s i hi (fun j hj => hn j (by omega))]; simp), e]; rfl
  | 10, _, h, hn => by
    rw [hit10 s i hi] at h
    have e : bat s i = 41 := by simpa using h
    rw [signLen, if_neg (by rw [no_two s i hi (fun j hj => hn j (by omega))]; simp), e]; rfl
  | 11, _, h, hn => by
    rw [hit11 s i hi] at h
    have e : bat s i = 123 := by simpa using h
    rw [signLen, if_neg (by rw [no_two s i hi (fun j hj => hn j (by omega))]; simp), e]; rfl
  | 12, _, h, hn => by
    rw [hit12 s i hi] at h
    have e : bat s i = 125 := by simpa using h
    rw [signLen, if_neg (by rw [no_two s i hi (fun j hj => hn j (by omega))]; simp), e]; rfl
  | 13, _, h, hn => by
    rw [hit13 s i hi] at h
    have e : bat s i = 91 := by simpa using h
    rw [signLen, if_neg (by rw [no_two s i hi (fun j hj => hn j (by omega))]; simp), e]; rfl
  | 14, _, h, hn => by
    rw [hit14 s i hi] at h
    have e : bat s i = 93 := by simpa using h
    rw [signLen, if_neg (by rw [no_two s i hi (fun j hj => hn j (by omega))]; simp), e]; rfl
  | 15, _, h, hn => by
    rw [hit15 s i hi] at h
    have e : bat s i = 60 := by simpa using h
    rw [signLen, if_neg (by rw [no_two s i hi (fun j hj => hn j (by omega))]; simp), e]; rfl
  | 16, _, h, hn => by
    rw [hit16 s i hi] at h
    have e : bat s i = 62 := by simpa using h
    rw [signLen, if_neg (by rw [no_two s i hi (fun j hj => hn j (by omega))]; simp), e]; rfl
  | 17, _, h, hn => by
    rw [hit17 s i hi] at h
    have e : bat s i = 44 := by simpa using h
    rw [signLen, if_neg (by rw [no_two s i hi (fun j hj => hn j (by omega))]; simp), e]; rfl
  | 18, _, h, hn => by
    rw [hit18 s i hi] at h
    have e : bat s i = 59 := by simpa using h
    rw [signLen, if_neg (by rw [no_two s i hi (fun j hj => hn j (by omega))]; simp), e]; rfl
  | 19, _, h, hn => by
    rw [hit19 s i hi] at h
    have e : bat s i = 58 := by simpa using h
    rw [signLen, if_neg (by rw [no_two s i hi (fun j hj => hn j (by omega))]; simp), e]; rfl
  | 20, _, h, hn => by
    rw [hit20 s i hi] at h
    have e : bat s i = 46 := by simpa using h
    rw [signLen, if_neg (by rw [no_two s i hi (fun j hj => hn j (by omega))]; simp), e]; rfl
  | 21, _, h, hn => by
    rw [hit21 s i hi] at h
    have e : bat s i = 61 := by simpa using h
    rw [signLen, if_neg (by rw [no_two s i hi (fun j hj => hn j (by omega))]; simp), e]; rfl
  | 22, _, h, hn => by
    rw [hit22 s i hi] at h
    have e : bat s i = 43 := by simpa using h
    rw [signLen, if_neg (by rw [no_two s i hi (fun j hj => hn j (by omega))]; simp), e]; rfl
  | 23, _, h, hn => by
    rw [hit23 s i hi] at h
    have e : bat s i = 45 := by simpa using h
    rw [signLen, if_neg (by rw [no_two s i hi (fun j hj => hn j (by omega))]; simp), e]; rfl
  | 24, _, h, hn => by
    rw [hit24 s i hi] at h
    have e : bat s i = 42 := by simpa using h
    rw [signLen, if_neg (by rw [no_two s i hi (fun j hj => hn j (by omega))]; simp), e]; rfl
  | 25, _, h, hn => by
    rw [hit25 s i hi] at h
    have e : bat s i = 47 := by simpa using h
    rw [signLen, if_neg (by rw [no_two s i hi (fun j hj => hn j (by omega))]; simp), e]; rfl
  | 26, _, h, hn => by
    rw [hit26 s i hi] at h
    have e : bat s i = 37 := by simpa using h
    rw [signLen, if_neg (by rw [no_two s i hi (fun j hj => hn j (by omega))]; simp), e]; rfl
  | 27, _, h, hn => by
    rw [hit27 s i hi] at h
    have e : bat s i = 38 := by simpa using h
    rw [signLen, if_neg (by rw [no_two s i hi (fun j hj => hn j (by omega))]; simp), e]; rfl
  | 28, _, h, hn => by
    rw [hit28 s i hi] at h
    have e : bat s i = 33 := by simpa using h
    rw [signLen, if_neg (by rw [no_two s i hi (fun j hj => hn j (by omega))]; simp), e]; rfl
  | 29, _, h, hn => by
    rw [hit29 s i hi] at h
    have e : bat s i = 95 := by simpa using h
    rw [signLen, if_neg (by rw [no_two s i hi (fun j hj => hn j (by omega))]; simp), e]; rfl
  | k + 30, hk, _, _ => absurd hk (by omega)
theorem prefix_take : ∀ (p l : List UInt8), Lib.hasPrefix l p = true → l.take p.length = p
  | [], l, _ => by simp
  | a :: p, [], h => by simp [Lib.hasPrefix] at h
  | a :: p, b :: l, h => by
    simp [Lib.hasPrefix] at h
    have := prefix_take p l (by simpa [Lib.hasPrefix] using h.2)
    simp [this, h.1]
theorem sign_text (s : ByteArray) (i k : Nat) (h : signHit s i k = true) : s.extract i (i + (signAt k).size) = signAt k := by
  have h1 := prefix_take _ _ h
  rw [rest_list] at h1
  rw [Lib.extract_eq, show i + (signAt k).size - i = (signAt k).data.toList.length by rw [Array.length_toList]; show i + (signAt k).data.size - i = _; omega, h1]
theorem sign_len_pos : (k : Nat) → k < 30 → 0 < (signAt k).size ∧ (signAt k).size ≤ 2
  | 0, _ => by decide +kernel
  | 1, _ => by decide +kernel
  | 2, _ => by decide +kernel
  | 3, _ => by decide +kernel
  | 4, _ => by decide +kernel
  | 5, _ => by decide +kernel
  | 6, _ => by decide +kernel
  | 7, _ => by decide +kernel
  | 8, _ => by decide +kernel
  | 9, _ => by decide +kernel
  | 10, _ => by decide +kernel
  | 11, _ => by decide +kernel
  | 12, _ => by decide +kernel
  | 13, _ => by decide +kernel
  | 14, _ => by decide +kernel
  | 15, _ => by decide +kernel
  | 16, _ => by decide +kernel
  | 17, _ => by decide +kernel
  | 18, _ => by decide +kernel
  | 19, _ => by decide +kernel
  | 20, _ => by decide +kernel
  | 21, _ => by decide +kernel
  | 22, _ => by decide +kernel
  | 23, _ => by decide +kernel
  | 24, _ => by decide +kernel
  | 25, _ => by decide +kernel
  | 26, _ => by decide +kernel
  | 27, _ => by decide +kernel
  | 28, _ => by decide +kernel
  | 29, _ => by decide +kernel
  | k + 30, h => absurd h (by omega)
end Go.Proofs.YtfelokbicifclaaDoor
