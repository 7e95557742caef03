/- The project's lexer: all tokens of a text. -/
import Derived.Test.YtfelokbicifclaaDoorProj3
import Derived.Test.YtfelokbicifclaaDoorSigns
import Derived.Test.YtfelokbicifclaaDoorRefTok
import Derived.Lib.OthersKept
import Derived.WalkSmall
import Derived.Deep.LoopGhost
namespace Go.Proofs.YtfelokbicifclaaDoor
open Go.RowKit

/-- The memory of the loop: the text's iterator, the tokens so far, all else as it was. -/
structure Mem (s : ByteArray) (w wr : World) (v : Value) (pos : Nat) (acc : List (List Value)) : Prop where
  iter : wr.heap[w.heap.size + 1]? = some (.stringIter s pos)
  own : wr.ownsRow (w.heap.size + 2) 30 4 v acc.length acc.flatten
  below : Below (w.heap.size + 1) (w.alloc (.cells #[.int .i64 0, .int .i64 0] 25)) wr
theorem Mem.sz {s : ByteArray} {w wr : World} {v : Value} {pos : Nat} {acc : List (List Value)} (h : Mem s w wr v pos acc) : w.heap.size + 2 ≤ wr.heap.size := (Array.getElem?_eq_some_iff.1 h.iter).1
theorem Mem.next {s : ByteArray} {w wr : World} {v : Value} {pos : Nat} {acc : List (List Value)} (h : Mem s w wr v pos acc) (p : Nat) : Mem s w (wr.iterAt (w.heap.size + 1) s p) v p acc :=
  ⟨Lib.iterAt_heap wr _ s pos p h.iter, ownsRow_iterAt h.own (by omega) s p, Lib.below_iterAt h.below (Nat.le_refl _) s p⟩
theorem Mem.call {s : ByteArray} {w wr w1 : World} {v : Value} {pos : Nat} {acc : List (List Value)} (h : Mem s w wr v pos acc) (hb : Below wr.heap.size wr w1) : Mem s w w1 v pos acc := by
  have := h.sz
  exact ⟨by rw [hb.block _ (by omega)]; exact h.iter, ownsRow_below h.own hb, h.below.trans (hb.mono (by omega))⟩
theorem Mem.alloc {s : ByteArray} {w wr : World} {v : Value} {pos : Nat} {acc : List (List Value)} (h : Mem s w wr v pos acc) (o : Obj) : Mem s w (wr.alloc o) v pos acc :=
  h.call ((Below.refl _ _).alloc (Nat.le_refl _) o)
theorem Mem.grown {s : ByteArray} {w wr w1 : World} {v v' : Value} {pos : Nat} {acc : List (List Value)} {c : List Value} (h : Mem s w wr v pos acc) (hg : wr.grownBy w1 v.ownBlock)
    (ho : w1.ownsRow (w.heap.size + 2) 30 4 v' (acc.length + 1) (acc.flatten ++ c)) : Mem s w w1 v' pos (acc ++ [c]) := by
  have hsz := h.sz
  refine ⟨?_, by rw [flatten_snoc, List.length_append]; exact ho, h.below.grown hg (by omega) (fun k hk => by have := (h.own.lt k hk).1; omega)⟩
  rw [hg.block _ (by omega) (fun e => by have := (h.own.lt _ e.symm).1; omega)]
  exact h.iter

/-- The loop's book-keeping: what has been read, what is passed over, what the rest comes to. -/
structure Book (s : ByteArray) (pos en b : Nat) (acc : List (List Value)) : Prop where
  pos_le : pos ≤ s.size
  en_le : en ≤ s.size
  clear : ∀ p, pos ≤ p → p < en → p + (Utf8.decode s p).2 ≤ en
  same : lexFrom b s (max pos en) acc = lexFrom s.size s 0 []
  fuel : s.size ≤ max pos en + b
  few : acc.length ≤ max pos en
theorem Book.start (s : ByteArray) : Book s 0 0 s.size [] := ⟨Nat.zero_le _, Nat.zero_le _, fun p _ h => absurd h (by omega), rfl, by omega, by simp⟩
/-- A rune that is passed over. -/
theorem Book.skip {s : ByteArray} {pos en b : Nat} {acc : List (List Value)} (h : Book s pos en b acc) (hp : pos < s.size) (he : pos < en) : Book s (pos + (Utf8.decode s pos).2) en b acc := by
  have h1 := h.clear pos (Nat.le_refl _) he
  obtain ⟨h2, h3, _⟩ := dec_width s pos hp
  have e1 : max pos en = en := by omega
  have e2 : max (pos + (Utf8.decode s pos).2) en = en := by omega
  refine ⟨h3, h.en_le, fun p hp1 hp2 => h.clear p (by omega) hp2, ?_, ?_, ?_⟩
  · rw [e2, ← e1]; exact h.same
  · have := h.fuel; omega
  · have := h.few; omega
/-- A step of the text: up to 'en'' all is read or may be passed over. -/
theorem Book.step {s : ByteArray} {pos en b : Nat} {acc acc' : List (List Value)} (h : Book s pos en b acc) (hp : pos < s.size) (he : ¬ pos < en) {en' : Nat} {w : Nat} (hw : Utf8.decode s pos = (bat s pos, 1)) (h1 : max (pos + 1) en' = w) (hen : en' ≤ s.size)
    (hclear : ∀ p, pos + 1 ≤ p → p < en' → p + (Utf8.decode s p).2 ≤ en') (hlex : ∀ b', lexFrom (b' + 1) s pos acc = lexFrom b' s w acc') (hfew : acc'.length ≤ acc.length + 1) : ∃ b', Book s (pos + (Utf8.decode s pos).2) en' b' acc' := by
  have e1 : max pos en = pos := by omega
  have hf := h.fuel
  have hs := h.same
  have hfw := h.few
  rw [e1] at hf hs hfw
  obtain ⟨b', rfl⟩ : ∃ b', b = b' + 1 := ⟨b - 1, by omega⟩
  rw [hw]
  refine ⟨b', by simp; omega, hen, fun p a c => hclear p a c, ?_, ?_, ?_⟩
  · show lexFrom b' s (max (pos + 1) en') acc' = _
    rw [h1, ← hlex]; exact hs
  · show s.size ≤ max (pos + 1) en' + b'
    omega
  · show acc'.length ≤ max (pos + 1) en'
    omega
theorem Book.at_end {s : ByteArray} {pos en b : Nat} {acc : List (List Value)} (h : Book s pos en b acc) (hs : s.size ≤ 6000) (hp : ¬ pos < s.size) : lexAll s = .inr (acc ++ [tokCells 0 s.size ⟨#[]⟩ 0]) := by
  have := h.same
  rw [lex_end (by omega)] at this
  rw [lexAll, if_neg (by omega), ← this]
theorem Book.bad {s : ByteArray} {pos en b : Nat} {acc : List (List Value)} (h : Book s pos en b acc) (hs : s.size ≤ 6000) (hlt : pos < s.size) (he : ¬ pos < en) (hb : blankN (bat s pos) = false) (hr : bat s pos ≠ 35) (hE : (one s pos).err ≠ 0) : lexAll s = .inl ((one s pos).err, pos) := by
  have hf := h.fuel
  have := h.same
  rw [show max pos en = pos by omega] at this hf
  obtain ⟨b', rfl⟩ : ∃ b', b = b' + 1 := ⟨b - 1, by omega⟩
  rw [lex_bad hlt hb hr hE] at this
  rw [lexAll, if_neg (by omega), ← this]
/-- In a run of bytes below 128 no rune reaches over its end. -/
theorem clear_low {s : ByteArray} {a en : Nat} (hen : en ≤ s.size) (h : ∀ p, a ≤ p → p < en → bat s p < 128) : ∀ p, a ≤ p → p < en → p + (Utf8.decode s p).2 ≤ en := by
  intro p h1 h2
  rw [dec_low (by omega) (h p h1 h2)]
  show p + 1 ≤ en
  omega
/-- Nor over the end of a remark. -/
theorem clear_rem {s : ByteArray} {a k : Nat} (hk : k ≤ s.size) : ∀ p, a ≤ p → p < runEnd remN s k → p + (Utf8.decode s p).2 ≤ runEnd remN s k := by
  intro p _ h2
  have hle := runEnd_le remN s k hk
  by_cases he : runEnd remN s k < s.size
  · have := runEnd_stop remN s k he
    refine dec_before h2 he ?_
    simp [remN] at this
    omega
  · have := (dec_width s p (by omega)).2.1
    omega
/-- The bytes of a token are below 128. -/
theorem one_low {s : ByteArray} {i : Nat} (hi : i < s.size) (he : (one s i).err = 0) : ∀ p, i ≤ p → p < (one s i).stop → bat s p < 128 := by
  have hnam : ∀ c, namN c = true → c < 128 := fun c h => by
    rcases Nat.lt_or_ge c 128 with h1 | h1
    · exact h1
    · rw [sortNam c h1] at h; cases h
  intro p h1 h2
  cases hd : digN (bat s i)
  · cases hl : letN (bat s i)
    · by_cases h39 : bat s i = 39 ∧ letN (bat s (i + 1)) = true
      · rw [one_life h39.1 h39.2] at he h2
        split at h2
        · simp at h2
        · by_cases e : p = i
          · rw [e, h39.1]; omega
          · exact hnam _ (runEnd_all namN s (i + 1) p (by omega) h2)
      · have h3 : bat s i ≠ 39 ∨ letN (bat s (i + 1)) = false := by
          by_cases h : bat s i = 39
          · exact .inr (by cases h' : letN (bat s (i + 1)); rfl; exact absurd ⟨h, h'⟩ h39)
          · exact .inl h
        rw [one_sign hd hl h3] at he h2
        split at h2
        · simp at h2
        · rename_i hz
          have h2' : p < i + signLen s i := h2
          unfold signLen at h2' hz
          split at h2'
          · rename_i ht
            have hm : (bat s i, bat s (i + 1)) ∈ twoSigns := by simpa using ht
            have hall : ∀ q ∈ twoSigns, q.1 < 128 ∧ q.2 < 128 := by decide
            have := hall _ hm
            have hp2 : p = i ∨ p = i + 1 := by omega
            rcases hp2 with rfl | rfl
            · exact this.1
            · exact this.2
          · rename_i ht
            split at h2'
            · rename_i ho
              have hm : bat s i ∈ oneSigns := by simpa using ho
              have hall : ∀ q ∈ oneSigns, q < 128 := by decide
              have : p = i := by omega
              rw [this]; exact hall _ hm
            · omega
    · rw [one_letter hl] at he h2
      split at h2
      · exact hnam _ (runEnd_all namN s i p h1 h2)
      · split at h2
        · simp at h2
        · exact hnam _ (runEnd_all namN s i p h1 h2)
  · rw [one_digit hd] at he h2
    split at h2
    · have := runEnd_all digN s i p h1 h2
      rcases Nat.lt_or_ge (bat s p) 128 with h3 | h3
      · exact h3
      · rw [sortDig _ h3] at this; cases this
    · simp at h2

theorem Globals.mem {s : ByteArray} {w wr : World} {v : Value} {pos : Nat} {acc : List (List Value)} (hG : Globals w) (h : Mem s w wr v pos acc) : Globals wr := glob_below hG h.below
end Go.Proofs.YtfelokbicifclaaDoor
