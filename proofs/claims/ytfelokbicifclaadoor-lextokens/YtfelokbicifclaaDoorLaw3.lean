/- LexTokens' walk: both lexers answer the same. -/
import Derived.Test.YtfelokbicifclaaDoorProj5
namespace Go.Proofs.YtfelokbicifclaaDoor
open Go.RowKit

set_option maxRecDepth 100000 in
set_option maxHeartbeats 1000000 in
theorem tokens6_long (s : ByteArray) (w : World) (hs : 6000 < s.size) (hm : s.size ≤ maxLen) :
    Calls Tryd.prog 6 #[.string s] w fun e w' => TokPost s (w.heap.size + 2) e w' ∧ Below w.heap.size w w' := by
  unfold maxLen at hm
  go_enter Tryd.func6, Tryd.ntmps6
  go_wp2_with fail
  go_step3
  go_wp2_with fail
  rw [Exit.noGoto_ret]
  refine bodyPost_ret (v := .tuple #[.slice none 0 0, .agg #[.int .i64 1, .int .i64 0]]) (by simp [results, Tryd.results6, go_sem]) rfl ⟨?_, (Below.refl _ _).alloc (Nat.le_refl _) _⟩
  unfold TokPost
  rw [lexAll, if_pos hs]
  rfl
theorem tokens6_any (s : ByteArray) (w : World) (hm : s.size ≤ maxLen) (hG : Globals w) (tg : TypeId) (fg : Nat × Nat) (hS : w.heap[0]? = some (.cells signsC tg fg)) :
    Calls Tryd.prog 6 #[.string s] w fun e w' => TokPost s (w.heap.size + 2) e w' ∧ Below w.heap.size w w' := by
  by_cases hs : s.size ≤ 6000
  · exact tokens6 s w hs hG tg fg hS
  · exact tokens6_long s w (by omega) hm

theorem lexFrom_bad (s : ByteArray) : ∀ (b i : Nat) (acc : List (List Value)) (k p : Nat), lexFrom b s i acc = .inl (k, p) → k ≠ 0
  | 0, _, _, _, _, h => by simp [lexFrom] at h
  | b + 1, i, acc, k, p, h => by
    rw [lexFrom] at h
    split at h
    · split at h
      · exact lexFrom_bad s b _ _ k p h
      · split at h
        · exact lexFrom_bad s b _ _ k p h
        · split at h
          · rename_i he
            simp only [Sum.inl.injEq, Prod.mk.injEq] at h
            rw [← h.1]; exact he
          · exact lexFrom_bad s b _ _ k p h
    · cases h
theorem lexAll_bad {s : ByteArray} {k p : Nat} (h : lexAll s = .inl (k, p)) : k ≠ 0 := by
  rw [lexAll] at h
  split at h
  · simp only [Sum.inl.injEq, Prod.mk.injEq] at h; omega
  · exact lexFrom_bad s _ _ _ k p h
def isTok (c : List Value) : Prop := ∃ (kind i : Nat) (t : ByteArray) (n : Nat), c = tokCells kind i t n
theorem lexFrom_toks (s : ByteArray) : ∀ (b i : Nat) (acc ts : List (List Value)), (∀ c ∈ acc, isTok c) → lexFrom b s i acc = .inr ts → (∀ c ∈ ts, isTok c) ∧ ts ≠ []
  | 0, i, acc, ts, ha, h => by
    simp only [lexFrom, Sum.inr.injEq] at h
    subst h
    exact ⟨fun c hc => by rcases List.mem_append.1 hc with h | h; exact ha c h; simp at h; exact ⟨_, _, _, _, h⟩, by simp⟩
  | b + 1, i, acc, ts, ha, h => by
    rw [lexFrom] at h
    split at h
    · split at h
      · exact lexFrom_toks s b _ _ ts ha h
      · split at h
        · exact lexFrom_toks s b _ _ ts ha h
        · split at h
          · cases h
          · refine lexFrom_toks s b _ _ ts (fun c hc => ?_) h
            rcases List.mem_append.1 hc with h | h
            · exact ha c h
            · simp at h; exact ⟨_, _, _, _, h⟩
    · simp only [Sum.inr.injEq] at h
      subst h
      exact ⟨fun c hc => by rcases List.mem_append.1 hc with h | h; exact ha c h; simp at h; exact ⟨_, _, _, _, h⟩, by simp⟩
theorem lexFrom_few (s : ByteArray) : ∀ (b i : Nat) (acc ts : List (List Value)), lexFrom b s i acc = .inr ts → ts.length ≤ acc.length + b + 1
  | 0, i, acc, ts, h => by
    simp only [lexFrom, Sum.inr.injEq] at h
    subst h; simp
  | b + 1, i, acc, ts, h => by
    rw [lexFrom] at h
    split at h
    · split at h
      · have := lexFrom_few s b _ _ ts h; omega
      · split at h
        · have := lexFrom_few s b _ _ ts h; omega
        · split at h
          · cases h
          · have := lexFrom_few s b _ _ ts h; simp at this; omega
    · simp only [Sum.inr.injEq] at h
      subst h; simp
theorem lexAll_good {s : ByteArray} {ts : List (List Value)} (h : lexAll s = .inr ts) : (∀ c ∈ ts, isTok c) ∧ ts ≠ [] ∧ ts.length ≤ 6001 := by
  rw [lexAll] at h
  split at h
  · cases h
  · have h1 := lexFrom_toks s _ _ _ ts (fun c hc => by simp at hc) h
    have h2 := lexFrom_few s _ _ _ ts h
    exact ⟨h1.1, h1.2, by simp at h2; omega⟩

set_option maxHeartbeats 1000000 in
theorem same8 (a b : Int) (w : World) : Calls Tryd.prog 8 #[.agg #[.int .i64 a, .int .i64 b], .agg #[.int .i64 a, .int .i64 b]] w fun e w' => e = .returned (.bool true) ∧ Below w.heap.size w w' := by
  go_enter Tryd.func8, Tryd.ntmps8
  go_wp2_with fail
  go_ret
  exact ⟨by simp, below2 _ _ _⟩

theorem faultCells {w wr : World} {a b : Value} (h : Below (w.heap.size + 1) (w.alloc (.cells #[a, b] 25)) wr) :
    wr.cell? ⟨w.heap.size, 0, none⟩ = some a ∧ wr.cell? ⟨w.heap.size, 1, none⟩ = some b ∧ w.heap.size < wr.heap.size := by
  refine ⟨?_, ?_, ?_⟩
  · rw [h.cell (p := ⟨w.heap.size, 0, none⟩) (by simp)]; simp
  · rw [h.cell (p := ⟨w.heap.size, 1, none⟩) (by simp)]; simp
  · have := h.size; simp at this; omega

set_option maxRecDepth 100000 in
set_option maxHeartbeats 2000000 in
theorem law3_bad (s : ByteArray) (w : World) (hm : s.size ≤ maxLen) (hG : Globals w) (tg : TypeId) (fg : Nat × Nat) (hS : w.heap[0]? = some (.cells signsC tg fg)) (k p : Nat) (hl : lexAll s = .inl (k, p)) :
    Calls Tryd.prog 3 #[.string s] w fun e w' => e = .returned (.bool true) ∧ Below w.heap.size w w' := by
  have h6 := tokens6_any s w hm hG tg fg hS
  have hk : ((k : Int) != 0) = true := by have := lexAll_bad hl; simp; omega
  have HL : Hid (lexAll s = .inl (k, p)) := hl
  clear hS hl
  go_enter Tryd.func3, Tryd.ntmps3
  go_wp2_with fail
  refine h6.mono ?_
  rintro e w1 ⟨hT, hb1⟩
  unfold TokPost at hT
  rw [HL.out] at hT
  obtain rfl : e = _ := hT
  go_wp2_with fail
  refine (tokens7_any s _ hm).mono ?_
  rintro e w2 ⟨hT, hb2⟩
  unfold TokPost at hT
  rw [HL.out] at hT
  obtain rfl : e = _ := hT
  have hb2' : Below (w1.heap.size + 1) (w1.alloc (.cells #[.int .i64 k, .int .i64 p] 25)) w2 := hb2.mono (by simp)
  obtain ⟨f0, f1, f2⟩ := faultCells hb2'
  go_wp2_with fail
  refine (same8 k p _).mono ?_
  rintro e w3 ⟨rfl, hb3⟩
  have hb3' : Below (w2.heap.size + 1) (w2.alloc (.cells #[.int .i64 k, .int .i64 p] 25)) w3 := hb3.mono (by simp)
  obtain ⟨g0, g1, g2⟩ := faultCells hb3'
  go_wp2_with fail
  go_ret
  have hs1 := hb1.size
  have hs2 : w1.heap.size ≤ w2.heap.size := by omega
  exact ⟨rfl, ((hb1.alloc hb1.size _).trans (hb2'.mono (by omega))).trans (((Below.refl _ _).alloc (by omega) _).trans (hb3'.mono (by omega)))⟩

theorem own_shape {w : World} {base : Nat} {v : Value} {ts : List (List Value)} (h : w.ownsRow base 30 4 v ts.length ts.flatten) (hne : ts ≠ []) : ∃ g cap, v = .slice (some ⟨g, 0, none⟩) ts.length cap ∧ base ≤ g ∧ g < w.heap.size := by
  rcases h.2 with ⟨_, h0⟩ | ⟨g, cap, cur, hv, hb, hg, _⟩
  · exact absurd (List.length_eq_zero_iff.1 h0) hne
  · exact ⟨g, cap, hv, hb, (Array.getElem?_eq_some_iff.1 hg).1⟩
theorem flat4 : ∀ (ts : List (List Value)), (∀ c ∈ ts, c.length = 4) → ∀ i j, i < ts.length → j < 4 → ts.flatten[i * 4 + j]? = (ts.getD i [])[j]?
  | [], _, i, j, hi, _ => by simp at hi
  | c :: ts, h, 0, j, _, hj => by
    have hc := h c (List.mem_cons_self ..)
    simp only [List.flatten_cons, Nat.zero_mul, Nat.zero_add, List.getD_cons_zero]
    rw [List.getElem?_append_left (by omega)]
  | c :: ts, h, i + 1, j, hi, hj => by
    have hc := h c (List.mem_cons_self ..)
    simp only [List.flatten_cons, List.getD_cons_succ]
    rw [List.getElem?_append_right (by omega), show (i + 1) * 4 + j - c.length = i * 4 + j by omega]
    exact flat4 ts (fun x hx => h x (List.mem_cons_of_mem _ hx)) i j (by simpa using hi) hj
/-- The four cells of the i-th token. -/
theorem tok_cells {w : World} {base g cap : Nat} {ts : List (List Value)} (h : w.ownsRow base 30 4 (.slice (some ⟨g, 0, none⟩) ts.length cap) ts.length ts.flatten) (ht : ∀ c ∈ ts, isTok c) (i : Nat) (hi : i < ts.length) :
    ∃ (kind at_ : Nat) (t : ByteArray) (n : Nat), ts[i]? = some (tokCells kind at_ t n) ∧ w.cell? ⟨g, i * 4, none⟩ = some (.int .i64 kind) ∧ w.cell? ⟨g, i * 4 + 1, none⟩ = some (.int .i64 at_) ∧ w.cell? ⟨g, i * 4 + 2, none⟩ = some (.string t) ∧ w.cell? ⟨g, i * 4 + 3, none⟩ = some (.int .i64 n) := by
  obtain ⟨kind, a, t, n, hc⟩ := ht _ (List.getElem_mem hi)
  have hl : ∀ c ∈ ts, c.length = 4 := fun c hc => by obtain ⟨_, _, _, _, rfl⟩ := ht c hc; rfl
  have hg : ts.getD i [] = tokCells kind a t n := by rw [List.getD, List.getElem?_eq_getElem hi, hc]; rfl
  refine ⟨kind, a, t, n, by rw [List.getElem?_eq_getElem hi, hc], ?_, ?_, ?_, ?_⟩
  · have := h.cellAt (i * 4 + 0) (by omega); rw [flat4 ts hl i 0 hi (by omega), hg] at this; exact this
  · have := h.cellAt (i * 4 + 1) (by omega); rw [flat4 ts hl i 1 hi (by omega), hg] at this; exact this
  · have := h.cellAt (i * 4 + 2) (by omega); rw [flat4 ts hl i 2 hi (by omega), hg] at this; exact this
  · have := h.cellAt (i * 4 + 3) (by omega); rw [flat4 ts hl i 3 hi (by omega), hg] at this; exact this

set_option maxRecDepth 100000 in
set_option maxHeartbeats 2000000 in
theorem law3_good (s : ByteArray) (w : World) (hm : s.size ≤ maxLen) (hG : Globals w) (tg : TypeId) (fg : Nat × Nat) (hS : w.heap[0]? = some (.cells signsC tg fg)) (ts : List (List Value)) (hl : lexAll s = .inr ts) :
    Calls Tryd.prog 3 #[.string s] w fun e w' => e = .returned (.bool true) ∧ Below w.heap.size w w' := by
  have h6 := tokens6_any s w hm hG tg fg hS
  obtain ⟨ht, hne, hlen⟩ := lexAll_good hl
  have HL : Hid (lexAll s = .inr ts) := hl
  have hpos : 0 < ts.length := List.length_pos_iff.2 hne
  clear hS hl
  go_enter Tryd.func3, Tryd.ntmps3
  go_wp2_with fail
  refine h6.mono ?_
  rintro e w1 ⟨hT, hb1⟩
  unfold TokPost at hT
  rw [HL.out] at hT
  obtain ⟨v1, rfl, ho1⟩ := hT
  obtain ⟨ga, ca, rfl, hga1, hga2⟩ := own_shape ho1 hne
  go_wp2_with fail
  refine (tokens7_any s _ hm).mono ?_
  rintro e w2 ⟨hT, hb2⟩
  unfold TokPost at hT
  rw [HL.out] at hT
  obtain ⟨v2, rfl, ho2⟩ := hT
  obtain ⟨gb, cb, rfl, hgb1, hgb2⟩ := own_shape ho2 hne
  have hb2' : Below (w1.heap.size + 1) (w1.alloc (.cells #[.int .i64 0, .int .i64 0] 25)) w2 := hb2.mono (by simp)
  have ho1' : w2.ownsRow (w.heap.size + 2) 30 4 (.slice (some ⟨ga, 0, none⟩) ts.length ca) ts.length ts.flatten := ownsRow_below (ho1.alloc _) hb2
  obtain ⟨f0, f1, f2⟩ := faultCells hb2'
  go_wp2_with fail
  refine (same8 0 0 _).mono ?_
  rintro e w3 ⟨rfl, hb3⟩
  have hb3' : Below (w2.heap.size + 1) (w2.alloc (.cells #[.int .i64 0, .int .i64 0] 25)) w3 := hb3.mono (by simp)
  obtain ⟨g0, g1, g2⟩ := faultCells hb3'
  have ho1'' := ownsRow_below (ho1'.alloc (.cells #[.int .i64 0, .int .i64 0] 25)) hb3
  have ho2'' := ownsRow_below (ho2.alloc (.cells #[.int .i64 0, .int .i64 0] 25)) hb3
  have hbw : Below w.heap.size w w3 := by
    have hs1 := hb1.size
    exact ((hb1.alloc hb1.size _).trans (hb2'.mono (by omega))).trans (((Below.refl _ _).alloc (by omega) _).trans (hb3'.mono (by omega)))
  clear hb1 hb2 hb2' hb3 hb3' ho1 ho1' ho2
  go_wp2_with fail
  go_loopg [32] (ts.length + 1) (fun g2 t wr => ∃ i : Nat, i + g2 = ts.length + 1 ∧ t = .int .i64 i ∧ Below w3.heap.size w3 wr)
  case atStart => exact ⟨0, by omega, rfl, Below.refl _ _⟩
  case round =>
    obtain ⟨i, hi, rfl, hbr⟩ := hrel
    by_cases hlt : i < ts.length
    · obtain ⟨kind, a, t, n, he, a0, a1, a2, a3⟩ := tok_cells (ownsRow_below ho1'' hbr) ht i hlt
      obtain ⟨kind', a', t', n', he', b0, b1, b2, b3⟩ := tok_cells (ownsRow_below ho2'' hbr) ht i hlt
      have hq : tokCells kind a t n = tokCells kind' a' t' n' := Option.some.inj (he.symm.trans he')
      simp only [tokCells, List.cons.injEq, Value.int.injEq, Value.string.injEq, true_and, and_true] at hq
      obtain ⟨q1, q2, q3, q4⟩ := hq
      rw [← q1] at b0
      rw [← q2] at b1
      rw [← q3] at b2
      rw [← q4] at b3
      clear q1 q2 q3 q4 he he'
      go_wp2_with fail
      go_region
      all_goals (try go_wp2_with fail)
      go_roundg (ts.length - i)
      case measure => omega
      case rel => exact ⟨i + 1, by omega, by go_num, hbr.drew⟩
    · go_wp2_with fail
      go_ret
      exact ⟨rfl, hbw.trans (hbr.mono hbw.size)⟩

theorem law3 (s : ByteArray) (w : World) (hm : s.size ≤ maxLen) (hG : Globals w) (tg : TypeId) (fg : Nat × Nat) (hS : w.heap[0]? = some (.cells signsC tg fg)) :
    Calls Tryd.prog 3 #[.string s] w fun e w' => e = .returned (.bool true) ∧ Below w.heap.size w w' := by
  cases hl : lexAll s with
  | inl x => obtain ⟨k, p⟩ := x; exact law3_bad s w hm hG tg fg hS k p hl
  | inr ts => exact law3_good s w hm hG tg fg hS ts hl
end Go.Proofs.YtfelokbicifclaaDoor
