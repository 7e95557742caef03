/- HeapApart: a span is taken out of the row. -/
import Derived.Test.YtohhmcpaajcplaaLwa
namespace Go.Proofs.Ytohhmcpaajcplaa
open Go.RowKit
set_option linter.all false
section
variable {sl el size bytes : Nat} {z : Value}
theorem appA (hu : Try.prog.underlying sl = some (.slice el)) (hi : (Try.prog.info? el).map (fun i => (i.zero, i.size, i.bytes)) = some (some z, size, bytes)) (hz : z.cells.size = size) (hs : 0 < size) {W : World} {base : Nat} {v : Value} {n : Nat} {xs : List Value} (h : W.ownsRow base el size v n xs) (hb : base ≤ W.heap.size) {a : Addr} {m c : Nat} {ys : List Value} (hl : ys.length = m * size) (hx : ∀ j u, ys[j]? = some u → W.cell? (a.add j) = some u) (one : ∀ u ∈ ys, u.oneCell' = true) (hm : n + m ≤ maxLen) (hn : (n + m) * bytes ≤ 140737488355328) (ty : TypeId) :
    ∃ v' w', (Builtin.append_ #[sl, sl] ty #[v, .slice (some a) m c]).run Try.prog W = .ok v' w' ∧ App W base el size v n xs ys m v' w' := by
  obtain ⟨i0, hi0, hz0, hz1, hz2⟩ := info_parts hi
  obtain ⟨v', w', hr, h2, h3, _, h5⟩ := run_append_own_at (P := Try.prog) W base sl ty el i0 z size bytes hu hi0 hz0 hz1 hz2 hz hs v n xs h a m c ys hl hx one hm hn hb
  refine ⟨v', w', hr, ⟨?_, h2, h3, h5⟩⟩
  rcases h2.2 with ⟨x1, x2⟩ | ⟨x, y, zz, x1, _⟩
  · exact ⟨none, 0, by rw [x1, x2]⟩
  · exact ⟨_, _, x1⟩
end
theorem LV.cap {w : World} {base : Nat} {lo : Option Addr} {lc : Nat} {N : Int} {lv : List (Int × Int)} (h : LV w base lo lc N lv) : lv.length ≤ lc := by
  rcases h.row.2 with ⟨h1, h2⟩ | ⟨g, cap, cur, h1, h2, h3, h4, _⟩
  · simp at h1; omega
  · simp at h1; omega
theorem spC_one {bs : List (Int × Int)} : ∀ u ∈ (bs.map spC).flatten, u.oneCell' = true := by
  intro u hu
  obtain ⟨l, hl, hu⟩ := List.mem_flatten.1 hu
  obtain ⟨x, _, rfl⟩ := List.mem_map.1 hl
  simp [spC] at hu
  rcases hu with rfl | rfl <;> rfl
theorem spC_take {bs : List (Int × Int)} (k : Nat) (h : k ≤ bs.length) : (bs.map spC).flatten.take (k * 2) = ((bs.take k).map spC).flatten := by
  induction bs generalizing k with
  | nil => simp at h; subst h; rfl
  | cons x r ih =>
    cases k with
    | zero => rfl
    | succ k =>
      have h2 : (k + 1) * 2 = 2 + k * 2 := by omega
      simp only [List.map_cons, List.flatten_cons, List.take_succ_cons]
      rw [h2, List.take_append, show (spC x).length = 2 from rfl, Nat.add_sub_cancel_left, ih k (by simpa using h), List.take_of_length_le (by show 2 ≤ _; omega)]
theorem spC_drop {bs : List (Int × Int)} (k : Nat) : (bs.map spC).flatten.drop (k * 2) = ((bs.drop k).map spC).flatten := by
  induction bs generalizing k with
  | nil => simp
  | cons x r ih =>
    cases k with
    | zero => rfl
    | succ k =>
      have h2 : (k + 1) * 2 = (spC x).length + k * 2 := by show _ = 2 + _; omega
      simp only [List.map_cons, List.flatten_cons, List.drop_succ_cons]
      rw [h2, List.drop_append, List.drop_of_length_le (by omega), List.nil_append, Nat.add_sub_cancel_left, ih k]
/-- The first k spans. -/
theorem sp_pre {w : World} {base : Nat} {bo : Option Addr} {cp : Nat} {bs : List (Int × Int)} (h : w.ownsRow base 28 2 (.slice bo bs.length cp) bs.length (bs.map spC).flatten) {k : Nat} (hk : k ≤ bs.length) : w.ownsRow base 28 2 (.slice bo k cp) k ((bs.take k).map spC).flatten := by
  refine ⟨by rw [spC_flat, List.length_take]; omega, ?_⟩
  rcases h.2 with ⟨h1, h2⟩ | ⟨g, cap, cur, h1, h2, h3, h4, h5, h6, h7⟩
  · simp at h1
    have : k = 0 := by omega
    subst this
    exact .inl ⟨by simp [h1], rfl⟩
  · simp at h1
    obtain ⟨rfl, rfl⟩ := h1
    refine .inr ⟨g, cp, cur, rfl, h2, h3, by omega, h5, h6, ?_⟩
    rw [← spC_take k hk, ← h7, List.take_take, Nat.min_eq_left (by omega)]
section
variable {w0 W : World} {hb : Nat} {N : Int} {bs lv : List (Int × Int)} {g : Nat} {lc : Nat}
/-- The first k spans, in a row of their own. -/
theorem cut_one (L : LQ w0 W hb N bs lv (some ⟨g, 0, none⟩) lc) {k : Nat} (hk : k ≤ lv.length) (ty : TypeId) : ∃ v' w', (Builtin.append_ #[25, 25] ty #[.slice (some ⟨W.heap.size, 0, none⟩) 0 0, .slice (some ⟨g, 0, none⟩) k lc]).run Try.prog (W.drew.alloc (.cells #[] 28)) = .ok v' w' ∧ ∃ o1 c1, v' = .slice o1 k c1 ∧ w'.ownsRow W.heap.size 28 2 (.slice o1 k c1) k ((lv.take k).map spC).flatten ∧ Below W.heap.size W w' := by
  have r0 : (W.drew.alloc (.cells #[] 28)).ownsRow W.heap.size 28 2 (.slice (some ⟨W.heap.size, 0, none⟩) 0 0) 0 [] := World.ownsRow_made W.drew #[] 0 (Nat.le_refl _) (Nat.zero_le _) rfl
  have rx := ownsRow_same (sp_pre L.lv.row hk) (w' := W.drew.alloc (.cells #[] 28)) (fun b _ hl => Below.heap_alloc W.drew _ _ hl)
  have hf := L.lv.few
  obtain ⟨v', w', hr, A⟩ := appN Try.underlying25 inf28 rfl (by decide) r0 (by simp) rx spC_one (by unfold maxLen; omega) (by omega) ty
  obtain ⟨o', c', rfl⟩ := A.shape
  have r2 := A.row
  rw [Nat.zero_add] at r2
  have hB : Below W.heap.size W (W.drew.alloc (.cells #[] 28)) := ((Below.refl W.heap.size W).drew).alloc (Nat.le_refl _) _
  refine ⟨_, w', hr, o', c', by rw [Nat.zero_add], by simpa using r2, A.below hB (by simp) (fun b e => by simp [Value.ownBlock] at e; omega)⟩
theorem sp_rest {w w1 : World} {base cp : Nat} {bs : List (Int × Int)} (h : w.ownsRow base 28 2 (.slice (some ⟨g, 0, none⟩) bs.length cp) bs.length (bs.map spC).flatten) (hb : Below w.heap.size w w1) {k : Nat} (j : Nat) (u : Value) (hu : ((bs.drop k).map spC).flatten[j]? = some u) : w1.cell? ((⟨g, k * 2, none⟩ : Addr).add j) = some u := by
  rcases h.2 with ⟨h1, -⟩ | ⟨g', cap, cur, h1, -, hg, -, -, -, htk⟩
  · simp at h1
  · simp at h1
    obtain ⟨rfl, rfl⟩ := h1
    rw [← spC_drop, List.getElem?_drop, ← htk, List.getElem?_take] at hu
    split at hu
    · have hadd : (⟨g, k * 2, none⟩ : Addr).add j = ⟨g, k * 2 + j, none⟩ := by unfold Addr.add; split <;> simp_all
      rw [hadd, cell_of_row w1 g _ cur 28 (0, 0) ((hb.block _ (Array.getElem?_eq_some_iff.1 hg).1).trans hg)]
      simpa using hu
    · cases hu
/-- What is left of the spans, behind them. -/
theorem cut_two (L : LQ w0 W hb N bs lv (some ⟨g, 0, none⟩) lc) {k : Nat} (hk : k < lv.length) (hp : (lv.take k ++ lv.drop (k + 1)).Perm bs) {w1 : World} {o1 : Option Addr} {c1 : Nat} (row : w1.ownsRow W.heap.size 28 2 (.slice o1 k c1) k ((lv.take k).map spC).flatten) (hB : Below W.heap.size W w1) {a : Addr} {c : Nat} (ha : a = ⟨g, (k + 1) * 2, none⟩ ∨ k + 1 = lv.length) (ty : TypeId) : ∃ v' w', (Builtin.append_ #[25, 25] ty #[.slice o1 k c1, .slice (some a) (lv.length - (k + 1)) c]).run Try.prog w1 = .ok v' w' ∧ ∃ o' c', v' = .slice o' (lv.take k ++ lv.drop (k + 1)).length c' ∧ LQ w0 w' hb N bs (lv.take k ++ lv.drop (k + 1)) o' c' := by
  have hf := L.lv.few
  have hdl : (lv.drop (k + 1)).length = lv.length - (k + 1) := List.length_drop
  have hx : ∀ j u, ((lv.drop (k + 1)).map spC).flatten[j]? = some u → w1.cell? (a.add j) = some u := fun j u hu => by
    rcases ha with rfl | he
    · exact sp_rest L.lv.row hB j u hu
    · rw [List.drop_of_length_le (by omega)] at hu
      simp at hu
  obtain ⟨v', w', hr, A⟩ := appA Try.underlying25 inf28 rfl (by decide) row hB.size (a := a) (c := c) (m := lv.length - (k + 1)) (ys := ((lv.drop (k + 1)).map spC).flatten) (by rw [spC_flat, hdl]) hx spC_one (by unfold maxLen; omega) (by omega) ty
  obtain ⟨o', c', rfl⟩ := A.shape
  have r2 := A.row
  have hlen : (lv.take k ++ lv.drop (k + 1)).length = k + (lv.length - (k + 1)) := by rw [List.length_append, List.length_take, hdl]; omega
  have hB2 : Below W.heap.size W w' := A.below hB hB.size (fun b e => (row.lt b e).1)
  have nm := L.hm.ok.num hp L.lv.big
  refine ⟨_, w', hr, o', c', by rw [hlen], L.hm.kt (KT.below hB2), ⟨?_, nm.1, nm.2, L.lv.big⟩, L.below.trans (hB2.mono L.below.size)⟩
  rw [hlen, List.map_append, List.flatten_append]
  exact ownsRow_mono r2 L.below.size
end
theorem el25 : Try.prog.underlying 25 = some (.slice (Try.prog.elem 25)) := by kernel_rfl
theorem elem25 : Try.prog.elem 25 = 28 := by kernel_rfl
theorem slice_l {g len cap k : Nat} (h1 : k + 1 ≤ len) (h2 : ¬ cap = k + 1) (w : World) : (Instr.slice 25 (.slice (some ⟨g, 0, none⟩) len cap) (some (.int .i64 ((k : Int) + 1))) none none).run Try.prog w = .ok (.slice (some ⟨g, (k + 1) * 2, none⟩) (len - (k + 1)) (cap - (k + 1))) w := by
  obtain ⟨i0, hi0, hz0, hz1, hz2⟩ := info_parts inf28
  have e1 : ((k : Int) + 1).toNat = k + 1 := by omega
  rw [run_slice_l (P := Try.prog) (w := w) (t := 25) (a := some ⟨g, 0, none⟩) (len := len) (cap := cap) el25 .i64 ((k : Int) + 1) (by omega) (by omega), elem25]
  simp [sizeOf, typeInfo, hi0, hz1, sliced, e1, h2, Addr.add]
theorem count_p {w0 w : World} {hb : Nat} {N : Int} {bs lv : List (Int × Int)} {lo : Option Addr} {lc : Nat} (L : LQ w0 w hb N bs lv lo lc) (hp : lv.Perm bs) : Calls Try.prog 10 #[.pointer (some ⟨hb, 0, none⟩)] w (fun e w' => e = .returned (.int .i64 lv.length) ∧ w' = w) := by
  have := count_q L
  rw [← hp.length_eq] at this
  exact this
end Go.Proofs.Ytohhmcpaajcplaa
