/- HeapApart: what the law holds while it goes on. -/
import Derived.Test.YtohhmcpaajcplaaGpb
namespace Go.Proofs.Ytohhmcpaajcplaa
open Go.RowKit
set_option linter.all false
/-- The heap, the spans that were handed out, and what was there before. -/
structure LQ (w0 w : World) (hb : Nat) (N : Int) (bs lv : List (Int × Int)) (lo : Option Addr) (lc : Nat) : Prop where
  hm : HM w w0.heap.size hb N bs
  lv : LV w w0.heap.size lo lc N lv
  below : Below w0.heap.size w0 w
/-- And a span in a block of its own. -/
structure LB (w0 w : World) (hb : Nat) (N : Int) (bs lv : List (Int × Int)) (lo : Option Addr) (lc : Nat) (bb : Nat) (a z : Int) : Prop where
  q : LQ w0 w hb N bs lv lo lc
  bk : w.heap[bb]? = some (.cells #[.int .i64 a, .int .i64 z] 28 (0, 0))
section
variable {w0 w w' : World} {hb : Nat} {N : Int} {bs bs' lv : List (Int × Int)} {lo : Option Addr} {lc bb : Nat} {a z : Int}
theorem LQ.post {v : Value} {e : Ending} (L : LQ w0 w hb N bs lv lo lc) (P : HmPost w w0.heap.size hb N v bs' e w') : e = .returned v ∧ LQ w0 w' hb N bs' lv lo lc := ⟨P.1, P.2.1, L.lv.kt P.2.2.2, L.below.trans P.2.2.1⟩
theorem LB.post {v : Value} {e : Ending} (L : LB w0 w hb N bs lv lo lc bb a z) (P : HmPost w w0.heap.size hb N v bs' e w') : e = .returned v ∧ LB w0 w' hb N bs' lv lo lc bb a z := ⟨P.1, (L.q.post P).2, heap_kt' P.2.2.2 L.bk ⟨by decide, by decide⟩⟩
theorem LQ.drewN (L : LQ w0 w hb N bs lv lo lc) (n : Nat) : LQ w0 (w.drewN n) hb N bs lv lo lc := ⟨L.hm.drewN n, ⟨L.lv.row, L.lv.few, L.lv.num, L.lv.big⟩, ⟨L.below.os, L.below.tape, L.below.output, L.below.size, L.below.block⟩⟩
theorem LB.drewN (L : LB w0 w hb N bs lv lo lc bb a z) (n : Nat) : LB w0 (w.drewN n) hb N bs lv lo lc bb a z := ⟨L.q.drewN n, L.bk⟩
theorem LQ.alloc (L : LQ w0 w hb N bs lv lo lc) (o : Obj) : LQ w0 (w.alloc o) hb N bs lv lo lc :=
  have k := (al1 w o).1
  ⟨L.hm.kt (KT.below k), L.lv.below k, L.below.trans (k.mono L.below.size)⟩
theorem LB.mk' (L : LQ w0 w hb N bs lv lo lc) (a z : Int) : LB w0 (w.alloc (.cells #[.int .i64 a, .int .i64 z] 28)) hb N bs lv lo lc w.heap.size a z := ⟨L.alloc _, (al1 w _).2⟩
theorem LB.cells (L : LB w0 w hb N bs lv lo lc bb a z) : w.cell? ⟨bb, 0, none⟩ = some (.int .i64 a) ∧ w.cell? ⟨bb, 1, none⟩ = some (.int .i64 z) ∧ bb < w.heap.size := ⟨cell_of_row w _ 0 _ 28 (0, 0) L.bk, cell_of_row w _ 1 _ 28 (0, 0) L.bk, (Array.getElem?_eq_some_iff.1 L.bk).1⟩
theorem has_b (L : LB w0 w hb N bs lv lo lc bb a z) {t : Int} (ht : I64 t) {v : Bool} (hv : hhas bs t = v) : Calls Try.prog 6 #[.pointer (some ⟨hb, 0, none⟩), .int .i64 t] w (fun e w' => e = .returned (.bool v) ∧ LB w0 w' hb N bs lv lo lc bb a z) := by
  refine (has6 L.q.hm ht).mono ?_
  rintro e w' ⟨rfl, k, rfl⟩
  exact ⟨by rw [hv], L.drewN k⟩
theorem free_t (L : LB w0 w hb N bs lv lo lc bb a z) {t : Int} (ht : I64 t) (hf : hfree bs t = some bs') : Calls Try.prog 7 #[.pointer (some ⟨hb, 0, none⟩), .int .i64 t] w (fun e w' => e = .returned (.bool true) ∧ LB w0 w' hb N bs' lv lo lc bb a z) := by
  refine (free7 L.q.hm ht).mono ?_
  intro e w' P
  have := L.post P
  unfold freeV freeB at this
  rw [hf] at this
  exact this
theorem free_f (L : LB w0 w hb N bs lv lo lc bb a z) {t : Int} (ht : I64 t) (hf : hfree bs t = none) : Calls Try.prog 7 #[.pointer (some ⟨hb, 0, none⟩), .int .i64 t] w (fun e w' => e = .returned (.bool false) ∧ LB w0 w' hb N bs lv lo lc bb a z) := by
  refine (free7 L.q.hm ht).mono ?_
  intro e w' P
  have := L.post P
  unfold freeV freeB at this
  rw [hf] at this
  exact this
theorem alloc_t (L : LQ w0 w hb N bs lv lo lc) {n p : Int} (hn : I64 n) (ha : halloc N bs n = some (p, bs')) : Calls Try.prog 8 #[.pointer (some ⟨hb, 0, none⟩), .int .i64 n] w (fun e w' => e = .returned (.tuple #[.int .i64 p, .bool true]) ∧ LQ w0 w' hb N bs' lv lo lc) := by
  refine (alloc8 L.hm L.below.size hn).mono ?_
  intro e w' P
  have := L.post P
  unfold allocV allocB at this
  rw [ha] at this
  exact this
theorem alloc_f (L : LQ w0 w hb N bs lv lo lc) {n : Int} (hn : I64 n) (ha : halloc N bs n = none) : Calls Try.prog 8 #[.pointer (some ⟨hb, 0, none⟩), .int .i64 n] w (fun e w' => e = .returned (.tuple #[.int .i64 0, .bool false]) ∧ LQ w0 w' hb N bs lv lo lc) := by
  refine (alloc8 L.hm L.below.size hn).mono ?_
  intro e w' P
  have := L.post P
  unfold allocV allocB at this
  rw [ha] at this
  exact this
theorem gap_q (L : LQ w0 w hb N bs lv lo lc) (hp : lv.Perm bs) {n : Int} (hn : I64 n) {v : Bool} (hv : (halloc N bs n).isSome = v) {bs' : List (Int × Int)} {w2 : World} (L2 : LQ w0 w2 hb N bs' lv lo lc) : Calls Try.prog 9 #[.int .i64 N, .slice lo lv.length lc, .int .i64 n] w2 (fun e w' => e = .returned (.bool v) ∧ LQ w0 w' hb N bs' lv lo lc) := by
  refine (gap9 L2.lv hn).mono ?_
  rintro e w' ⟨rfl, k⟩
  exact ⟨by rw [gap_eq L.hm.ok hp, hv], L2.hm.kt (KT.below k), L2.lv.below k, L2.below.trans (k.mono L2.below.size)⟩
theorem count_q (L : LQ w0 w hb N bs lv lo lc) : Calls Try.prog 10 #[.pointer (some ⟨hb, 0, none⟩)] w (fun e w' => e = .returned (.int .i64 bs.length) ∧ w' = w) := count10 L.hm
end
theorem inf28 : (Try.prog.info? 28).map (fun i => (i.zero, i.size, i.bytes)) = some (some (.agg #[.int .i64 0, .int .i64 0]), 2, 16) := by kernel_rfl
theorem spC_flat {lv : List (Int × Int)} : (lv.map spC).flatten.length = lv.length * 2 := by
  induction lv with
  | nil => rfl
  | cons x r ih => simp only [List.map_cons, List.flatten_cons, List.length_append, ih, List.length_cons]; show 2 + _ = _; omega
theorem HOK.num {N : Int} {bs lv : List (Int × Int)} (h : HOK N 1 bs) (hp : lv.Perm bs) (hN : 1 ≤ N ∧ N ≤ 1000000000) : lv.length ≤ 1000000000 ∧ ∀ x ∈ lv, 1 ≤ x.1 ∧ 1 ≤ x.2 ∧ x.1 + x.2 ≤ N + 1 := by
  have hl := h.len
  rw [← hp.length_eq] at hl
  refine ⟨by omega, fun x hx => ?_⟩
  obtain ⟨i, hi⟩ := List.getElem?_of_mem (hp.mem_iff.1 hx)
  have := h.at (a := x.1) (s := x.2) hi
  omega
/-- One span more. -/
theorem run_span {w0 w : World} {hb : Nat} {N : Int} {bs lv : List (Int × Int)} {lo : Option Addr} {lc : Nat} (L : LQ w0 w hb N bs lv lo lc) {p n : Int} (hp : (lv ++ [(p, n)]).Perm bs) (ty : TypeId) {ad : Nat} (had : ad = w.heap.size) :
    ∃ v' w', (Builtin.append_ #[25, 25] ty #[.slice lo lv.length lc, .slice (some ⟨ad, 0, none⟩) 1 1]).run Try.prog (w.alloc (.cells #[.int .i64 p, .int .i64 n] 28)) = .ok v' w' ∧ ∃ lo' lc', v' = .slice lo' (lv ++ [(p, n)]).length lc' ∧ LQ w0 w' hb N bs (lv ++ [(p, n)]) lo' lc' := by
  have nm := L.hm.ok.num hp L.lv.big
  have hl := nm.1
  simp at hl
  obtain ⟨v', w', hr, A⟩ := app1 (W := w) Try.underlying25 inf28 rfl (by decide) L.lv.row L.below.size #[.int .i64 p, .int .i64 n] rfl (fun u hu => by simp at hu; rcases hu with rfl | rfl <;> rfl) (by unfold maxLen; omega) (by omega) ty had
  obtain ⟨o', c', rfl⟩ := A.shape
  have r2 := A.row
  have e2 : (lv ++ [(p, n)]).length = lv.length + 1 := by simp
  have La := L.alloc (.cells #[.int .i64 p, .int .i64 n] 28)
  have hk : KT (fun t => t = 38 ∨ t = 41) (w.alloc (.cells #[.int .i64 p, .int .i64 n] 28)) w' := fun b c t y hb ht => A.grown.block b (Array.getElem?_eq_some_iff.1 hb).1 (fun e => by
    obtain ⟨c2, h2⟩ := own_heap L.lv.row e.symm
    have h3 := (Below.heap_alloc w (.cells #[.int .i64 p, .int .i64 n] 28) b (Array.getElem?_eq_some_iff.1 h2).1).trans h2
    rw [hb] at h3
    have := Option.some.inj h3
    injection this with _ h4
    subst h4
    rcases ht with h | h <;> exact absurd h (by decide))
  refine ⟨_, w', hr, o', c', by rw [e2], La.hm.kt hk, ⟨?_, nm.1, nm.2, L.lv.big⟩, A.below La.below (by simp; have := L.below.size; omega) (fun b e => (L.lv.row.lt b e).1)⟩
  rw [e2, List.map_append, List.flatten_append]
  exact r2
end Go.Proofs.Ytohhmcpaajcplaa
