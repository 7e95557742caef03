/- Rows of numbers that are the same. -/
import Derived.Test.YtflifialjdhenaaMba
namespace Go.Proofs.Ytflifialjdhenaa
open Go.RowKit
set_option linter.all false
/-- The numbers of a row. -/
theorem ints_at {w : World} {base n : Nat} {v : Value} {zs : List Int} (h : w.ownsRow base 3 1 v n (zs.map (Value.int .i64))) (hn : zs.length = n) {i : Nat} {x : Int} (hx : zs[i]? = some x) : ∃ g c, v = .slice (some ⟨g, 0, none⟩) n c ∧ g < w.heap.size ∧ w.cell? ⟨g, i, none⟩ = some (.int .i64 x) := by
  have e : zs.map (Value.int .i64) = (zs.map (fun x => [Value.int .i64 x])).flatten := by
    clear hn hx h
    induction zs with
    | nil => rfl
    | cons a t ih => simp [ih]
  rw [e] at h
  obtain ⟨g, c, e1, hl, _, hc⟩ := ownsRow_nth h (by simpa using hn) (fun x hx => by obtain ⟨y, _, rfl⟩ := List.mem_map.1 hx; rfl) (i := i) (x := [Value.int .i64 x]) (by rw [List.getElem?_map, hx]; rfl)
  refine ⟨g, c, e1, hl, ?_⟩
  have := hc 0 (by decide)
  simpa using this
set_option maxRecDepth 100000 in
set_option maxHeartbeats 1000000 in
theorem same7 {w : World} {o1 o2 : Option Addr} {c1 c2 : Nat} {zs : List Int} (hl : zs.length ≤ 1000000) (ha : ∀ i x, zs[i]? = some x → ∃ g, o1 = some ⟨g, 0, none⟩ ∧ g < w.heap.size ∧ w.cell? ⟨g, i, none⟩ = some (.int .i64 x)) (hb : ∀ i x, zs[i]? = some x → ∃ g, o2 = some ⟨g, 0, none⟩ ∧ g < w.heap.size ∧ w.cell? ⟨g, i, none⟩ = some (.int .i64 x)) : Calls Try.prog 7 #[.slice o1 zs.length c1, .slice o2 zs.length c2] w (fun e w' => e = .returned (.bool true) ∧ Below w.heap.size w w') := by
  have HA : Hid (∀ i x, zs[i]? = some x → ∃ g, o1 = some ⟨g, 0, none⟩ ∧ g < w.heap.size ∧ w.cell? ⟨g, i, none⟩ = some (.int .i64 x)) := ha
  have HB : Hid (∀ i x, zs[i]? = some x → ∃ g, o2 = some ⟨g, 0, none⟩ ∧ g < w.heap.size ∧ w.cell? ⟨g, i, none⟩ = some (.int .i64 x)) := hb
  clear ha hb
  go_enter Try.func7, Try.ntmps7
  go_wp2_with fail
  go_loopg [13] zs.length (fun gg u wr => ∃ idx : Nat, gg = zs.length - idx ∧ u = .int .i64 (idx : Int) ∧ idx ≤ zs.length ∧ Hid (Below w.heap.size w wr))
  case atStart => exact ⟨0, rfl, rfl, Nat.zero_le _, Below.refl _ _⟩
  case round =>
    obtain ⟨idx, hgk, rfl, hidx, HW⟩ := hrel
    have HG : Hid (gk = zs.length - idx) := hgk
    clear hgk
    by_cases hlt : idx < zs.length
    · have hltI : (idx : Int) < (zs.length : Int) := by omega
      obtain ⟨n, hn⟩ : ∃ n, zs[idx]? = some n := ⟨_, List.getElem?_eq_getElem hlt⟩
      obtain ⟨g1, rfl, hg1, e1⟩ := HA.out idx n hn
      obtain ⟨g2, rfl, hg2, e2⟩ := HB.out idx n hn
      have k1 : wr.cell? ⟨g1, idx, none⟩ = some (.int .i64 n) := (HW.out.cell (p := ⟨g1, idx, none⟩) hg1).trans e1
      have k2 : wr.cell? ⟨g2, idx, none⟩ = some (.int .i64 n) := (HW.out.cell (p := ⟨g2, idx, none⟩) hg2).trans e2
      have lg1 : g1 < wr.heap.size := Nat.lt_of_lt_of_le hg1 HW.out.size
      have lg2 : g2 < wr.heap.size := Nat.lt_of_lt_of_le hg2 HW.out.size
      clear hn hg1 hg2 e1 e2
      go_wp2_with fail
      go_region
      go_wp2_with fail
      go_roundg (zs.length - (idx + 1))
      case measure => rw [HG.out]; omega
      case rel => exact ⟨idx + 1, rfl, by go_num, hlt, HW.out.drew⟩
    · have hltI : ¬ (idx : Int) < (zs.length : Int) := by omega
      go_wp2_with fail
      go_ret
      exact ⟨rfl, HW.out⟩
end Go.Proofs.Ytflifialjdhenaa
namespace Go.Proofs.Ytflifialjdhenaa
open Go.RowKit
set_option linter.all false
theorem al2s (w : World) (a b : Obj) : ((w.alloc a).alloc b).heap.size = w.heap.size + 2 := by simp
set_option maxRecDepth 100000 in
set_option maxHeartbeats 1000000 in
theorem same4 {w : World} {o1 o2 p1 p2 : Option Addr} {c1 c2 d1 d2 : Nat} {zs ys : List Int} {how value steps left : Int} (hl : zs.length ≤ 1000000) (hy : ys.length ≤ 1000000) (ha : ∀ i x, zs[i]? = some x → ∃ g, o1 = some ⟨g, 0, none⟩ ∧ g < w.heap.size ∧ w.cell? ⟨g, i, none⟩ = some (.int .i64 x)) (hb : ∀ i x, zs[i]? = some x → ∃ g, o2 = some ⟨g, 0, none⟩ ∧ g < w.heap.size ∧ w.cell? ⟨g, i, none⟩ = some (.int .i64 x)) (hc : ∀ i x, ys[i]? = some x → ∃ g, p1 = some ⟨g, 0, none⟩ ∧ g < w.heap.size ∧ w.cell? ⟨g, i, none⟩ = some (.int .i64 x)) (hd : ∀ i x, ys[i]? = some x → ∃ g, p2 = some ⟨g, 0, none⟩ ∧ g < w.heap.size ∧ w.cell? ⟨g, i, none⟩ = some (.int .i64 x)) : Calls Try.prog 4 #[.agg #[.int .i64 how, .int .i64 0, .int .i64 value, .int .i64 steps, .slice o1 zs.length c1, .slice p1 ys.length d1, .int .i64 left, .int .i64 0], .agg #[.int .i64 how, .int .i64 0, .int .i64 value, .int .i64 steps, .slice o2 zs.length c2, .slice p2 ys.length d2, .int .i64 left, .int .i64 0]] w (fun e w' => e = .returned (.bool true) ∧ Below w.heap.size w w') := by
  have S1 : Hid (∀ {W : World}, Below w.heap.size w W → Calls Try.prog 7 #[.slice o1 zs.length c1, .slice o2 zs.length c2] W (fun e w' => e = .returned (.bool true) ∧ Below W.heap.size W w')) := fun {W} hW => same7 hl (fun i x hx => by
    obtain ⟨g, e, hg, k⟩ := ha i x hx
    exact ⟨g, e, Nat.lt_of_lt_of_le hg hW.size, (hW.cell (p := ⟨g, i, none⟩) hg).trans k⟩) (fun i x hx => by
    obtain ⟨g, e, hg, k⟩ := hb i x hx
    exact ⟨g, e, Nat.lt_of_lt_of_le hg hW.size, (hW.cell (p := ⟨g, i, none⟩) hg).trans k⟩)
  have S2 : Hid (∀ {W : World}, Below w.heap.size w W → Calls Try.prog 7 #[.slice p1 ys.length d1, .slice p2 ys.length d2] W (fun e w' => e = .returned (.bool true) ∧ Below W.heap.size W w')) := fun {W} hW => same7 hy (fun i x hx => by
    obtain ⟨g, e, hg, k⟩ := hc i x hx
    exact ⟨g, e, Nat.lt_of_lt_of_le hg hW.size, (hW.cell (p := ⟨g, i, none⟩) hg).trans k⟩) (fun i x hx => by
    obtain ⟨g, e, hg, k⟩ := hd i x hx
    exact ⟨g, e, Nat.lt_of_lt_of_le hg hW.size, (hW.cell (p := ⟨g, i, none⟩) hg).trans k⟩)
  have T : Hid (Below w.heap.size w ((w.alloc (.cells #[.int .i64 how, .int .i64 0, .int .i64 value, .int .i64 steps, .slice o1 zs.length c1, .slice p1 ys.length d1, .int .i64 left, .int .i64 0] 26)).alloc (.cells #[.int .i64 how, .int .i64 0, .int .i64 value, .int .i64 steps, .slice o2 zs.length c2, .slice p2 ys.length d2, .int .i64 left, .int .i64 0] 26)) ∧ ((w.alloc (.cells #[.int .i64 how, .int .i64 0, .int .i64 value, .int .i64 steps, .slice o1 zs.length c1, .slice p1 ys.length d1, .int .i64 left, .int .i64 0] 26)).alloc (.cells #[.int .i64 how, .int .i64 0, .int .i64 value, .int .i64 steps, .slice o2 zs.length c2, .slice p2 ys.length d2, .int .i64 left, .int .i64 0] 26)).heap[w.heap.size]? = some (.cells #[.int .i64 how, .int .i64 0, .int .i64 value, .int .i64 steps, .slice o1 zs.length c1, .slice p1 ys.length d1, .int .i64 left, .int .i64 0] 26 (0, 0)) ∧ ((w.alloc (.cells #[.int .i64 how, .int .i64 0, .int .i64 value, .int .i64 steps, .slice o1 zs.length c1, .slice p1 ys.length d1, .int .i64 left, .int .i64 0] 26)).alloc (.cells #[.int .i64 how, .int .i64 0, .int .i64 value, .int .i64 steps, .slice o2 zs.length c2, .slice p2 ys.length d2, .int .i64 left, .int .i64 0] 26)).heap[w.heap.size + 1]? = some (.cells #[.int .i64 how, .int .i64 0, .int .i64 value, .int .i64 steps, .slice o2 zs.length c2, .slice p2 ys.length d2, .int .i64 left, .int .i64 0] 26 (0, 0)) ∧ ((w.alloc (.cells #[.int .i64 how, .int .i64 0, .int .i64 value, .int .i64 steps, .slice o1 zs.length c1, .slice p1 ys.length d1, .int .i64 left, .int .i64 0] 26)).alloc (.cells #[.int .i64 how, .int .i64 0, .int .i64 value, .int .i64 steps, .slice o2 zs.length c2, .slice p2 ys.length d2, .int .i64 left, .int .i64 0] 26)).heap.size = w.heap.size + 2) := by
    exact ⟨(al2 w _ _).1, (al2 w _ _).2.1, (al2 w _ _).2.2, al2s w _ _⟩
  have ST : Hid (∀ {W : World}, Below ((w.alloc (.cells #[.int .i64 how, .int .i64 0, .int .i64 value, .int .i64 steps, .slice o1 zs.length c1, .slice p1 ys.length d1, .int .i64 left, .int .i64 0] 26)).alloc (.cells #[.int .i64 how, .int .i64 0, .int .i64 value, .int .i64 steps, .slice o2 zs.length c2, .slice p2 ys.length d2, .int .i64 left, .int .i64 0] 26)).heap.size ((w.alloc (.cells #[.int .i64 how, .int .i64 0, .int .i64 value, .int .i64 steps, .slice o1 zs.length c1, .slice p1 ys.length d1, .int .i64 left, .int .i64 0] 26)).alloc (.cells #[.int .i64 how, .int .i64 0, .int .i64 value, .int .i64 steps, .slice o2 zs.length c2, .slice p2 ys.length d2, .int .i64 left, .int .i64 0] 26)) W → Below w.heap.size w W ∧ (∀ o, W.cell? ⟨w.heap.size, o, none⟩ = (#[.int .i64 how, .int .i64 0, .int .i64 value, .int .i64 steps, .slice o1 zs.length c1, .slice p1 ys.length d1, .int .i64 left, .int .i64 0] : Array Value)[o]?) ∧ (∀ o, W.cell? ⟨w.heap.size + 1, o, none⟩ = (#[.int .i64 how, .int .i64 0, .int .i64 value, .int .i64 steps, .slice o2 zs.length c2, .slice p2 ys.length d2, .int .i64 left, .int .i64 0] : Array Value)[o]?) ∧ w.heap.size < W.heap.size ∧ w.heap.size + 1 < W.heap.size) := fun {W} hW => by
    obtain ⟨t1, t2, t3, t4⟩ := T.out
    refine ⟨t1.trans (hW.mono (by rw [t4]; omega)), fun o => cell_of_row W _ o _ 26 (0, 0) ((hW.block _ (by rw [t4]; omega)).trans t2), fun o => cell_of_row W _ o _ 26 (0, 0) ((hW.block _ (by rw [t4]; omega)).trans t3), ?_, ?_⟩ <;> (have := hW.size; omega)
  clear ha hb hc hd hl hy
  go_enter Try.func4, Try.ntmps4
  go_wp2_with (first
    | (go_at_call 7; refine (S2.out (ST.out hb1).1).mono ?_; rintro e w2 ⟨rfl, hb2⟩; obtain ⟨-, q1, q2, m1, m2⟩ := ST.out (hb1.trans (hb2.mono hb1.size)))
    | (go_at_call 7; refine (S1.out T.out.1).mono ?_; rintro e w1 ⟨rfl, hb1⟩; obtain ⟨-, k1, k2, l1, l2⟩ := ST.out hb1))
  go_ret
  exact ⟨rfl, (ST.out (hb1.trans (hb2.mono hb1.size))).1⟩
end Go.Proofs.Ytflifialjdhenaa
