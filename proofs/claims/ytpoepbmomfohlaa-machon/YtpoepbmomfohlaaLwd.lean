/- Two outcomes that are the same, but for their steps. -/
import Derived.Test.YtpoepbmomfohlaaLwa
import Derived.Test.YtpoepbmomfohlaaLwc
import Derived.Test.YtpoepbmomfohlaaMoa
namespace Go.Proofs.Ytpoepbmomfohlaa
open Go.RowKit
set_option linter.all false
theorem al2s (w : World) (a b : Obj) : ((w.alloc a).alloc b).heap.size = w.heap.size + 2 := by simp
set_option maxRecDepth 100000 in
set_option maxHeartbeats 1000000 in
theorem out5 {w : World} {o1 o2 p1 p2 : Option Addr} {c1 c2 d1 d2 : Nat} {zs ys : List Int} {how value steps left : Int} (hl : zs.length ≤ 1000000) (hy : ys.length ≤ 1000000) (ha : ∀ i x, zs[i]? = some x → ∃ g, o1 = some ⟨g, 0, none⟩ ∧ g < w.heap.size ∧ w.cell? ⟨g, i, none⟩ = some (.int .i64 x)) (hb : ∀ i x, zs[i]? = some x → ∃ g, o2 = some ⟨g, 0, none⟩ ∧ g < w.heap.size ∧ w.cell? ⟨g, i, none⟩ = some (.int .i64 x)) (hc : ∀ i x, ys[i]? = some x → ∃ g, p1 = some ⟨g, 0, none⟩ ∧ g < w.heap.size ∧ w.cell? ⟨g, i, none⟩ = some (.int .i64 x)) (hd : ∀ i x, ys[i]? = some x → ∃ g, p2 = some ⟨g, 0, none⟩ ∧ g < w.heap.size ∧ w.cell? ⟨g, i, none⟩ = some (.int .i64 x)) : Calls Try.prog 5 #[.agg #[.int .i64 how, .int .i64 0, .int .i64 value, .int .i64 steps, .slice o1 zs.length c1, .slice p1 ys.length d1, .int .i64 left, .int .i64 0], .agg #[.int .i64 how, .int .i64 0, .int .i64 value, .int .i64 steps, .slice o2 zs.length c2, .slice p2 ys.length d2, .int .i64 left, .int .i64 0]] w (fun e w' => e = .returned (.bool true) ∧ Below w.heap.size w w') := by
  have HA : Hid (∀ i x, zs[i]? = some x → ∃ g, o1 = some ⟨g, 0, none⟩ ∧ g < w.heap.size ∧ w.cell? ⟨g, i, none⟩ = some (.int .i64 x)) := ha
  have HB : Hid (∀ i x, zs[i]? = some x → ∃ g, o2 = some ⟨g, 0, none⟩ ∧ g < w.heap.size ∧ w.cell? ⟨g, i, none⟩ = some (.int .i64 x)) := hb
  have HC : Hid (∀ i x, ys[i]? = some x → ∃ g, p1 = some ⟨g, 0, none⟩ ∧ g < w.heap.size ∧ w.cell? ⟨g, i, none⟩ = some (.int .i64 x)) := hc
  have HD : Hid (∀ i x, ys[i]? = some x → ∃ g, p2 = some ⟨g, 0, none⟩ ∧ g < w.heap.size ∧ w.cell? ⟨g, i, none⟩ = some (.int .i64 x)) := hd
  have T : Hid (Below w.heap.size w ((w.alloc (.cells #[.int .i64 how, .int .i64 0, .int .i64 value, .int .i64 steps, .slice o1 zs.length c1, .slice p1 ys.length d1, .int .i64 left, .int .i64 0] 25)).alloc (.cells #[.int .i64 how, .int .i64 0, .int .i64 value, .int .i64 steps, .slice o2 zs.length c2, .slice p2 ys.length d2, .int .i64 left, .int .i64 0] 25)) ∧ ((w.alloc (.cells #[.int .i64 how, .int .i64 0, .int .i64 value, .int .i64 steps, .slice o1 zs.length c1, .slice p1 ys.length d1, .int .i64 left, .int .i64 0] 25)).alloc (.cells #[.int .i64 how, .int .i64 0, .int .i64 value, .int .i64 steps, .slice o2 zs.length c2, .slice p2 ys.length d2, .int .i64 left, .int .i64 0] 25)).heap[w.heap.size]? = some (.cells #[.int .i64 how, .int .i64 0, .int .i64 value, .int .i64 steps, .slice o1 zs.length c1, .slice p1 ys.length d1, .int .i64 left, .int .i64 0] 25 (0, 0)) ∧ ((w.alloc (.cells #[.int .i64 how, .int .i64 0, .int .i64 value, .int .i64 steps, .slice o1 zs.length c1, .slice p1 ys.length d1, .int .i64 left, .int .i64 0] 25)).alloc (.cells #[.int .i64 how, .int .i64 0, .int .i64 value, .int .i64 steps, .slice o2 zs.length c2, .slice p2 ys.length d2, .int .i64 left, .int .i64 0] 25)).heap[w.heap.size + 1]? = some (.cells #[.int .i64 how, .int .i64 0, .int .i64 value, .int .i64 steps, .slice o2 zs.length c2, .slice p2 ys.length d2, .int .i64 left, .int .i64 0] 25 (0, 0)) ∧ ((w.alloc (.cells #[.int .i64 how, .int .i64 0, .int .i64 value, .int .i64 steps, .slice o1 zs.length c1, .slice p1 ys.length d1, .int .i64 left, .int .i64 0] 25)).alloc (.cells #[.int .i64 how, .int .i64 0, .int .i64 value, .int .i64 steps, .slice o2 zs.length c2, .slice p2 ys.length d2, .int .i64 left, .int .i64 0] 25)).heap.size = w.heap.size + 2) := by
    exact ⟨(al2 w _ _).1, (al2 w _ _).2.1, (al2 w _ _).2.2, al2s w _ _⟩
  have ST : Hid (∀ {W : World}, Below (w.heap.size + 2) ((w.alloc (.cells #[.int .i64 how, .int .i64 0, .int .i64 value, .int .i64 steps, .slice o1 zs.length c1, .slice p1 ys.length d1, .int .i64 left, .int .i64 0] 25)).alloc (.cells #[.int .i64 how, .int .i64 0, .int .i64 value, .int .i64 steps, .slice o2 zs.length c2, .slice p2 ys.length d2, .int .i64 left, .int .i64 0] 25)) W → Below w.heap.size w W ∧ (∀ o, W.cell? ⟨w.heap.size, o, none⟩ = (#[.int .i64 how, .int .i64 0, .int .i64 value, .int .i64 steps, .slice o1 zs.length c1, .slice p1 ys.length d1, .int .i64 left, .int .i64 0] : Array Value)[o]?) ∧ (∀ o, W.cell? ⟨w.heap.size + 1, o, none⟩ = (#[.int .i64 how, .int .i64 0, .int .i64 value, .int .i64 steps, .slice o2 zs.length c2, .slice p2 ys.length d2, .int .i64 left, .int .i64 0] : Array Value)[o]?) ∧ w.heap.size < W.heap.size ∧ w.heap.size + 1 < W.heap.size) := fun {W} hW => by
    obtain ⟨t1, t2, t3, t4⟩ := T.out
    refine ⟨t1.trans (hW.mono (by omega)), fun o => cell_of_row W _ o _ 25 (0, 0) ((hW.block _ (by omega)).trans t2), fun o => cell_of_row W _ o _ 25 (0, 0) ((hW.block _ (by omega)).trans t3), ?_, ?_⟩ <;> (have := hW.size; omega)
  clear ha hb hc hd
  go_enter Try.func5, Try.ntmps5
  go_wp2_with fail
  go_loopg [61] zs.length (fun gg u wr => ∃ idx : Nat, gg = zs.length - idx ∧ u = .int .i64 (idx : Int) ∧ idx ≤ zs.length ∧ Hid (Below (w.heap.size + 2) ((w.alloc (.cells #[.int .i64 how, .int .i64 0, .int .i64 value, .int .i64 steps, .slice o1 zs.length c1, .slice p1 ys.length d1, .int .i64 left, .int .i64 0] 25)).alloc (.cells #[.int .i64 how, .int .i64 0, .int .i64 value, .int .i64 steps, .slice o2 zs.length c2, .slice p2 ys.length d2, .int .i64 left, .int .i64 0] 25)) wr))
  case atStart => exact ⟨0, rfl, rfl, Nat.zero_le _, Below.refl _ _⟩
  case round =>
    obtain ⟨idx, hgk, rfl, hidx, HW61⟩ := hrel
    have HG : Hid (gk = zs.length - idx) := hgk
    clear hgk
    obtain ⟨hbw, q1, q2, m1, m2⟩ := ST.out HW61.out
    have HBw : Hid (Below w.heap.size w wr) := hbw
    clear hbw
    by_cases hlt : idx < zs.length
    · have hltI : (idx : Int) < (zs.length : Int) := by omega
      obtain ⟨n, hn⟩ : ∃ n, zs[idx]? = some n := ⟨_, List.getElem?_eq_getElem hlt⟩
      obtain ⟨g1, rfl, hg1, e1⟩ := HA.out idx n hn
      obtain ⟨g2, rfl, hg2, e2⟩ := HB.out idx n hn
      have k1 : wr.cell? ⟨g1, idx, none⟩ = some (.int .i64 n) := (HBw.out.cell (p := ⟨g1, idx, none⟩) hg1).trans e1
      have k2 : wr.cell? ⟨g2, idx, none⟩ = some (.int .i64 n) := (HBw.out.cell (p := ⟨g2, idx, none⟩) hg2).trans e2
      have lg1 : g1 < wr.heap.size := Nat.lt_of_lt_of_le hg1 HBw.out.size
      have lg2 : g2 < wr.heap.size := Nat.lt_of_lt_of_le hg2 HBw.out.size
      clear hn hg1 hg2 e1 e2
      go_wp2_with fail
      go_region
      go_wp2_with fail
      go_roundg (zs.length - (idx + 1))
      case measure => rw [HG.out]; omega
      case rel => exact ⟨idx + 1, rfl, by go_num, hlt, HW61.out.drew⟩
    · have hltI : ¬ (idx : Int) < (zs.length : Int) := by omega
      clear HG hidx
      go_wp2_with fail
      go_loopg [79] ys.length (fun gg u wr => ∃ idx : Nat, gg = ys.length - idx ∧ u = .int .i64 (idx : Int) ∧ idx ≤ ys.length ∧ Hid (Below (w.heap.size + 2) ((w.alloc (.cells #[.int .i64 how, .int .i64 0, .int .i64 value, .int .i64 steps, .slice o1 zs.length c1, .slice p1 ys.length d1, .int .i64 left, .int .i64 0] 25)).alloc (.cells #[.int .i64 how, .int .i64 0, .int .i64 value, .int .i64 steps, .slice o2 zs.length c2, .slice p2 ys.length d2, .int .i64 left, .int .i64 0] 25)) wr))
      case atStart => exact ⟨0, rfl, rfl, Nat.zero_le _, HW61.out⟩
      case round =>
        obtain ⟨idx, hgk, rfl, hidx, HW79⟩ := hrel
        have HG : Hid (gk = ys.length - idx) := hgk
        clear hgk
        obtain ⟨hbw, q1, q2, m1, m2⟩ := ST.out HW79.out
        have HBw : Hid (Below w.heap.size w wr) := hbw
        clear hbw
        by_cases hlt : idx < ys.length
        · have hltI : (idx : Int) < (ys.length : Int) := by omega
          obtain ⟨n, hn⟩ : ∃ n, ys[idx]? = some n := ⟨_, List.getElem?_eq_getElem hlt⟩
          obtain ⟨g1, rfl, hg1, e1⟩ := HC.out idx n hn
          obtain ⟨g2, rfl, hg2, e2⟩ := HD.out idx n hn
          have k1 : wr.cell? ⟨g1, idx, none⟩ = some (.int .i64 n) := (HBw.out.cell (p := ⟨g1, idx, none⟩) hg1).trans e1
          have k2 : wr.cell? ⟨g2, idx, none⟩ = some (.int .i64 n) := (HBw.out.cell (p := ⟨g2, idx, none⟩) hg2).trans e2
          have lg1 : g1 < wr.heap.size := Nat.lt_of_lt_of_le hg1 HBw.out.size
          have lg2 : g2 < wr.heap.size := Nat.lt_of_lt_of_le hg2 HBw.out.size
          clear hn hg1 hg2 e1 e2
          go_wp2_with fail
          go_region
          go_wp2_with fail
          go_roundg (ys.length - (idx + 1))
          case measure => rw [HG.out]; omega
          case rel => exact ⟨idx + 1, rfl, by go_num, hlt, HW79.out.drew⟩
        · have hltI : ¬ (idx : Int) < (ys.length : Int) := by omega
          clear HG hidx
          go_wp2_with fail
          go_ret
          exact ⟨rfl, HBw.out⟩
end Go.Proofs.Ytpoepbmomfohlaa
namespace Go.Proofs.Ytpoepbmomfohlaa
open Go.RowKit
set_option linter.all false
set_option maxRecDepth 100000 in
set_option maxHeartbeats 1000000 in
theorem law3_out {w : World} {co : Option Addr} {cc cl : Nat} {po : Option Addr} {pl pc : Nat} {arg fuel more : Int} (h : fuel < 0 ∨ 20000 < fuel ∨ more < 0 ∨ 20000 < more) : Calls Try.prog 3 #[.slice co cl cc, .int .i64 arg, .int .i64 fuel, .int .i64 more, .slice po pl pc] w (fun e w' => e = .returned (.bool true) ∧ Below w.heap.size w w') := by
  by_cases h1 : fuel < 0
  · clear h
    go_enter Try.func3, Try.ntmps3
    go_wp2_with fail
    go_ret
    exact ⟨rfl, Below.refl _ _⟩
  by_cases h2 : 20000 < fuel
  · clear h
    go_enter Try.func3, Try.ntmps3
    go_wp2_with fail
    go_ret
    exact ⟨rfl, Below.refl _ _⟩
  by_cases h3 : more < 0
  · clear h
    go_enter Try.func3, Try.ntmps3
    go_wp2_with fail
    go_ret
    exact ⟨rfl, Below.refl _ _⟩
  have h4 : 20000 < more := by omega
  clear h
  go_enter Try.func3, Try.ntmps3
  go_wp2_with fail
  go_ret
  exact ⟨rfl, Below.refl _ _⟩
theorem pre_at {a b : List Int} (h : a <+: b) {i : Nat} {x : Int} (hx : a[i]? = some x) : b[i]? = some x := by
  obtain ⟨t, rfl⟩ := h
  rw [List.getElem?_append_left (List.getElem?_eq_some_iff.1 hx).1]
  exact hx
set_option maxRecDepth 100000 in
set_option maxHeartbeats 1000000 in
theorem law3_in {w : World} {co : Option Addr} {cc : Nat} {code : List Mi} {po : Option Addr} {pl pc : Nat} {picks : List Int} {arg fuel more : Int} (harg : I64 arg) (h1 : ¬ fuel < 0) (h2 : ¬ 20000 < fuel) (h3 : ¬ more < 0) (h4 : ¬ 20000 < more) (cd : CD w w.heap.size co code) (c64 : ∀ x ∈ code, x.ok) (pk : PK w w.heap.size (.slice po pl pc) picks) : Calls Try.prog 3 #[.slice co code.length cc, .int .i64 arg, .int .i64 fuel, .int .i64 more, .slice po pl pc] w (fun e w' => e = .returned (.bool true) ∧ Below w.heap.size w w') := by
  have on := runM_on code picks (F := fuel) (F' := fuel + more) (by omega) (fuel.toNat + 1) 0 ((fuel + more).toNat + 1) (Mc.init arg) (by show (0 : Int) ≤ fuel; omega) (by show fuel.toNat + 1 = (fuel - 0).toNat + 1; rw [Int.sub_zero]) (by show (fuel + more).toNat + 1 = (fuel + more - 0).toNat + 1; rw [Int.sub_zero])
  have R4 : Hid (∀ (F : Int), 0 ≤ F → F ≤ 100000 → ∀ W : World, Below w.heap.size w W → Calls Try.prog 4 #[.slice co code.length cc, .int .i64 arg, .int .i64 F, .slice po pl pc] W (RunP W (runM code picks F (F.toNat + 1) 0 (Mc.init arg)))) := fun F f0 f1 W hW => by
    have := run5 (cc := cc) (fuel := F) harg f1 (cd.up hW hW.size) c64 (pk.up hW hW.size)
    rwa [show max F 0 = F from by omega] at this
  have RA := R4.out fuel (by omega) (by omega)
  have RB := R4.out (fuel + more) (by omega) (by omega)
  obtain ⟨A, hA⟩ : ∃ A, A = runM code picks fuel (fuel.toNat + 1) 0 (Mc.init arg) := ⟨_, rfl⟩
  obtain ⟨B, hB⟩ : ∃ B, B = runM code picks (fuel + more) ((fuel + more).toNat + 1) 0 (Mc.init arg) := ⟨_, rfl⟩
  rw [← hA, ← hB] at on
  rw [← hA] at RA
  rw [← hB] at RB
  have HRA : Hid _ := RA
  have HRB : Hid _ := RB
  have HON : Hid _ := on
  clear RA RB on hA hB R4 cd c64 pk harg
  go_enter Try.func3, Try.ntmps3
  go_upto_region 4 with (first
    | (go_at_call 4; refine (HRA.out _ (Below.refl _ _)).mono ?_; rintro e w1 ⟨o1, c1, o2, c2, rfl, r1, r2, hb1, l1, l2⟩; have H1 : Hid _ := And.intro r1 (And.intro r2 (And.intro hb1 (And.intro l1 l2))); clear r1 r2 hb1 l1 l2))
  have X1 : Hid (Below w.heap.size w (w1.alloc (.cells #[.int .i64 A.how, .int .i64 0, .int .i64 A.value, .int .i64 A.steps, .slice o1 A.outs.length c1, .slice o2 A.order.length c2, .int .i64 A.left, .int .i64 0] 25)) ∧ (w1.alloc (.cells #[.int .i64 A.how, .int .i64 0, .int .i64 A.value, .int .i64 A.steps, .slice o1 A.outs.length c1, .slice o2 A.order.length c2, .int .i64 A.left, .int .i64 0] 25)).heap[w1.heap.size]? = some (.cells #[.int .i64 A.how, .int .i64 0, .int .i64 A.value, .int .i64 A.steps, .slice o1 A.outs.length c1, .slice o2 A.order.length c2, .int .i64 A.left, .int .i64 0] 25 (0, 0)) ∧ w1.heap.size < (w1.alloc (.cells #[.int .i64 A.how, .int .i64 0, .int .i64 A.value, .int .i64 A.steps, .slice o1 A.outs.length c1, .slice o2 A.order.length c2, .int .i64 A.left, .int .i64 0] 25)).heap.size ∧ (∀ i x, A.outs[i]? = some x → ∃ g, o1 = some ⟨g, 0, none⟩ ∧ g < (w1.alloc (.cells #[.int .i64 A.how, .int .i64 0, .int .i64 A.value, .int .i64 A.steps, .slice o1 A.outs.length c1, .slice o2 A.order.length c2, .int .i64 A.left, .int .i64 0] 25)).heap.size ∧ (w1.alloc (.cells #[.int .i64 A.how, .int .i64 0, .int .i64 A.value, .int .i64 A.steps, .slice o1 A.outs.length c1, .slice o2 A.order.length c2, .int .i64 A.left, .int .i64 0] 25)).cell? ⟨g, i, none⟩ = some (.int .i64 x)) ∧ (∀ i x, A.order[i]? = some x → ∃ g, o2 = some ⟨g, 0, none⟩ ∧ g < (w1.alloc (.cells #[.int .i64 A.how, .int .i64 0, .int .i64 A.value, .int .i64 A.steps, .slice o1 A.outs.length c1, .slice o2 A.order.length c2, .int .i64 A.left, .int .i64 0] 25)).heap.size ∧ (w1.alloc (.cells #[.int .i64 A.how, .int .i64 0, .int .i64 A.value, .int .i64 A.steps, .slice o1 A.outs.length c1, .slice o2 A.order.length c2, .int .i64 A.left, .int .i64 0] 25)).cell? ⟨g, i, none⟩ = some (.int .i64 x)) ∧ A.outs.length ≤ 1000000 ∧ A.order.length ≤ 1000000) := by
    obtain ⟨r1, r2, hb1, l1, l2⟩ := H1.out
    have h := al1 w1 (.cells #[.int .i64 A.how, .int .i64 0, .int .i64 A.value, .int .i64 A.steps, .slice o1 A.outs.length c1, .slice o2 A.order.length c2, .int .i64 A.left, .int .i64 0] 25)
    exact ⟨hb1.trans (h.1.mono hb1.size), h.2, by simp, ints_g r1 h.1, ints_g r2 h.1, l1, l2⟩
  clear H1
  generalize w1.alloc (.cells #[.int .i64 A.how, .int .i64 0, .int .i64 A.value, .int .i64 A.steps, .slice o1 A.outs.length c1, .slice o2 A.order.length c2, .int .i64 A.left, .int .i64 0] 25) = W1 at *
  generalize w1.heap.size = b1 at *
  go_upto_region 5 with (first
    | (go_at_call 4; refine (HRB.out _ X1.out.1).mono ?_; rintro e w2 ⟨o3, c3, o4, c4, rfl, r3, r4, hb2, -, -⟩; have H2 : Hid _ := And.intro r3 (And.intro r4 hb2); clear r3 r4 hb2))
  have X2 : Hid (∀ W, Below (w2.alloc (.cells #[.int .i64 B.how, .int .i64 0, .int .i64 B.value, .int .i64 B.steps, .slice o3 B.outs.length c3, .slice o4 B.order.length c4, .int .i64 B.left, .int .i64 0] 25)).heap.size (w2.alloc (.cells #[.int .i64 B.how, .int .i64 0, .int .i64 B.value, .int .i64 B.steps, .slice o3 B.outs.length c3, .slice o4 B.order.length c4, .int .i64 B.left, .int .i64 0] 25)) W → Below w.heap.size w W ∧ (∀ o, W.cell? ⟨b1, o, none⟩ = (#[.int .i64 A.how, .int .i64 0, .int .i64 A.value, .int .i64 A.steps, .slice o1 A.outs.length c1, .slice o2 A.order.length c2, .int .i64 A.left, .int .i64 0] : Array Value)[o]?) ∧ (∀ o, W.cell? ⟨w2.heap.size, o, none⟩ = (#[.int .i64 B.how, .int .i64 0, .int .i64 B.value, .int .i64 B.steps, .slice o3 B.outs.length c3, .slice o4 B.order.length c4, .int .i64 B.left, .int .i64 0] : Array Value)[o]?) ∧ b1 < W.heap.size ∧ w2.heap.size < W.heap.size ∧ (∀ i x, A.outs[i]? = some x → ∃ g, o1 = some ⟨g, 0, none⟩ ∧ g < W.heap.size ∧ W.cell? ⟨g, i, none⟩ = some (.int .i64 x)) ∧ (∀ i x, A.order[i]? = some x → ∃ g, o2 = some ⟨g, 0, none⟩ ∧ g < W.heap.size ∧ W.cell? ⟨g, i, none⟩ = some (.int .i64 x)) ∧ (∀ i x, B.outs[i]? = some x → ∃ g, o3 = some ⟨g, 0, none⟩ ∧ g < W.heap.size ∧ W.cell? ⟨g, i, none⟩ = some (.int .i64 x)) ∧ (∀ i x, B.order[i]? = some x → ∃ g, o4 = some ⟨g, 0, none⟩ ∧ g < W.heap.size ∧ W.cell? ⟨g, i, none⟩ = some (.int .i64 x))) := fun W hW => by
    obtain ⟨r3, r4, hb2⟩ := H2.out
    obtain ⟨x1, x2, x3, x4, x5, -, -⟩ := X1.out
    have h := al1 w2 (.cells #[.int .i64 B.how, .int .i64 0, .int .i64 B.value, .int .i64 B.steps, .slice o3 B.outs.length c3, .slice o4 B.order.length c4, .int .i64 B.left, .int .i64 0] 25)
    have hz : (w2.alloc (.cells #[.int .i64 B.how, .int .i64 0, .int .i64 B.value, .int .i64 B.steps, .slice o3 B.outs.length c3, .slice o4 B.order.length c4, .int .i64 B.left, .int .i64 0] 25)).heap.size = w2.heap.size + 1 := by simp
    have h2 : Below w2.heap.size w2 W := h.1.trans (hW.mono (by omega))
    have h3 : Below W1.heap.size W1 W := hb2.trans (h2.mono hb2.size)
    have s2 := hW.size
    have s3 := h3.size
    exact ⟨x1.trans (h3.mono x1.size), fun o => cell_of_row W _ o _ 25 (0, 0) ((h3.block _ x3).trans x2), fun o => cell_of_row W _ o _ 25 (0, 0) ((hW.block _ (by omega)).trans h.2), by omega, by omega, fun i x hx => by
      obtain ⟨g, e, hg, k⟩ := x4 i x hx
      exact ⟨g, e, Nat.lt_of_lt_of_le hg s3, (h3.cell (p := ⟨g, i, none⟩) hg).trans k⟩, fun i x hx => by
      obtain ⟨g, e, hg, k⟩ := x5 i x hx
      exact ⟨g, e, Nat.lt_of_lt_of_le hg s3, (h3.cell (p := ⟨g, i, none⟩) hg).trans k⟩, ints_g r3 h2, ints_g r4 h2⟩
  clear H2
  have XL : Hid (A.outs.length ≤ 1000000 ∧ A.order.length ≤ 1000000) := X1.out.2.2.2.2.2
  clear X1
  generalize w2.alloc (.cells #[.int .i64 B.how, .int .i64 0, .int .i64 B.value, .int .i64 B.steps, .slice o3 B.outs.length c3, .slice o4 B.order.length c4, .int .i64 B.left, .int .i64 0] 25) = W2 at *
  generalize w2.heap.size = b2 at *
  obtain ⟨hbw, q1, q2, m1, m2, -, -, -, -⟩ := X2.out W2 (Below.refl _ _)
  have HBw : Hid (Below w.heap.size w W2) := hbw
  clear hbw
  rcases HON.out with ⟨hne, rfl, hst⟩ | ⟨he, hst, hge, hou, hor⟩
  · go_wp2_with (first
      | (go_at_call 5; refine (out5 XL.out.1 XL.out.2 (X2.out W2 (Below.refl _ _)).2.2.2.2.2.1 (X2.out W2 (Below.refl _ _)).2.2.2.2.2.2.2.1 (X2.out W2 (Below.refl _ _)).2.2.2.2.2.2.1 (X2.out W2 (Below.refl _ _)).2.2.2.2.2.2.2.2).mono ?_; rintro e w3 ⟨rfl, hb3⟩; obtain ⟨hbw, q3, q4, m3, m4, -, -, -, -⟩ := X2.out w3 hb3; have HB3 : Hid (Below w.heap.size w w3) := hbw; clear hbw hb3))
    go_ret
    exact ⟨rfl, HB3.out⟩
  · have outsP : Hid (A.outs <+: B.outs) := hou
    have orderP : Hid (A.order <+: B.order) := hor
    have LA : Hid (A.outs.length ≤ B.outs.length) := hou.length_le
    have LB : Hid (A.order.length ≤ B.order.length) := hor.length_le
    have la : ¬ (B.outs.length : Int) < (A.outs.length : Int) := by have := LA.out; omega
    have lb : ¬ (B.order.length : Int) < (A.order.length : Int) := by have := LB.out; omega
    have hge2 : ¬ B.steps < fuel := by omega
    clear hou hor HON HRA HRB hge
    go_wp2_with fail
    go_loopg [91] A.outs.length (fun gg u wr => ∃ idx : Nat, gg = A.outs.length - idx ∧ u = .int .i64 (idx : Int) ∧ idx ≤ A.outs.length ∧ Hid (Below W2.heap.size W2 wr))
    case atStart => exact ⟨0, rfl, rfl, Nat.zero_le _, Below.refl _ _⟩
    case round =>
      obtain ⟨idx, hgk, rfl, hidx, HW91⟩ := hrel
      have HG : Hid (gk = A.outs.length - idx) := hgk
      clear hgk
      obtain ⟨hbw, q1, q2, m1, m2, ra, rb, rc, rd⟩ := X2.out wr HW91.out
      have HBw : Hid (Below w.heap.size w wr) := hbw
      have HA : Hid _ := ra
      have HB : Hid _ := rc
      clear hbw ra rb rc rd
      by_cases hlt : idx < A.outs.length
      · have hltI : (idx : Int) < (A.outs.length : Int) := by omega
        have xl : A.outs.length ≤ 1000000 := XL.out.1
        have hltJ : (idx : Int) < (B.outs.length : Int) := by have := LA.out; omega
        obtain ⟨n, hn⟩ : ∃ n, A.outs[idx]? = some n := ⟨_, List.getElem?_eq_getElem hlt⟩
        obtain ⟨g1, rfl, lg1, k1⟩ := HA.out idx n hn
        obtain ⟨g2, rfl, lg2, k2⟩ := HB.out idx n (pre_at outsP.out hn)
        clear hn
        go_wp2_with fail
        go_region
        go_wp2_with fail
        go_roundg (A.outs.length - (idx + 1))
        case measure => rw [HG.out]; omega
        case rel => exact ⟨idx + 1, rfl, by go_num, hlt, HW91.out.drew⟩
      · have hltI : ¬ (idx : Int) < (A.outs.length : Int) := by omega
        clear HG hidx HA HB
        go_wp2_with fail
        go_loopg [109] A.order.length (fun gg u wr => ∃ idx : Nat, gg = A.order.length - idx ∧ u = .int .i64 (idx : Int) ∧ idx ≤ A.order.length ∧ Hid (Below W2.heap.size W2 wr))
        case atStart => exact ⟨0, rfl, rfl, Nat.zero_le _, HW91.out⟩
        case round =>
          obtain ⟨idx, hgk, rfl, hidx, HW109⟩ := hrel
          have HG : Hid (gk = A.order.length - idx) := hgk
          clear hgk
          obtain ⟨hbw, q1, q2, m1, m2, ra, rb, rc, rd⟩ := X2.out wr HW109.out
          have HBw : Hid (Below w.heap.size w wr) := hbw
          have HA : Hid _ := rb
          have HB : Hid _ := rd
          clear hbw ra rb rc rd
          by_cases hlt : idx < A.order.length
          · have hltI : (idx : Int) < (A.order.length : Int) := by omega
            have xl : A.order.length ≤ 1000000 := XL.out.2
            have hltJ : (idx : Int) < (B.order.length : Int) := by have := LB.out; omega
            obtain ⟨n, hn⟩ : ∃ n, A.order[idx]? = some n := ⟨_, List.getElem?_eq_getElem hlt⟩
            obtain ⟨g1, rfl, lg1, k1⟩ := HA.out idx n hn
            obtain ⟨g2, rfl, lg2, k2⟩ := HB.out idx n (pre_at orderP.out hn)
            clear hn
            go_wp2_with fail
            go_region
            go_wp2_with fail
            go_roundg (A.order.length - (idx + 1))
            case measure => rw [HG.out]; omega
            case rel => exact ⟨idx + 1, rfl, by go_num, hlt, HW109.out.drew⟩
          · have hltI : ¬ (idx : Int) < (A.order.length : Int) := by omega
            clear HG hidx HA HB
            go_wp2_with fail
            go_ret
            exact ⟨rfl, HBw.out⟩
theorem law3 {w : World} {co : Option Addr} {cc : Nat} {code : List Mi} {po : Option Addr} {pl pc : Nat} {picks : List Int} {arg fuel more : Int} (harg : I64 arg) (cd : CD w w.heap.size co code) (c64 : ∀ x ∈ code, x.ok) (pk : PK w w.heap.size (.slice po pl pc) picks) : Calls Try.prog 3 #[.slice co code.length cc, .int .i64 arg, .int .i64 fuel, .int .i64 more, .slice po pl pc] w (fun e w' => e = .returned (.bool true) ∧ Below w.heap.size w w') := by
  by_cases h : fuel < 0 ∨ 20000 < fuel ∨ more < 0 ∨ 20000 < more
  · exact law3_out h
  · exact law3_in harg (by omega) (by omega) (by omega) (by omega) cd c64 pk
end Go.Proofs.Ytpoepbmomfohlaa
