/- pick; whether there is a gap. -/
import Derived.Test.YtohhmcpaajcplaaTrm
namespace Go.Proofs.Ytohhmcpaajcplaa
open Go.RowKit
set_option linter.all false
def PkPost (w : World) (n : Nat) (e : Ending) (w' : World) : Prop := ∃ r : Nat, e = .returned (.int .i64 r) ∧ r < n ∧ w' = w
set_option maxRecDepth 100000 in
set_option maxHeartbeats 1000000 in
theorem pick5 {w : World} (k : Int) (n : Nat) (h1 : 1 ≤ n) (h2 : n ≤ 2199023255552) : Calls Try.prog 5 #[.int .i64 k, .int .i64 n] w (PkPost w n) := by
  have hn0 : ((n : Int) == 0) = false := by simp; omega
  have hnI : (n : Int) ≠ 0 := by omega
  have hm1 : Int.tmod k n < n := Int.tmod_lt_of_pos _ (by omega)
  have hm2 : -(n : Int) < k.tmod n := by
    have h := Int.tmod_lt_of_pos (-k) (show (0 : Int) < n by omega)
    rw [Int.neg_tmod] at h
    omega
  have HM : Hid (Int.tmod k n < n ∧ -(n : Int) < k.tmod n) := ⟨hm1, hm2⟩
  clear hm1 hm2
  go_enter Try.func5, Try.ntmps5
  go_wp2_with fail
  · rename_i hneg
    have hm := HM.out
    go_ret
    have hw : wrap64 (k.tmod n + n) = ((k.tmod n + n).toNat : Int) := by
      unfold wrap64
      omega
    rw [hw]
    exact ⟨_, rfl, by omega, rfl⟩
  · rename_i hpos
    have hm := HM.out
    go_ret
    have hw : k.tmod n = ((k.tmod n).toNat : Int) := by omega
    rw [hw]
    exact ⟨_, rfl, by omega, rfl⟩
def spC (x : Int × Int) : List Value := [.int .i64 x.1, .int .i64 x.2]
/-- A row of spans. -/
structure LV (w : World) (base : Nat) (lo : Option Addr) (lc : Nat) (N : Int) (lv : List (Int × Int)) : Prop where
  row : w.ownsRow base 28 2 (.slice lo lv.length lc) lv.length (lv.map spC).flatten
  few : lv.length ≤ 1000000000
  num : ∀ x ∈ lv, 1 ≤ x.1 ∧ 1 ≤ x.2 ∧ x.1 + x.2 ≤ N + 1
  big : 1 ≤ N ∧ N ≤ 1000000000
theorem spC_len {lv : List (Int × Int)} : ∀ x ∈ lv.map spC, x.length = 2 := fun x hx => by
  obtain ⟨y, _, rfl⟩ := List.mem_map.1 hx
  rfl
theorem LV.below {w w' : World} {base : Nat} {lo : Option Addr} {lc : Nat} {N : Int} {lv : List (Int × Int)} (h : LV w base lo lc N lv) (k : Below w.heap.size w w') : LV w' base lo lc N lv := ⟨ownsRow_same h.row (fun b _ hl => k.block b hl), h.few, h.num, h.big⟩
theorem LV.nth {w : World} {base : Nat} {lo : Option Addr} {lc : Nat} {N : Int} {lv : List (Int × Int)} (h : LV w base lo lc N lv) {i : Nat} {a s : Int} (hx : lv[i]? = some (a, s)) : ∃ g, lo = some ⟨g, 0, none⟩ ∧ g < w.heap.size ∧ w.cell? ⟨g, i * 2, none⟩ = some (.int .i64 a) ∧ w.cell? ⟨g, i * 2 + 1, none⟩ = some (.int .i64 s) := by
  obtain ⟨g, c, e, hl, _, hc⟩ := ownsRow_nth h.row (by simp) spC_len (i := i) (x := spC (a, s)) (by rw [List.getElem?_map, hx]; rfl)
  simp at e
  exact ⟨g, e.1, hl, hc 0 (by decide), hc 1 (by decide)⟩
def fitsAt (lv : List (Int × Int)) (n s : Int) : Bool := lv.all (fun b => decide (s + n ≤ b.1 ∨ b.1 + b.2 ≤ s))
def gapAt (N : Int) (lv : List (Int × Int)) (n s : Int) : Bool := decide (n ≤ N ∧ s ≤ N - n + 1) && fitsAt lv n s
def starts (lv : List (Int × Int)) : List Int := 1 :: lv.map (fun b => b.1 + b.2)
def gapB (N : Int) (lv : List (Int × Int)) (n : Int) : Bool := decide (1 ≤ n) && (starts lv).any (gapAt N lv n)
theorem ms_lt {j l : Nat} (h : j < l) : l - (j + 1) < l - j := by omega
def intV (ls : List Int) : List Value := ls.map (Value.int .i64)
theorem infI : (Try.prog.info? 3).map (fun i => (i.zero, i.size, i.bytes)) = some (some (.int .i64 0), 1, 8) := by kernel_rfl
theorem int_nth {w : World} {base : Nat} {ao : Option Addr} {cp : Nat} {ls : List Int} (row : w.ownsRow base 3 1 (.slice ao ls.length cp) ls.length (intV ls)) {j : Nat} {x : Int} (hx : ls[j]? = some x) : ∃ g, ao = some ⟨g, 0, none⟩ ∧ g < w.heap.size ∧ w.cell? ⟨g, j, none⟩ = some (.int .i64 x) := by
  have hj : j < ls.length := (List.getElem?_eq_some_iff.1 hx).1
  rcases row.2 with ⟨h1, h2⟩ | ⟨g, cap, cur, h1, hb, hg, hnc, hcm, hcs, htake⟩
  · omega
  · simp at h1
    obtain ⟨rfl, rfl⟩ := h1
    refine ⟨g, rfl, (Array.getElem?_eq_some_iff.1 hg).1, ?_⟩
    rw [cell_of_row w g j cur 3 (0, 0) hg]
    have e : (cur.toList.take (ls.length * 1))[j]? = some (.int .i64 x) := by
      rw [htake]
      unfold intV
      rw [List.getElem?_map, hx]
      rfl
    rw [List.getElem?_take, if_pos (by omega)] at e
    simpa using e
theorem row_one (w : World) (x : Int) : (w.alloc (.cells #[.int .i64 x] 3)).ownsRow w.heap.size 3 1 (.slice (some ⟨w.heap.size, 0, none⟩) 1 1) 1 (intV [x]) :=
  ⟨rfl, .inr ⟨w.heap.size, 1, #[.int .i64 x], rfl, Nat.le_refl _, heap_alloc_new w _, Nat.le_refl _, by decide, rfl, rfl⟩⟩
theorem run_int {w W : World} {ao : Option Addr} {cp : Nat} {ls : List Int} (row : W.ownsRow w.heap.size 3 1 (.slice ao ls.length cp) ls.length (intV ls)) (hb : Below w.heap.size w W) (x : Int) (hn : ls.length ≤ 1000000001) (ty : TypeId) {ad : Nat} (had : ad = W.heap.size) :
    ∃ v' w', (Builtin.append_ #[22, 22] ty #[.slice ao ls.length cp, .slice (some ⟨ad, 0, none⟩) 1 1]).run Try.prog (W.alloc (.cells #[.int .i64 x] 3)) = .ok v' w' ∧ ∃ ao' cp', v' = .slice ao' (ls ++ [x]).length cp' ∧ w'.ownsRow w.heap.size 3 1 (.slice ao' (ls ++ [x]).length cp') (ls ++ [x]).length (intV (ls ++ [x])) ∧ Below w.heap.size w w' := by
  obtain ⟨v', w', hr, A⟩ := app1 (W := W) Try.underlying22 infI rfl (by decide) row hb.size #[.int .i64 x] rfl (fun u hu => by simp at hu; subst hu; rfl) (by unfold maxLen; omega) (by omega) ty had
  obtain ⟨o', c', rfl⟩ := A.shape
  have r2 := A.row
  have e2 : (ls ++ [x]).length = ls.length + 1 := by simp
  rw [e2]
  refine ⟨_, w', hr, o', c', rfl, ?_, A.below (hb.alloc hb.size _) (by simp; have := hb.size; omega) (fun b e => (row.lt b e).1)⟩
  unfold intV
  rw [List.map_append]
  exact r2
set_option maxRecDepth 100000 in
set_option maxHeartbeats 1000000 in
theorem gap9 {w : World} {base : Nat} {lo : Option Addr} {lc : Nat} {N : Int} {lv : List (Int × Int)} (h : LV w base lo lc N lv) {n : Int} (hn : I64 n) : Calls Try.prog 9 #[.int .i64 N, .slice lo lv.length lc, .int .i64 n] w (fun e w' => e = .returned (.bool (gapB N lv n)) ∧ Below w.heap.size w w') := by
  have HH : Hid (LV w base lo lc N lv) := h
  have hbig := h.big
  have hfew := h.few
  clear h
  by_cases h1 : n < 1
  · have HE : Hid (gapB N lv n = false) := by show gapB N lv n = false; unfold gapB; simp; omega
    go_enter Try.func9, Try.ntmps9
    go_wp2_with fail
    go_ret
    exact ⟨by rw [HE.out]; rfl, Below.refl _ _⟩
  · go_enter Try.func9, Try.ntmps9
    go_wp2_with fail
    go_loopg [7, 20] lv.length (fun gg v7 u wr => ∃ (idx : Nat) (ao : Option Addr) (cp : Nat) (ls : List Int), gg = lv.length - idx ∧ u = .int .i64 idx ∧ v7 = .slice ao ls.length cp ∧ idx ≤ lv.length ∧ Hid (ls.length = idx + 1) ∧ Hid (ls = 1 :: (lv.take idx).map (fun b => b.1 + b.2)) ∧ Hid (wr.ownsRow w.heap.size 3 1 (.slice ao ls.length cp) ls.length (intV ls)) ∧ Hid (Below w.heap.size w wr))
    case atStart => exact ⟨0, some ⟨w.heap.size, 0, none⟩, 1, [1], rfl, rfl, rfl, Nat.zero_le _, rfl, rfl, row_one w 1, (al1 w _).1⟩
    case round =>
      obtain ⟨idx, ao, cp, ls, hgk, rfl, rfl, hidx, HLL, HL, HR, HB⟩ := hrel
      have HG : Hid (gk = lv.length - idx) := hgk
      clear hgk
      by_cases hlt : idx < lv.length
      · have hltI : (idx : Int) < (lv.length : Int) := by omega
        obtain ⟨⟨a, z⟩, hx⟩ : ∃ x, lv[idx]? = some x := ⟨_, List.getElem?_eq_getElem hlt⟩
        have hnum := HH.out.num (a, z) (List.mem_of_getElem? hx)
        simp only at hnum
        obtain ⟨g, rfl, hg, c0, c1⟩ := HH.out.nth hx
        have hw : wrap64 (a + z) = a + z := by unfold wrap64; omega
        have c0' : wr.cell? ⟨g, idx * 2, none⟩ = some (.int .i64 a) := (HB.out.cell (p := ⟨g, idx * 2, none⟩) hg).trans c0
        have c1' : wr.cell? ⟨g, idx * 2 + 1, none⟩ = some (.int .i64 z) := (HB.out.cell (p := ⟨g, idx * 2 + 1, none⟩) hg).trans c1
        have hgr : g < wr.heap.size := by have := HB.out.size; omega
        have HL2 : Hid (ls ++ [a + z] = 1 :: (lv.take (idx + 1)).map (fun b => b.1 + b.2)) := by
          show _ = _
          rw [HL.out, List.take_add_one, hx, List.map_append]
          rfl
        have RR : Hid (∀ ty, ∃ v' w', (Builtin.append_ #[22, 22] ty #[.slice ao ls.length cp, .slice (some ⟨wr.heap.size + 1, 0, none⟩) 1 1]).run Try.prog ((wr.alloc (.cells #[.int .i64 a, .int .i64 z] 28)).alloc (.cells #[.int .i64 (a + z)] 3)) = .ok v' w' ∧ ∃ ao' cp', v' = .slice ao' (ls ++ [a + z]).length cp' ∧ w'.ownsRow w.heap.size 3 1 (.slice ao' (ls ++ [a + z]).length cp') (ls ++ [a + z]).length (intV (ls ++ [a + z])) ∧ Below w.heap.size w w') := fun ty => run_int (W := wr.alloc (.cells #[.int .i64 a, .int .i64 z] 28)) (ownsRow_same HR.out (fun b _ hl => Below.heap_alloc _ _ _ hl)) (HB.out.alloc HB.out.size _) (a + z) (by have := HLL.out; omega) ty (by simp)
        clear c0 c1 hx hnum
        go_wp2_with (at_builtin; refine wp_runG 22 (v := .slice ao ls.length cp) (xv := .slice (some ⟨wr.heap.size + 1, 0, none⟩) 1 1) (by rfl) (by rfl) (by rfl) (by rfl) (RR.out _) ?_; rintro v' w3 ⟨ao3, cp3, rfl, row3, hb3⟩)
        go_roundg (lv.length - (idx + 1))
        case measure => rw [HG.out]; omega
        case rel => exact ⟨idx + 1, ao3, cp3, ls ++ [a + z], rfl, by go_num, by simp, hlt, by show _ = _; simp [HLL.out], HL2.out, row3, hb3⟩
      · have hltI : ¬ (idx : Int) < (lv.length : Int) := by omega
        have hLS : Hid (ls = starts lv) := by
          show ls = starts lv
          rw [HL.out, show idx = lv.length by omega, List.take_length]
          rfl
        clear HL HG
        obtain ⟨w1, rfl⟩ : ∃ x, x = wr := ⟨_, rfl⟩
        have HH2 : Hid (LV w1 base lo lc N lv) := HH.out.below HB.out
        have hlsb : ls.length ≤ 1000000001 := by have := HLL.out; omega
        have HS : Hid (∀ s ∈ ls, 1 ≤ s ∧ s ≤ N + 1) := fun s hs => by
          rw [hLS.out] at hs
          unfold starts at hs
          rcases List.mem_cons.1 hs with rfl | hs
          · omega
          · obtain ⟨b, hb, rfl⟩ := List.mem_map.1 hs
            have := HH.out.num b hb
            omega
        go_wp2_with fail
        go_loopg [35] ls.length (fun gg u wq => ∃ jdx : Nat, gg = ls.length - jdx ∧ u = .int .i64 jdx ∧ jdx ≤ ls.length ∧ Hid (∀ s ∈ ls.take jdx, gapAt N lv n s = false) ∧ Hid (Below w1.heap.size w1 wq))
        case atStart => exact ⟨0, rfl, rfl, Nat.zero_le _, fun s hs => by simp at hs, Below.refl _ _⟩
        case round =>
          obtain ⟨jdx, hgk, rfl, hjdx, HF, HB2⟩ := hrel
          have HG : Hid (gk = ls.length - jdx) := hgk
          clear hgk
          by_cases hlt2 : jdx < ls.length
          · have hltI2 : (jdx : Int) < (ls.length : Int) := by omega
            obtain ⟨s, hs⟩ : ∃ s, ls[jdx]? = some s := ⟨_, List.getElem?_eq_getElem hlt2⟩
            obtain ⟨g, rfl, hg, c0⟩ := int_nth HR.out hs
            have hsb := HS.out s (List.mem_of_getElem? hs)
            have c0' : wr.cell? ⟨g, jdx, none⟩ = some (.int .i64 s) := (HB2.out.cell (p := ⟨g, jdx, none⟩) hg).trans c0
            have hgr : g < wr.heap.size := by have := HB2.out.size; omega
            have hn2 := hn.2
            have hw1 : wrap64 (N - n) = N - n := by unfold wrap64; omega
            have hw2 : wrap64 (N - n + 1) = N - n + 1 := by unfold wrap64; omega
            have HF2 : Hid (gapAt N lv n s = false → ∀ z ∈ ls.take (jdx + 1), gapAt N lv n z = false) := fun he z hz => by
              rw [List.take_add_one, hs] at hz
              simp at hz
              rcases hz with hz | rfl
              · exact HF.out z hz
              · exact he
            have HM : Hid (s ∈ ls) := List.mem_of_getElem? hs
            clear c0 hs hn2
            by_cases hc1 : N < n
            · have HE : Hid (gapAt N lv n s = false) := by show gapAt N lv n s = false; unfold gapAt; rw [decide_eq_false (by omega)]; rfl
              go_wp2_with fail
              go_roundg (ls.length - (jdx + 1))
              case measure => rw [HG.out]; exact ms_lt hlt2
              case rel => exact ⟨jdx + 1, rfl, by go_num, hlt2, HF2.out HE.out, HB2.out⟩
            · by_cases hc2 : N - n + 1 < s
              · have HE : Hid (gapAt N lv n s = false) := by show gapAt N lv n s = false; unfold gapAt; rw [decide_eq_false (by omega)]; rfl
                go_wp2_with fail
                go_roundg (ls.length - (jdx + 1))
                case measure => rw [HG.out]; exact ms_lt hlt2
                case rel => exact ⟨jdx + 1, rfl, by go_num, hlt2, HF2.out HE.out, HB2.out⟩
              · have HE : Hid (gapAt N lv n s = fitsAt lv n s) := by show gapAt N lv n s = _; unfold gapAt; rw [decide_eq_true (by omega)]; rfl
                have hsn : wrap64 (s + n) = s + n := by unfold wrap64; omega
                obtain ⟨w2, rfl⟩ : ∃ x, x = wr := ⟨_, rfl⟩
                have HH3 : Hid (LV w2 base lo lc N lv) := HH2.out.below HB2.out
                go_wp2_with fail
                go_loopg [12, 52] lv.length (fun gg v12 u wq => ∃ (kdx : Nat) (f : Bool), gg = lv.length - kdx ∧ u = .int .i64 kdx ∧ v12 = .bool f ∧ kdx ≤ lv.length ∧ Hid (f = fitsAt (lv.take kdx) n s) ∧ Hid (Below w2.heap.size w2 wq))
                case atStart => exact ⟨0, true, rfl, rfl, rfl, Nat.zero_le _, rfl, Below.refl _ _⟩
                case round =>
                  obtain ⟨kdx, f, hgk, rfl, rfl, hkdx, HF3, HB3⟩ := hrel
                  have HG3 : Hid (gk = lv.length - kdx) := hgk
                  clear hgk
                  by_cases hlt3 : kdx < lv.length
                  · have hltI3 : (kdx : Int) < (lv.length : Int) := by omega
                    obtain ⟨⟨a, z⟩, hx⟩ : ∃ x, lv[kdx]? = some x := ⟨_, List.getElem?_eq_getElem hlt3⟩
                    have hnum := HH3.out.num (a, z) (List.mem_of_getElem? hx)
                    simp only at hnum
                    obtain ⟨g3, rfl, hg3, c03, c13⟩ := HH3.out.nth hx
                    have hwz : wrap64 (a + z) = a + z := by unfold wrap64; omega
                    have c03' : wr.cell? ⟨g3, kdx * 2, none⟩ = some (.int .i64 a) := (HB3.out.cell (p := ⟨g3, kdx * 2, none⟩) hg3).trans c03
                    have c13' : wr.cell? ⟨g3, kdx * 2 + 1, none⟩ = some (.int .i64 z) := (HB3.out.cell (p := ⟨g3, kdx * 2 + 1, none⟩) hg3).trans c13
                    have hgr3 : g3 < wr.heap.size := by have := HB3.out.size; omega
                    have HN3 : Hid (fitsAt (lv.take (kdx + 1)) n s = (f && decide (s + n ≤ a ∨ a + z ≤ s))) := by
                      show _ = _
                      rw [HF3.out]
                      unfold fitsAt
                      rw [List.take_add_one, hx, List.all_append]
                      simp
                    clear c03 c13 hx hnum
                    cases f with
                    | false =>
                      go_wp2_with fail
                      go_roundg (lv.length - (kdx + 1))
                      case measure => rw [HG3.out]; exact ms_lt hlt3
                      case rel => exact ⟨kdx + 1, _, rfl, by go_num, rfl, hlt3, by show false = _; rw [HN3.out]; rfl, HB3.out.trans (((Below.refl _ _).alloc (Nat.le_refl _) _).mono HB3.out.size)⟩
                    | true =>
                      by_cases hp1 : s + n ≤ a
                      · have HV : Hid (fitsAt (lv.take (kdx + 1)) n s = true) := by show _ = _; rw [HN3.out, decide_eq_true (.inl hp1)]; rfl
                        go_wp2_with fail
                        go_roundg (lv.length - (kdx + 1))
                        case measure => rw [HG3.out]; exact ms_lt hlt3
                        case rel => exact ⟨kdx + 1, _, rfl, by go_num, rfl, hlt3, by show true = _; rw [HV.out], HB3.out.trans (((Below.refl _ _).alloc (Nat.le_refl _) _).mono HB3.out.size)⟩
                      · by_cases hp2 : a + z ≤ s
                        · have HV : Hid (fitsAt (lv.take (kdx + 1)) n s = true) := by show _ = _; rw [HN3.out, decide_eq_true (.inr hp2)]; rfl
                          go_wp2_with fail
                          go_roundg (lv.length - (kdx + 1))
                          case measure => rw [HG3.out]; exact ms_lt hlt3
                          case rel => exact ⟨kdx + 1, _, rfl, by go_num, rfl, hlt3, by show true = _; rw [HV.out], HB3.out.trans (((Below.refl _ _).alloc (Nat.le_refl _) _).mono HB3.out.size)⟩
                        · have HV : Hid (fitsAt (lv.take (kdx + 1)) n s = false) := by show _ = _; rw [HN3.out, decide_eq_false (by omega)]; rfl
                          go_wp2_with fail
                          go_roundg (lv.length - (kdx + 1))
                          case measure => rw [HG3.out]; exact ms_lt hlt3
                          case rel => exact ⟨kdx + 1, _, rfl, by go_num, rfl, hlt3, by show false = _; rw [HV.out], HB3.out.trans (((Below.refl _ _).alloc (Nat.le_refl _) _).mono HB3.out.size)⟩
                  · have hltI3 : ¬ (kdx : Int) < (lv.length : Int) := by omega
                    have HV : Hid (gapAt N lv n s = f) := by
                      show _ = f
                      rw [HE.out, HF3.out, show kdx = lv.length by omega, List.take_length]
                    have HBE : Hid (Below w.heap.size w wr ∧ Below w1.heap.size w1 wr) := ⟨(HB.out.trans (HB2.out.mono HB.out.size)).trans (HB3.out.mono (Nat.le_trans HB.out.size HB2.out.size)), HB2.out.trans (HB3.out.mono HB2.out.size)⟩
                    cases f with
                    | false =>
                      go_wp2_with fail
                      go_roundg (ls.length - (jdx + 1))
                      case measure => rw [HG.out]; exact ms_lt hlt2
                      case rel => exact ⟨jdx + 1, rfl, by go_num, hlt2, HF2.out HV.out, HBE.out.2⟩
                    | true =>
                      have HGT : Hid (gapB N lv n = true) := by
                        show gapB N lv n = true
                        unfold gapB
                        rw [decide_eq_true (by omega), Bool.true_and, List.any_eq_true]
                        exact ⟨s, by rw [← hLS.out]; exact HM.out, HV.out⟩
                      go_wp2_with fail
                      try go_ret
                      exact ⟨by rw [HGT.out]; rfl, HBE.out.1⟩
          · have hltI2 : ¬ (jdx : Int) < (ls.length : Int) := by omega
            have HE : Hid (gapB N lv n = false) := by
              show gapB N lv n = false
              unfold gapB
              have h5 : (starts lv).any (gapAt N lv n) = false := by
                rw [List.any_eq_false]
                intro s hs
                have := HF.out s (by rw [show jdx = ls.length by omega, List.take_length, hLS.out]; exact hs)
                simp [this]
              rw [h5]
              simp
            go_wp2_with fail
            go_ret
            exact ⟨by rw [HE.out]; rfl, HB.out.trans (HB2.out.mono HB.out.size)⟩
end Go.Proofs.Ytohhmcpaajcplaa
