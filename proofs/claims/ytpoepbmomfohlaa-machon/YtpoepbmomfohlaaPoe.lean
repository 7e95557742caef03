/- The project's machine: what is told of a run. -/
import Derived.Test.YtpoepbmomfohlaaPob
import Derived.Test.YtpoepbmomfohlaaTke
namespace Go.Proofs.Ytpoepbmomfohlaa
open Go.RowKit
set_option linter.all false
section
variable {C : Ct} {N N' : Nat} {K : Nat → Obj → Prop} {w w' w1 : World} {ps : List Int} {tb tb' : List Nat} {m m' : Mc} {t b : Nat} {th th' : Th}
set_option maxRecDepth 100000 in
theorem res26 {fn : Func} {r : Nat} (hf : fn.results = #[.cell r 25]) {tmps : Array Value} {b : Nat} (h4 : tmps.getD r undef = .pointer (some ⟨b, 0, none⟩)) {W : World} {c0 c1 c2 c3 c4 c5 c6 c7 : Value} (hB : W.heap[b]? = some (.cells #[c0, c1, c2, c3, c4, c5, c6, c7] 25 (0, 0))) : (results fn tmps).run Try.prog W = .ok (.agg #[c0, c1, c2, c3, c4, c5, c6, c7]) W := by
  have y := fun o => cell_of_row W b o _ 25 (0, 0) hB
  have h4' : tmps[r]?.getD undef = .pointer (some ⟨b, 0, none⟩) := by simpa using h4
  simp [results, hf, h4', go_sem, y]
/-- Eight cells are written into a block of eight. -/
theorem set8 {w : World} {b : Nat} {u0 u1 u2 u3 u4 u5 u6 u7 c0 c1 c2 c3 c4 c5 c6 c7 : Value} (h : w.heap[b]? = some (.cells #[u0, u1, u2, u3, u4, u5, u6, u7] 25 (0, 0))) : ((((((((w.setCell ⟨b, 0, none⟩ c0).setCell ⟨b, 1, none⟩ c1).setCell ⟨b, 2, none⟩ c2).setCell ⟨b, 3, none⟩ c3).setCell ⟨b, 4, none⟩ c4).setCell ⟨b, 5, none⟩ c5).setCell ⟨b, 6, none⟩ c6).setCell ⟨b, 7, none⟩ c7).heap[b]? = some (.cells #[c0, c1, c2, c3, c4, c5, c6, c7] 25 (0, 0)) := by
  have h1 := heap_setCells (b := b) (t := 25) [c0, c1, c2, c3, c4, c5, c6, c7] 0 w _ h
  have h2 := setMany_all (z := #[u0, u1, u2, u3, u4, u5, u6, u7]) (cs := #[c0, c1, c2, c3, c4, c5, c6, c7]) rfl
  rw [show (#[c0, c1, c2, c3, c4, c5, c6, c7] : Array Value).toList = [c0, c1, c2, c3, c4, c5, c6, c7] from rfl] at h2
  rw [h2] at h1
  exact h1
theorem bel8 {a w : World} {B b : Nat} (h : Below B a w) (hb : B ≤ b) (c0 c1 c2 c3 c4 c5 c6 c7 : Value) : Below B a ((((((((w.setCell ⟨b, 0, none⟩ c0).setCell ⟨b, 1, none⟩ c1).setCell ⟨b, 2, none⟩ c2).setCell ⟨b, 3, none⟩ c3).setCell ⟨b, 4, none⟩ c4).setCell ⟨b, 5, none⟩ c5).setCell ⟨b, 6, none⟩ c6).setCell ⟨b, 7, none⟩ c7) := (((((((h.setCell (p := ⟨b, 0, none⟩) hb c0).setCell (p := ⟨b, 1, none⟩) hb c1).setCell (p := ⟨b, 2, none⟩) hb c2).setCell (p := ⟨b, 3, none⟩) hb c3).setCell (p := ⟨b, 4, none⟩) hb c4).setCell (p := ⟨b, 5, none⟩) hb c5).setCell (p := ⟨b, 6, none⟩) hb c6).setCell (p := ⟨b, 7, none⟩) hb c7
/-- What Run answers of a model. -/
def RunP (w : World) (R : Mc) (e : Ending) (w' : World) : Prop := ∃ o c o2 c2, e = .returned (.agg #[.int .i64 R.how, .int .i64 0, .int .i64 R.value, .int .i64 R.steps, .slice o R.outs.length c, .slice o2 R.order.length c2, .int .i64 R.left, .int .i64 0]) ∧ w'.ownsRow w.heap.size 3 1 (.slice o R.outs.length c) R.outs.length (R.outs.map (Value.int .i64)) ∧ w'.ownsRow w.heap.size 3 1 (.slice o2 R.order.length c2) R.order.length (R.order.map (Value.int .i64)) ∧ Below w.heap.size w w' ∧ R.outs.length ≤ 1000000 ∧ R.order.length ≤ 1000000
set_option maxRecDepth 100000 in
set_option maxHeartbeats 1000000 in
theorem out10 (h : PS C N K0 w ps tb m) (hleft : m.left = if m.how = 1 ∨ m.how = 2 then (m.hp.length : Int) else 0) : Calls Try.prog 8 #[ptr C.mb, .int .i64 m.how] w (fun e w' => ∃ o c o2 c2, e = .returned (.agg #[.int .i64 m.how, .int .i64 0, .int .i64 m.value, .int .i64 m.steps, .slice o m.outs.length c, .slice o2 m.order.length c2, .int .i64 m.left, .int .i64 0]) ∧ w'.ownsRow C.base 3 1 (.slice o m.outs.length c) m.outs.length (m.outs.map (Value.int .i64)) ∧ w'.ownsRow C.base 3 1 (.slice o2 m.order.length c2) m.order.length (m.order.map (Value.int .i64)) ∧ Below w.heap.size w w') := by
  obtain ⟨-, k2, k5, k6, k7, lm, fz⟩ := h.mch
  obtain ⟨pv, own, L, hp, hk⟩ := h.pr
  obtain ⟨oo, hoo⟩ : ∃ oo, oo = L.oo := ⟨_, rfl⟩
  obtain ⟨oc, hoc⟩ : ∃ oc, oc = L.oc := ⟨_, rfl⟩
  obtain ⟨ro, hro⟩ : ∃ ro, ro = L.ro_ := ⟨_, rfl⟩
  obtain ⟨rc, hrc⟩ : ∃ rc, rc = L.rc := ⟨_, rfl⟩
  have k8 : w.cell? ⟨C.mb, 8, none⟩ = some (.slice oo m.outs.length oc) := by rw [hoo, hoc]; exact cell_of_row w _ 8 _ 41 (0, 0) hp.blk
  have k9 : w.cell? ⟨C.mb, 9, none⟩ = some (.slice ro m.order.length rc) := by rw [hro, hrc]; exact cell_of_row w _ 9 _ 41 (0, 0) hp.blk
  have HR1 : Hid (∀ W, Below w.heap.size w W → W.ownsRow C.base 3 1 (.slice oo m.outs.length oc) m.outs.length (m.outs.map (Value.int .i64)) ∧ W.ownsRow C.base 3 1 (.slice ro m.order.length rc) m.order.length (m.order.map (Value.int .i64))) := fun W hW => by
    rw [hoo, hoc, hro, hrc]
    exact ⟨ownsRow_same hp.ou.row (fun b hb hl => hW.block b hl), ownsRow_same hp.or_.row (fun b hb hl => hW.block b hl)⟩
  have HCT : Hid (∀ W, Below w.heap.size w W → Calls Try.prog 15 #[ptr C.hb] W (fun e w' => e = .returned (.int .i64 m.hp.length) ∧ w' = W)) := fun W hW => by
    obtain ⟨pv, own, L, hp, -⟩ := (h.below hW).pr
    exact count10 hp.hm
  clear hp hk hoo hoc hro hrc
  go_enter Try.func8, Try.ntmps8
  go_wp2_with fail
  have BA := al1 w (.cells #[.int .i64 0, .int .i64 0, .int .i64 0, .int .i64 0, .slice none 0 0, .slice none 0 0, .int .i64 0, .int .i64 0] 25)
  obtain ⟨ib, hib⟩ : ∃ ib, ib = w.heap.size := ⟨_, rfl⟩
  rw [← hib] at BA ⊢
  generalize w.alloc (.cells #[.int .i64 0, .int .i64 0, .int .i64 0, .int .i64 0, .slice none 0 0, .slice none 0 0, .int .i64 0, .int .i64 0] 25) = wa at *
  have hB : Below w.heap.size w wa := by rw [← hib]; exact BA.1
  have SOF : Hid (∀ W, Below w.heap.size w W → (fun W => W.cell? ⟨C.mb, 6, none⟩ = some (.int .i64 m.value) ∧ W.cell? ⟨C.mb, 7, none⟩ = some (.int .i64 m.steps) ∧ W.cell? ⟨C.mb, 8, none⟩ = some (.slice oo m.outs.length oc) ∧ W.cell? ⟨C.mb, 9, none⟩ = some (.slice ro m.order.length rc) ∧ C.mb < W.heap.size) W) := fun W hW => ⟨(hW.cell (p := ⟨C.mb, 6, none⟩) lm).trans k6, (hW.cell (p := ⟨C.mb, 7, none⟩) lm).trans k7, (hW.cell (p := ⟨C.mb, 8, none⟩) lm).trans k8, (hW.cell (p := ⟨C.mb, 9, none⟩) lm).trans k9, Nat.lt_of_lt_of_le lm hW.size⟩
  have SS0 := SOF.out wa.drew ⟨hB.os, hB.tape, hB.output, hB.size, hB.block⟩
  have SS1 := SOF.out (wa.drew.alloc (.cells #[.int .i64 0, .int .i64 0, .int .i64 0, .int .i64 0, .slice none 0 0, .slice none 0 0, .int .i64 0, .int .i64 0] 25)) (Below.trans (b := wa.drew) ⟨hB.os, hB.tape, hB.output, hB.size, hB.block⟩ ((al1 wa.drew _).1.mono hB.size))
  refine wp_region_held_drew (S := fun W => W.cell? ⟨C.mb, 6, none⟩ = some (.int .i64 m.value) ∧ W.cell? ⟨C.mb, 7, none⟩ = some (.int .i64 m.steps) ∧ W.cell? ⟨C.mb, 8, none⟩ = some (.slice oo m.outs.length oc) ∧ W.cell? ⟨C.mb, 9, none⟩ = some (.slice ro m.order.length rc) ∧ C.mb < W.heap.size) (by as_aux_lemma => kernel_rfl) SS0 (fun hHeld => ?_)
  refine rtk 0 ?_
  refine rtk 1 ?_
  refine rtk 2 ?_
  refine rtk 3 ?_
  refine rtk 4 ?_
  refine rtk 5 ?_
  refine rtk 6 ?_
  refine rtk 7 ?_
  refine rtk 8 ?_
  refine rtk 9 ?_
  refine rtk 10 ?_
  refine rtk 11 ?_
  refine rtk 12 ?_
  refine rtk 13 ?_
  refine rtk 14 ?_
  refine rtk 15 ?_
  refine rtk 16 ?_
  refine rtk 17 ?_
  refine rr1 18 (fun K hK => ?_)
  go_simp
  refine rgo hK ?_ (hS := by first | exact SS0 | exact SS1 | exact SS2)
  clear hK K hHeld
  intro hHeld
  have BV : Below w.heap.size w ((wa.alloc (.cells #[.int .i64 m.how, .int .i64 0, .int .i64 m.value, .int .i64 m.steps, .slice oo m.outs.length oc, .slice ro m.order.length rc, .int .i64 0, .int .i64 0] 25)).drew) := ⟨hB.os, hB.tape, hB.output, Nat.le_trans hB.size (al1 wa _).1.size, fun k hk => ((al1 wa _).1.block k (Nat.lt_of_lt_of_le hk hB.size)).trans (hB.block k hk)⟩
  have SS2 := SOF.out _ BV
  refine rr1 19 (fun K hK => ?_)
  go_simp
  refine rgo hK ?_ (hS := by exact SS2)
  clear hK K hHeld
  intro hHeld
  refine wpAnyH_done (by as_aux_lemma => kernel_rfl) ?_ _
  have bo := (al1 wa (.cells #[.int .i64 m.how, .int .i64 0, .int .i64 m.value, .int .i64 m.steps, .slice oo m.outs.length oc, .slice ro m.order.length rc, .int .i64 0, .int .i64 0] 25)).2
  have bi : ((wa.alloc (.cells #[.int .i64 m.how, .int .i64 0, .int .i64 m.value, .int .i64 m.steps, .slice oo m.outs.length oc, .slice ro m.order.length rc, .int .i64 0, .int .i64 0] 25)).drew).heap[ib]? = some (.cells #[.int .i64 0, .int .i64 0, .int .i64 0, .int .i64 0, .slice none 0 0, .slice none 0 0, .int .i64 0, .int .i64 0] 25 (0, 0)) := ((al1 wa _).1.block ib (Array.getElem?_eq_some_iff.1 BA.2).1).trans BA.2
  replace bo : ((wa.alloc (.cells #[.int .i64 m.how, .int .i64 0, .int .i64 m.value, .int .i64 m.steps, .slice oo m.outs.length oc, .slice ro m.order.length rc, .int .i64 0, .int .i64 0] 25)).drew).heap[wa.heap.size]? = some (.cells #[.int .i64 m.how, .int .i64 0, .int .i64 m.value, .int .i64 m.steps, .slice oo m.outs.length oc, .slice ro m.order.length rc, .int .i64 0, .int .i64 0] 25 (0, 0)) := bo
  have hbv : Below w.heap.size w ((wa.alloc (.cells #[.int .i64 m.how, .int .i64 0, .int .i64 m.value, .int .i64 m.steps, .slice oo m.outs.length oc, .slice ro m.order.length rc, .int .i64 0, .int .i64 0] 25)).drew) := BV
  obtain ⟨ob, hob⟩ : ∃ ob, ob = wa.heap.size := ⟨_, rfl⟩
  have hlt : ib < ob := by rw [hob]; exact (Array.getElem?_eq_some_iff.1 BA.2).1
  rw [← hob] at bo ⊢
  rw [← hib]
  generalize (wa.alloc (.cells #[.int .i64 m.how, .int .i64 0, .int .i64 m.value, .int .i64 m.steps, .slice oo m.outs.length oc, .slice ro m.order.length rc, .int .i64 0, .int .i64 0] 25)).drew = wv at *
  have HBV : Hid (Below w.heap.size w wv ∧ w.heap.size ≤ ib ∧ ib < ob) := ⟨hbv, by omega, hlt⟩
  have HBI : Hid _ := bi
  have HBO : Hid _ := bo
  obtain ⟨-, -, -, -, lv⟩ := SS2
  have v2 := (hbv.cell (p := ⟨C.mb, 2, none⟩) lm).trans k2
  have CT := HCT.out wv hbv
  have i0 := fun o => cell_of_row wv ib o _ 25 (0, 0) bi
  have j0 := fun o => frozen_of_row wv ib o _ 25 bi
  have o0 := fun o => cell_of_row wv ob o _ 25 (0, 0) bo
  have p0 := fun o => frozen_of_row wv ob o _ 25 bo
  have li := (Array.getElem?_eq_some_iff.1 bi).1
  have lo := (Array.getElem?_eq_some_iff.1 bo).1
  have hnb : ib ≠ ob := by omega
  clear hob hib hlt BV SS0 SS1 k5 fz
  by_cases h1 : m.how = 1
  · have e1 : (m.how == 1) = true := by simpa using h1
    have HL : Hid (m.left = (m.hp.length : Int)) := by show _ = _; rw [hleft, if_pos (.inl h1)]
    clear h1 hleft hbv bi bo
    go_wp2_with (go_at_call 15; refine CT.mono ?_; rintro e w9 ⟨rfl, rfl⟩)
    have bi2 := (Below.heap_setCell w9 ⟨ob, 6, none⟩ (.int .i64 (m.hp.length : Int)) ib hnb).trans HBI.out
    have BL := bel8 (HBV.out.1.setCell (p := ⟨ob, 6, none⟩) (Nat.le_of_lt (Nat.lt_of_le_of_lt HBV.out.2.1 HBV.out.2.2)) (.int .i64 (m.hp.length : Int))) HBV.out.2.1 (.int .i64 m.how) (.int .i64 0) (.int .i64 m.value) (.int .i64 m.steps) (.slice oo m.outs.length oc) (.slice ro m.order.length rc) (.int .i64 (m.hp.length : Int)) (.int .i64 0)
    exact bodyPost_ret (res26 Try.results8 rfl (set8 bi2)) rfl ⟨oo, oc, ro, rc, by rw [HL.out], (HR1.out _ BL).1, (HR1.out _ BL).2, BL⟩
  · by_cases h2 : m.how = 2
    · have e1 : (m.how == 1) = false := by simpa using h1
      have e2 : (m.how == 2) = true := by simpa using h2
      have HL : Hid (m.left = (m.hp.length : Int)) := by show _ = _; rw [hleft, if_pos (.inr h2)]
      clear h1 h2 hleft hbv bi bo
      go_wp2_with (go_at_call 15; refine CT.mono ?_; rintro e w9 ⟨rfl, rfl⟩)
      have bi2 := (Below.heap_setCell w9 ⟨ob, 6, none⟩ (.int .i64 (m.hp.length : Int)) ib hnb).trans HBI.out
      have BL := bel8 (HBV.out.1.setCell (p := ⟨ob, 6, none⟩) (Nat.le_of_lt (Nat.lt_of_le_of_lt HBV.out.2.1 HBV.out.2.2)) (.int .i64 (m.hp.length : Int))) HBV.out.2.1 (.int .i64 m.how) (.int .i64 0) (.int .i64 m.value) (.int .i64 m.steps) (.slice oo m.outs.length oc) (.slice ro m.order.length rc) (.int .i64 (m.hp.length : Int)) (.int .i64 0)
      exact bodyPost_ret (res26 Try.results8 rfl (set8 bi2)) rfl ⟨oo, oc, ro, rc, by rw [HL.out], (HR1.out _ BL).1, (HR1.out _ BL).2, BL⟩
    · have e1 : (m.how == 1) = false := by simpa using h1
      have e2 : (m.how == 2) = false := by simpa using h2
      have HL : Hid (m.left = 0) := by show _ = _; rw [hleft, if_neg (by omega)]
      clear h1 h2 hleft hbv bi bo
      go_wp2_with fail
      have BL := bel8 HBV.out.1 HBV.out.2.1 (.int .i64 m.how) (.int .i64 0) (.int .i64 m.value) (.int .i64 m.steps) (.slice oo m.outs.length oc) (.slice ro m.order.length rc) (.int .i64 0) (.int .i64 0)
      exact bodyPost_ret (res26 Try.results8 rfl (set8 HBI.out)) rfl ⟨oo, oc, ro, rc, by rw [HL.out], (HR1.out _ BL).1, (HR1.out _ BL).2, BL⟩
end
end Go.Proofs.Ytpoepbmomfohlaa
