/- The project's machine: addresses of slots. -/
import Derived.Test.YtpoepbmomfohlaaPmh
namespace Go.Proofs.Ytpoepbmomfohlaa
open Go.RowKit
set_option linter.all false
section
variable {C : Ct} {N N' : Nat} {K : Nat → Obj → Prop} {w w' w1 : World} {ps : List Int} {tb tb' : List Nat} {m m' : Mc} {t b : Nat} {th th' : Th}
set_option maxRecDepth 100000 in
set_option maxHeartbeats 1000000 in
theorem addr_c (h : PS C N K w ps tb m) (ht : m.ths[t]? = some th) (hb : tb[t]? = some b) {k : Int} (hk : I64 k) : Calls Try.prog 24 #[ptr b, .int .i64 k] w (SlC C N K ps tb m t th k (fun y _ => .int .i64 y)) := by
  have hfew := h.few
  have htl := (List.getElem?_eq_some_iff.1 ht).1
  have R1 : Hid (Calls Try.prog 33 #[ptr b, .int .i64 k] w.drew (SlC C N K ps tb m t th k (fun _ z => .int .i64 z))) := slot_c h.drew ht hb hk
  obtain ⟨at_, -, c0, c1, c3, c5, c6, c7, c8, lb, fz, f0, f1⟩ := h.thr ht hb
  have HC1 : Hid (∀ {W : World}, PS C N K W ps tb m → W.cell? ⟨b, 1, none⟩ = some (.int .i64 t) ∧ b < W.heap.size) := fun {W} h => by
    obtain ⟨at_, -, c0, c1, c3, c5, c6, c7, c8, lb, fz, f0, f1⟩ := h.thr ht hb
    exact ⟨c1, lb⟩
  obtain ⟨T, hT⟩ : ∃ T : Int, T = (t : Int) := ⟨_, rfl⟩
  rw [← hT] at c1 HC1
  have w1 : wrap64 (T + 1) = T + 1 := wrap_id (by omega) (by omega)
  have w2 : wrap64 ((T + 1) * 4194304) = (T + 1) * 4194304 := wrap_id (by omega) (by omega)
  have HST : Hid ((T + 1) * 4194304 = stk t ∧ 0 ≤ T ∧ T ≤ 12) := ⟨by rw [hT]; rfl, by omega, by omega⟩
  clear h ht hb c0 c3 c5 c6 c7 c8 f0 f1 fz hfew htl hT
  go_enter Try.func24, Try.ntmps24
  go_upto_region 1 with fail
  go_region_with (go_at_call 33; refine R1.out.mono ?_; rintro e w4 (⟨y, z, hz, rfl, h2⟩ | ⟨y, hy, rfl, h2⟩); rotate_left; exact ⟨rfl, .inr ⟨y, hy, rfl, h2⟩⟩; obtain ⟨d1, d2⟩ := HC1.out h2)
  all_goals
    go_wp2_with fail
    go_ret
    refine .inl ⟨y, z, hz, ?_, h2⟩
    have a1 := hz.out.2.1
    have a2 := hz.out.2.2.1
    have a3 := HST.out
    rw [← a3.1] at a1
    clear c1 w1 w2 d1 d2 h2 hz
    simp [Act.put, IntKind.wrap_i64]
    omega
end
end Go.Proofs.Ytpoepbmomfohlaa
namespace Go.Proofs.Ytpoepbmomfohlaa
open Go.RowKit
set_option linter.all false
section
variable {C : Ct} {N N' : Nat} {K : Nat → Obj → Prop} {w w' w1 : World} {ps : List Int} {tb tb' : List Nat} {m m' : Mc} {t b : Nat} {th th' : Th}
/-- Where the word of an address lies. -/
def SPo (C : Ct) (tb : List Nat) (q : Nat) (p : Option Addr) (r : Int) : Prop := (q < 4194304 ∧ p = some ⟨C.mb, 3, none⟩ ∧ r = (q : Int)) ∨ ∃ (t b z : Nat), tb[t]? = some b ∧ q = (t + 1) * 4194304 + z ∧ z < 4194304 ∧ p = some ⟨b, 2, none⟩ ∧ r = (z : Int)
theorem hhas_eq {bs : List (Int × Int)} {a : Int} : hhas bs a = decide (0 ≤ hfindI bs a) := by
  unfold hhas hfindI
  cases h : bs.findIdx? (fun x => decide (x.1 ≤ a ∧ a < x.1 + x.2)) with
  | none =>
    rw [List.findIdx?_eq_none_iff] at h
    have : bs.any (fun x => decide (x.1 ≤ a ∧ a < x.1 + x.2)) = false := by
      rw [List.any_eq_false]
      intro x hx
      have := h x hx
      simpa using this
    rw [this]
    rfl
  | some k =>
    obtain ⟨h1, h2, -⟩ := List.findIdx?_eq_some_iff_getElem.1 h
    have : bs.any (fun x => decide (x.1 ≤ a ∧ a < x.1 + x.2)) = true := List.any_eq_true.2 ⟨bs[k], List.getElem_mem h1, h2⟩
    rw [this]
    show true = decide (0 ≤ (k : Int))
    simp
theorem PS.has (h : PS C N K w ps tb m) {a : Int} (ha : I64 a) : Calls Try.prog 44 #[ptr C.hb, .int .i64 a] w (Gives w (.bool (decide (0 ≤ hfindI m.hp a)))) := by
  obtain ⟨pv, own, L, hp, hk⟩ := h.pr
  rw [← hhas_eq]
  exact has6 hp.hm ha
set_option maxRecDepth 100000 in
theorem results_sp {fn : Func} (hf : fn.results = #[.cell 6 65, .tmp 7]) {tmps : Array Value} {b : Nat} {x : Value} (h4 : tmps.getD 6 undef = .pointer (some ⟨b, 0, none⟩)) (h5 : tmps.getD 7 undef = x) {W : World} {c0 c1 : Value} (hB : W.heap[b]? = some (.cells #[c0, c1] 65 (0, 0))) :
    (results fn tmps).run Try.prog W = .ok (.tuple #[.agg #[c0, c1], x]) W := by
  have y := fun o => cell_of_row W b o _ 65 (0, 0) hB
  have h4' : tmps[6]?.getD undef = .pointer (some ⟨b, 0, none⟩) := by simpa using h4
  have h5' : tmps[7]?.getD undef = x := by simpa using h5
  simp [results, hf, h4', h5', go_sem, y]
/-- What find answers. -/
def FdP (C : Ct) (w : World) (tb : List Nat) (m : Mc) (a c : Int) (e : Ending) (w' : World) : Prop := Below w.heap.size w w' ∧ ((m.wordB a c = false ∧ ∃ p r, e = .returned (.tuple #[.agg #[.pointer p, .int .i64 r], .bool false])) ∨ (m.wordB a c = true ∧ ∃ (q : Nat) (p : Option Addr) (r : Int), a + c = (q : Int) ∧ SPo C tb q p r ∧ e = .returned (.tuple #[.agg #[.pointer p, .int .i64 r], .bool true])))
theorem wordB_no {a c : Int} (h : ¬ (1 ≤ a + c ∧ a + c ≤ 9223372036854775807)) : m.wordB a c = false := by
  unfold Mc.wordB
  by_cases h1 : -9223372036854775808 ≤ a + c ∧ a + c ≤ 9223372036854775807
  · have h2 : ¬ 1 ≤ a + c := by omega
    simp [h2]
  · simp [h1]
theorem sp_set {wa : World} {ib : Nat} {u v : Value} (h : wa.heap[ib]? = some (.cells #[u, v] 65 (0, 0))) (j : Nat) (c0 c1 : Value) : (((wa.drewN j).setCell ⟨ib, 0, none⟩ c0).setCell ⟨ib, 1, none⟩ c1).heap[ib]? = some (.cells #[c0, c1] 65 (0, 0)) := heap_setCell_same _ ib 1 _ 65 c1 (heap_setCell_same (wa.drewN j) ib 0 _ 65 c0 h)
theorem sp_bel {w wa : World} {B ib : Nat} (h : Below B w wa) (hB : B ≤ ib) (j : Nat) (c0 c1 : Value) : Below B w (((wa.drewN j).setCell ⟨ib, 0, none⟩ c0).setCell ⟨ib, 1, none⟩ c1) := ((below_dN h j).setCell (p := ⟨ib, 0, none⟩) hB c0).setCell (p := ⟨ib, 1, none⟩) hB c1
set_option maxRecDepth 100000 in
set_option maxHeartbeats 1000000 in
theorem find_no (h : PS C N K w ps tb m) {a c s : Int} (hs : wrap64 (a + c) = s) (hno : (a < 0 ∧ c < 0) ∨ s < 1) (hw : m.wordB a c = false) : Calls Try.prog 35 #[ptr C.mb, .int .i64 a, .int .i64 c] w (FdP C w tb m a c) := by
  have HH : Hid (PS C N K w ps tb m) := h
  have HW : Hid (m.wordB a c = false) := hw
  clear h hw
  by_cases h1 : a < 0
  · by_cases h2 : c < 0
    · clear hno hs
      go_enter Try.func35, Try.ntmps35
      go_wp2_with fail
      exact bodyPost_ret (results_sp Try.results35 rfl rfl (al1 w _).2) rfl ⟨(al1 w _).1, .inl ⟨HW.out, _, _, rfl⟩⟩
    · have h3 : s < 1 := by rcases hno with h | h <;> omega
      clear hno
      go_enter Try.func35, Try.ntmps35
      go_wp2_with fail
      exact bodyPost_ret (results_sp Try.results35 rfl rfl (al1 w _).2) rfl ⟨(al1 w _).1, .inl ⟨HW.out, _, _, rfl⟩⟩
  · have h3 : s < 1 := by rcases hno with h | h <;> omega
    clear hno
    go_enter Try.func35, Try.ntmps35
    go_wp2_with fail
    exact bodyPost_ret (results_sp Try.results35 rfl rfl (al1 w _).2) rfl ⟨(al1 w _).1, .inl ⟨HW.out, _, _, rfl⟩⟩
set_option maxRecDepth 100000 in
set_option maxHeartbeats 1000000 in
theorem find_a (h : PS C N K w ps tb m) {a c : Int} {q : Nat} (hs : wrap64 (a + c) = (q : Int)) (hq : a + c = (q : Int)) (h1 : 1 ≤ q) (h2 : q < 4194304) (hna : ¬ (a < 0 ∧ c < 0)) : Calls Try.prog 35 #[ptr C.mb, .int .i64 a, .int .i64 c] w (FdP C w tb m a c) := by
  have HH : Hid (PS C N K w ps tb m) := h
  have HQ : Hid (a + c = (q : Int) ∧ m.wordB a c = decide (0 ≤ hfindI m.hp (q : Int)) ∧ q < 4194304) := ⟨hq, by
    unfold Mc.wordB stk
    rw [hq]
    have e1 : (-9223372036854775808 ≤ (q : Int) ∧ (q : Int) ≤ 9223372036854775807) := by omega
    have e2 : 1 ≤ (q : Int) := by omega
    have e3 : (q : Int) < ((m.ths.length : Int) + 1) * 4194304 := by omega
    have e4 : ¬ 4194304 ≤ (q : Int) := by omega
    simp [e1, e2, e3, e4], h2⟩
  have hdiv : (q : Int).tdiv 4194304 = 0 := by rw [Int.tdiv_eq_ediv_of_nonneg (by omega)]; omega
  have hmod : (q : Int).tmod 4194304 = (q : Int) := by rw [Int.tmod_eq_emod_of_nonneg (by omega)]; omega
  have hq1 : ¬ (q : Int) < 1 := by omega
  obtain ⟨k0, k2, -, -, -, lm, -⟩ := h.mch
  have CH : Hid (∀ W, Below w.heap.size w W → Calls Try.prog 44 #[ptr C.hb, .int .i64 (q : Int)] W (Gives W (.bool (decide (0 ≤ hfindI m.hp (q : Int)))))) := fun W hW => (h.below hW).has ⟨by omega, by omega⟩
  obtain ⟨bv, hbv⟩ : ∃ bv, bv = decide (0 ≤ hfindI m.hp (q : Int)) := ⟨_, rfl⟩
  rw [← hbv] at HQ CH
  clear h hbv hq h1 h2 k0
  by_cases h1 : a < 0
  · have h2 : ¬ c < 0 := fun h2 => hna ⟨h1, h2⟩
    clear hna
    go_enter Try.func35, Try.ntmps35
    go_upto_region 5 with fail
    have BA := al1 w (.cells #[.pointer none, .int .i64 0] 65)
    have z2 := (BA.1.cell (p := ⟨C.mb, 2, none⟩) lm).trans k2
    obtain ⟨ib, hib⟩ : ∃ ib, ib = w.heap.size := ⟨_, rfl⟩
    rw [← hib] at BA ⊢
    generalize w.alloc (.cells #[.pointer none, .int .i64 0] 65) = wa at *
    have hB : Hid (Below w.heap.size w wa) := by rw [← hib]; exact BA.1
    have za := fun o => cell_of_row wa _ o _ 65 (0, 0) BA.2
    have z_0 : wa.cell? ⟨ib, 0, none⟩ = some (.pointer none) := za 0
    have z_1 : wa.cell? ⟨ib, 1, none⟩ = some (.int .i64 0) := za 1
    have y_0 := frozen_of_row wa _ 0 _ 65 BA.2
    have y_1 := frozen_of_row wa _ 1 _ 65 BA.2
    have li := (Array.getElem?_eq_some_iff.1 BA.2).1
    have lm2 : C.mb < wa.heap.size := Nat.lt_of_lt_of_le lm hB.out.size
    have BB : Hid (wa.heap[ib]? = some (.cells #[.pointer none, .int .i64 0] 65 (0, 0)) ∧ w.heap.size ≤ ib) := ⟨BA.2, by omega⟩
    have CH2 := CH.out wa.drew ⟨hB.out.os, hB.out.tape, hB.out.output, hB.out.size, hB.out.block⟩
    clear za BA hib k2
    go_region_with (go_at_call 44; refine CH2.mono ?_; rintro e w2 ⟨rfl, j, rfl⟩)
    all_goals
      go_wp2_with fail
      refine bodyPost_ret (results_sp Try.results35 rfl rfl (sp_set BB.out.1 _ _ _)) rfl ⟨sp_bel hB.out BB.out.2 _ _ _, ?_⟩
      cases bv with
      | true => exact .inr ⟨HQ.out.2.1, q, _, _, HQ.out.1, .inl ⟨HQ.out.2.2, rfl, rfl⟩, rfl⟩
      | false => exact .inl ⟨HQ.out.2.1, _, _, rfl⟩
  · clear hna
    go_enter Try.func35, Try.ntmps35
    go_upto_region 5 with fail
    have BA := al1 w (.cells #[.pointer none, .int .i64 0] 65)
    have z2 := (BA.1.cell (p := ⟨C.mb, 2, none⟩) lm).trans k2
    obtain ⟨ib, hib⟩ : ∃ ib, ib = w.heap.size := ⟨_, rfl⟩
    rw [← hib] at BA ⊢
    generalize w.alloc (.cells #[.pointer none, .int .i64 0] 65) = wa at *
    have hB : Hid (Below w.heap.size w wa) := by rw [← hib]; exact BA.1
    have za := fun o => cell_of_row wa _ o _ 65 (0, 0) BA.2
    have z_0 : wa.cell? ⟨ib, 0, none⟩ = some (.pointer none) := za 0
    have z_1 : wa.cell? ⟨ib, 1, none⟩ = some (.int .i64 0) := za 1
    have y_0 := frozen_of_row wa _ 0 _ 65 BA.2
    have y_1 := frozen_of_row wa _ 1 _ 65 BA.2
    have li := (Array.getElem?_eq_some_iff.1 BA.2).1
    have lm2 : C.mb < wa.heap.size := Nat.lt_of_lt_of_le lm hB.out.size
    have BB : Hid (wa.heap[ib]? = some (.cells #[.pointer none, .int .i64 0] 65 (0, 0)) ∧ w.heap.size ≤ ib) := ⟨BA.2, by omega⟩
    have CH2 := CH.out wa.drew ⟨hB.out.os, hB.out.tape, hB.out.output, hB.out.size, hB.out.block⟩
    clear za BA hib k2
    go_region_with (go_at_call 44; refine CH2.mono ?_; rintro e w2 ⟨rfl, j, rfl⟩)
    all_goals
      go_wp2_with fail
      refine bodyPost_ret (results_sp Try.results35 rfl rfl (sp_set BB.out.1 _ _ _)) rfl ⟨sp_bel hB.out BB.out.2 _ _ _, ?_⟩
      cases bv with
      | true => exact .inr ⟨HQ.out.2.1, q, _, _, HQ.out.1, .inl ⟨HQ.out.2.2, rfl, rfl⟩, rfl⟩
      | false => exact .inl ⟨HQ.out.2.1, _, _, rfl⟩
set_option maxRecDepth 100000 in
set_option maxHeartbeats 1000000 in
theorem find_b (h : PS C N K w ps tb m) {a c P : Int} {q : Nat} (hs : wrap64 (a + c) = (q : Int)) (h1 : 1 ≤ q) (hq2 : (q : Int) ≤ 9223372036854775807) (hP : (q : Int).tdiv 4194304 = P) (hP1 : (m.ths.length : Int) < P) (hw : m.wordB a c = false) (hna : ¬ (a < 0 ∧ c < 0)) : Calls Try.prog 35 #[ptr C.mb, .int .i64 a, .int .i64 c] w (FdP C w tb m a c) := by
  have HH : Hid (PS C N K w ps tb m) := h
  have HW : Hid (m.wordB a c = false) := hw
  have hq1 : ¬ (q : Int) < 1 := by omega
  obtain ⟨o, cp, k4, -⟩ := h.row
  have lm := h.size
  have hP0 : (P == 0) = false := by simp; omega
  have hP4 : wrap64 P = P := wrap_id (by omega) (by rw [Int.tdiv_eq_ediv_of_nonneg (by omega)] at hP; omega)
  clear h hw h1 hq2
  by_cases h1 : a < 0
  · have h2 : ¬ c < 0 := fun h2 => hna ⟨h1, h2⟩
    clear hna
    go_enter Try.func35, Try.ntmps35
    go_wp2_with fail
    exact bodyPost_ret (results_sp Try.results35 rfl rfl (al1 w _).2) rfl ⟨(al1 w _).1, .inl ⟨HW.out, _, _, rfl⟩⟩
  · clear hna
    go_enter Try.func35, Try.ntmps35
    go_wp2_with fail
    exact bodyPost_ret (results_sp Try.results35 rfl rfl (al1 w _).2) rfl ⟨(al1 w _).1, .inl ⟨HW.out, _, _, rfl⟩⟩
set_option maxRecDepth 100000 in
set_option maxHeartbeats 1000000 in
theorem find_d (h : PS C N K w ps tb m) {a c P : Int} {q t' b' z : Nat} (hs : wrap64 (a + c) = (q : Int)) (hq : a + c = (q : Int)) (h1 : 1 ≤ q) (hP : (q : Int).tdiv 4194304 = P) (hz : (q : Int).tmod 4194304 = (z : Int)) (hP1 : P = (t' : Int) + 1) (hb' : tb[t']? = some b') (hqz : q = (t' + 1) * 4194304 + z) (hz1 : z < 4194304) (hw : m.wordB a c = true) (hna : ¬ (a < 0 ∧ c < 0)) : Calls Try.prog 35 #[ptr C.mb, .int .i64 a, .int .i64 c] w (FdP C w tb m a c) := by
  have HH : Hid (PS C N K w ps tb m) := h
  have HW : Hid (m.wordB a c = true ∧ a + c = (q : Int) ∧ SPo C tb q (some ⟨b', 2, none⟩) (z : Int)) := ⟨hw, hq, .inr ⟨t', b', z, hb', hqz, hz1, rfl, rfl⟩⟩
  have hq1 : ¬ (q : Int) < 1 := by omega
  obtain ⟨o, cp, k4, hrow⟩ := h.row
  obtain ⟨g, rfl, lg, kg⟩ := hrow t' b' hb'
  have lm := h.size
  have hP0 : (P == 0) = false := by simp; omega
  have hfew := h.few
  have htl := h.tl
  have hbl := (List.getElem?_eq_some_iff.1 hb').1
  have hP2 : ¬ (m.ths.length : Int) < P := by omega
  have hP4 : wrap64 P = P := wrap_id (by omega) (by omega)
  have hP3 : wrap64 (P - 1) = (t' : Int) := (wrap_id (by omega) (by omega)).trans (by omega)
  have ht0 : (0 : Int) ≤ (t' : Int) := by omega
  have ht1 : (t' : Int) < (m.ths.length : Int) := by omega
  clear h hw h1 hrow hqz hz1 hb' hq hP1 hfew htl hbl
  by_cases h1 : a < 0
  · have h2 : ¬ c < 0 := fun h2 => hna ⟨h1, h2⟩
    clear hna
    go_enter Try.func35, Try.ntmps35
    go_wp2_with fail
    exact bodyPost_ret (results_sp Try.results35 rfl rfl (al1 w _).2) rfl ⟨(al1 w _).1, .inr ⟨HW.out.1, q, _, _, HW.out.2.1, HW.out.2.2, rfl⟩⟩
  · clear hna
    go_enter Try.func35, Try.ntmps35
    go_wp2_with fail
    exact bodyPost_ret (results_sp Try.results35 rfl rfl (al1 w _).2) rfl ⟨(al1 w _).1, .inr ⟨HW.out.1, q, _, _, HW.out.2.1, HW.out.2.2, rfl⟩⟩
end
end Go.Proofs.Ytpoepbmomfohlaa
namespace Go.Proofs.Ytpoepbmomfohlaa
open Go.RowKit
set_option linter.all false
section
variable {C : Ct} {N N' : Nat} {K : Nat → Obj → Prop} {w w' w1 : World} {ps : List Int} {tb tb' : List Nat} {m m' : Mc} {t b : Nat} {th th' : Th}
theorem find_c (h : PS C N K w ps tb m) {a c : Int} (ha : I64 a) (hc : I64 c) : Calls Try.prog 35 #[ptr C.mb, .int .i64 a, .int .i64 c] w (FdP C w tb m a c) := by
  by_cases hno : (a < 0 ∧ c < 0) ∨ wrap64 (a + c) < 1
  · refine find_no h rfl hno (wordB_no ?_)
    unfold wrap64 at hno
    unfold I64 at ha hc
    omega
  · have hna : ¬ (a < 0 ∧ c < 0) := fun h => hno (.inl h)
    have hs1 : 1 ≤ wrap64 (a + c) := Int.not_lt.1 (fun h => hno (.inr h))
    have hs : wrap64 (a + c) = a + c := by
      unfold wrap64 at hs1 ⊢
      unfold I64 at ha hc
      omega
    have hle : wrap64 (a + c) ≤ 9223372036854775807 := by unfold wrap64; omega
    rw [hs] at hs1 hle
    obtain ⟨q, hq⟩ : ∃ q : Nat, a + c = (q : Int) := ⟨(a + c).toNat, by omega⟩
    rw [hq] at hs hs1 hle
    by_cases h1 : q < 4194304
    · exact find_a h (by rw [hq]; exact hs) hq (by omega) h1 hna
    · have htl := h.tl
      have hfew := h.few
      have hdiv : (q : Int).tdiv 4194304 = ((q / 4194304 : Nat) : Int) := by rw [Int.tdiv_eq_ediv_of_nonneg (by omega)]; omega
      have hmod : (q : Int).tmod 4194304 = ((q % 4194304 : Nat) : Int) := by rw [Int.tmod_eq_emod_of_nonneg (by omega)]; omega
      by_cases h2 : m.ths.length < q / 4194304
      · refine find_b h (by rw [hq]; exact hs) (by omega) hle hdiv (by omega) ?_ hna
        unfold Mc.wordB stk
        rw [hq]
        have e3 : ¬ (q : Int) < ((m.ths.length : Int) + 1) * 4194304 := by omega
        simp [e3]
      · obtain ⟨t', ht'⟩ : ∃ t', q / 4194304 = t' + 1 := ⟨q / 4194304 - 1, by omega⟩
        obtain ⟨b', hb'⟩ : ∃ b', tb[t']? = some b' := ⟨_, List.getElem?_eq_getElem (by omega)⟩
        refine find_d (t' := t') (b' := b') (z := q % 4194304) h (by rw [hq]; exact hs) hq (by omega) hdiv hmod (by omega) hb' (by omega) (by omega) ?_ hna
        unfold Mc.wordB stk
        rw [hq]
        have e1 : (-9223372036854775808 ≤ (q : Int) ∧ (q : Int) ≤ 9223372036854775807) := by omega
        have e2 : 1 ≤ (q : Int) := by omega
        have e3 : (q : Int) < ((m.ths.length : Int) + 1) * 4194304 := by omega
        have e4 : 4194304 ≤ (q : Int) := by omega
        simp [e1, e2, e3, e4]
def WdC (C : Ct) (N : Nat) (K : Nat → Obj → Prop) (ps : List Int) (tb : List Nat) (m : Mc) (a c : Int) (e : Ending) (w' : World) : Prop := PS C N K w' ps tb m ∧ ((Hid (m.wordB a c = false) ∧ e = thr 9) ∨ (Hid (m.wordB a c = true) ∧ ∃ (q : Nat) (p : Option Addr) (r : Int), Hid (a + c = (q : Int) ∧ SPo C tb q p r) ∧ e = .returned (.agg #[.pointer p, .int .i64 r])))
set_option maxRecDepth 100000 in
theorem results_s1 {fn : Func} (hf : fn.results = #[.cell 6 65]) {tmps : Array Value} {b : Nat} (h4 : tmps.getD 6 undef = .pointer (some ⟨b, 0, none⟩)) {W : World} {c0 c1 : Value} (hB : W.heap[b]? = some (.cells #[c0, c1] 65 (0, 0))) :
    (results fn tmps).run Try.prog W = .ok (.agg #[c0, c1]) W := by
  have y := fun o => cell_of_row W b o _ 65 (0, 0) hB
  have h4' : tmps[6]?.getD undef = .pointer (some ⟨b, 0, none⟩) := by simpa using h4
  simp [results, hf, h4', go_sem, y]
set_option maxRecDepth 100000 in
set_option maxHeartbeats 1000000 in
theorem word_c (h : PS C N K w ps tb m) {a c : Int} (ha : I64 a) (hc : I64 c) : Calls Try.prog 25 #[ptr C.mb, .int .i64 a, .int .i64 c] w (WdC C N K ps tb m a c) := by
  have F1 : Hid (∀ W, Below w.heap.size w W → Calls Try.prog 35 #[ptr C.mb, .int .i64 a, .int .i64 c] W (FdP C W tb m a c)) := fun W hW => find_c (h.below hW) ha hc
  have HH : Hid (PS C N K w ps tb m) := h
  clear h
  have F2 := F1.out _ (al1 w (.cells #[.pointer none, .int .i64 0] 65)).1
  have BA : Hid _ := al1 w (.cells #[.pointer none, .int .i64 0] 65)
  cases hw : m.wordB a c with
  | false =>
    have F3 := F2.mono (R' := fun e w' => Below (w.alloc (.cells #[.pointer none, .int .i64 0] 65)).heap.size (w.alloc (.cells #[.pointer none, .int .i64 0] 65)) w' ∧ ∃ p r, e = .returned (.tuple #[.agg #[.pointer p, .int .i64 r], .bool false])) (fun e w' h => ⟨h.1, by
      rcases h.2 with ⟨-, x⟩ | ⟨x, -⟩
      · exact x
      · rw [hw] at x
        cases x⟩)
    have HW : Hid (m.wordB a c = false) := hw
    have BC : Hid (Below w.heap.size w (w.alloc (.cells #[.pointer none, .int .i64 0] 65))) := BA.out.1
    have bc := BA.out.2
    clear hw BA F2
    obtain ⟨ib, hib⟩ : ∃ ib, ib = w.heap.size := ⟨_, rfl⟩
    rw [← hib] at bc
    go_enter Try.func25, Try.ntmps25
    go_upto_region 1 with fail
    rw [← hib]
    generalize w.alloc (.cells #[.pointer none, .int .i64 0] 65) = wa at *
    clear hib
    have li := (Array.getElem?_eq_some_iff.1 bc).1
    go_wp2_with (go_at_call 35; refine F3.mono ?_; rintro e w2 ⟨h2, p, r, rfl⟩; have bd := (h2.block _ li).trans bc; have z_0 := cell_of_row w2 _ 0 _ 65 (0, 0) bd; have z_1 := cell_of_row w2 _ 1 _ 65 (0, 0) bd; have y_0 := frozen_of_row w2 _ 0 _ 65 bd; have y_1 := frozen_of_row w2 _ 1 _ 65 bd; have li2 := (Array.getElem?_eq_some_iff.1 bd).1)
    exact ⟨rfl, HH.out.below (BC.out.trans ((h2.trans (((Below.refl _ _).alloc (Nat.le_refl _) _).mono h2.size)).mono BC.out.size)), .inl ⟨HW.out, rfl⟩⟩
  | true =>
    have F3 := F2.mono (R' := fun e w' => Below (w.alloc (.cells #[.pointer none, .int .i64 0] 65)).heap.size (w.alloc (.cells #[.pointer none, .int .i64 0] 65)) w' ∧ ∃ (q : Nat) (p : Option Addr) (r : Int), Hid (a + c = (q : Int) ∧ SPo C tb q p r) ∧ e = .returned (.tuple #[.agg #[.pointer p, .int .i64 r], .bool true])) (fun e w' h => ⟨h.1, by
      rcases h.2 with ⟨x, -⟩ | ⟨-, q, p, r, x1, x2, x3⟩
      · rw [hw] at x
        cases x
      · exact ⟨q, p, r, ⟨x1, x2⟩, x3⟩⟩)
    have HW : Hid (m.wordB a c = true) := hw
    have BC : Hid (Below w.heap.size w (w.alloc (.cells #[.pointer none, .int .i64 0] 65))) := BA.out.1
    have bc := BA.out.2
    clear hw BA F2
    obtain ⟨ib, hib⟩ : ∃ ib, ib = w.heap.size := ⟨_, rfl⟩
    rw [← hib] at bc
    go_enter Try.func25, Try.ntmps25
    go_upto_region 1 with fail
    rw [← hib]
    have hbi : w.heap.size ≤ ib := by omega
    generalize w.alloc (.cells #[.pointer none, .int .i64 0] 65) = wa at *
    clear hib
    have li := (Array.getElem?_eq_some_iff.1 bc).1
    go_wp2_with (go_at_call 35; refine F3.mono ?_; rintro e w2 ⟨h2, q, p, r, hs, rfl⟩; have bd := (h2.block _ li).trans bc; have z_0 := cell_of_row w2 _ 0 _ 65 (0, 0) bd; have z_1 := cell_of_row w2 _ 1 _ 65 (0, 0) bd; have y_0 := frozen_of_row w2 _ 0 _ 65 bd; have y_1 := frozen_of_row w2 _ 1 _ 65 bd; have li2 := (Array.getElem?_eq_some_iff.1 bd).1)
    have bb := sp_set (wa := w2) bd 0 (.pointer p) (.int .i64 r)
    have be := sp_bel (B := w.heap.size) (BC.out.trans (h2.mono BC.out.size)) hbi 0 (.pointer p) (.int .i64 r)
    have bb' : ((w2.setCell ⟨ib, 0, none⟩ (.pointer p)).setCell ⟨ib, 1, none⟩ (.int .i64 r)).heap[ib]? = some (.cells #[.pointer p, .int .i64 r] 65 (0, 0)) := bb
    have be' : Below w.heap.size w ((w2.setCell ⟨ib, 0, none⟩ (.pointer p)).setCell ⟨ib, 1, none⟩ (.int .i64 r)) := be
    refine bodyPost_ret (results_s1 Try.results25 rfl (((al1 _ _).1.block ib (Array.getElem?_eq_some_iff.1 bb').1).trans bb')) rfl ⟨HH.out.below (be'.trans ((al1 _ _).1.mono be'.size)), .inr ⟨HW.out, q, p, r, hs, rfl⟩⟩
theorem PS.getS (h : PS C N K w ps tb m) {q : Nat} {p : Option Addr} {r : Int} (hp : SPo C tb q p r) : Calls Try.prog 34 #[.pointer p, .int .i64 r] w (Gives w (.int .i64 (m.mem q))) := by
  rcases hp with ⟨h1, rfl, rfl⟩ | ⟨t', b', z, hb, rfl, hz, rfl, rfl⟩
  · exact h.getH q h1
  · have htl := h.tl
    have hl := (List.getElem?_eq_some_iff.1 hb).1
    exact h.getT (th := m.ths[t']) (List.getElem?_eq_getElem (by omega)) hb z hz
theorem PS.setS (h : PS C N K w ps tb m) {q : Nat} {p : Option Addr} {r : Int} (hp : SPo C tb q p r) {n : Int} (hn : I64 n) : Calls Try.prog 17 #[.pointer p, .int .i64 r, .int .i64 n] w (PP C N K ps tb (.tuple #[]) { m with mem := upd m.mem q n }) := by
  rcases hp with ⟨h1, rfl, rfl⟩ | ⟨t', b', z, hb, rfl, hz, rfl, rfl⟩
  · exact h.setH q h1 hn
  · have htl := h.tl
    have hl := (List.getElem?_eq_some_iff.1 hb).1
    exact h.setT (th := m.ths[t']) (List.getElem?_eq_getElem (by omega)) hb z hz hn
set_option maxRecDepth 100000 in
set_option maxHeartbeats 1000000 in
theorem spget (h : PS C N K w ps tb m) {q : Nat} {p : Option Addr} {r : Int} (hp : SPo C tb q p r) : Calls Try.prog 26 #[.agg #[.pointer p, .int .i64 r]] w (fun e w' => e = .returned (.int .i64 (m.mem q)) ∧ PS C N K w' ps tb m) := by
  have h2 := h.below (al1 w (.cells #[.pointer p, .int .i64 r] 65)).1
  have G := h2.getS hp
  have HH : Hid _ := h2
  clear h h2 hp
  go_enter Try.func26, Try.ntmps26
  go_wp2_with (go_at_call 34; refine G.mono ?_; rintro e w2 ⟨rfl, j, rfl⟩)
  go_ret
  exact ⟨rfl, HH.out.drewN j⟩
set_option maxRecDepth 100000 in
set_option maxHeartbeats 1000000 in
theorem spset (h : PS C N K w ps tb m) {q : Nat} {p : Option Addr} {r : Int} (hp : SPo C tb q p r) {n : Int} (hn : I64 n) : Calls Try.prog 27 #[.agg #[.pointer p, .int .i64 r], .int .i64 n] w (fun e w' => e = .returned (.tuple #[]) ∧ PS C N K w' ps tb { m with mem := upd m.mem q n }) := by
  have h2 := h.below (al1 w (.cells #[.pointer p, .int .i64 r] 65)).1
  have G := h2.setS hp hn
  clear h h2 hp
  go_enter Try.func27, Try.ntmps27
  go_wp2_with (go_at_call 17; refine G.mono ?_; rintro e w2 ⟨rfl, h2⟩)
  go_end0
  exact ⟨rfl, h2⟩
end
end Go.Proofs.Ytpoepbmomfohlaa
namespace Go.Proofs.Ytpoepbmomfohlaa
open Go.RowKit
set_option linter.all false
section
variable {C : Ct} {N N' : Nat} {K : Nat → Obj → Prop} {w w' w1 : World} {ps : List Int} {tb tb' : List Nat} {m m' : Mc} {t b : Nat} {th th' : Th}
/-- An instruction in memory. -/
structure IN (C : Ct) (cb f : Nat) (x : Mi) : Prop where
  lt : cb < C.base
  c0 : C.w0.cell? ⟨cb, f, none⟩ = some (.int .i64 x.op)
  c1 : C.w0.cell? ⟨cb, f + 1, none⟩ = some (.int .i64 x.a)
  c2 : C.w0.cell? ⟨cb, f + 2, none⟩ = some (.int .i64 x.b)
  c3 : C.w0.cell? ⟨cb, f + 3, none⟩ = some (.int .i64 x.c)
  c4 : C.w0.cell? ⟨cb, f + 4, none⟩ = some (.int .i64 x.d)
  c5 : C.w0.cell? ⟨cb, f + 5, none⟩ = some (.int .i64 x.e)
theorem PS.insc (h : PS C N K w ps tb m) {cb f : Nat} {x : Mi} (i : IN C cb f x) : w.cell? ⟨cb, f, none⟩ = some (.int .i64 x.op) ∧ w.cell? ⟨cb, f + 1, none⟩ = some (.int .i64 x.a) ∧ w.cell? ⟨cb, f + 2, none⟩ = some (.int .i64 x.b) ∧ w.cell? ⟨cb, f + 3, none⟩ = some (.int .i64 x.c) ∧ w.cell? ⟨cb, f + 4, none⟩ = some (.int .i64 x.d) ∧ w.cell? ⟨cb, f + 5, none⟩ = some (.int .i64 x.e) ∧ cb < w.heap.size := by
  have k : ∀ o, w.cell? ⟨cb, o, none⟩ = C.w0.cell? ⟨cb, o, none⟩ := fun o => h.bl.cell (p := ⟨cb, o, none⟩) i.lt
  obtain ⟨pv, own, L, hp, hk⟩ := h.pr
  have := hp.ow.bs
  have := i.lt
  exact ⟨(k _).trans i.c0, (k _).trans i.c1, (k _).trans i.c2, (k _).trans i.c3, (k _).trans i.c4, (k _).trans i.c5, by omega⟩
theorem PS.insx (h : PS C N K w ps tb m) {k : Nat} {x : Mi} (hx : C.code[k]? = some x) : ∃ cb f, C.co = some ⟨cb, f, none⟩ ∧ IN C cb (f + k * 6) x := by
  obtain ⟨cb, f, e, hb, c0, c1, c2, c3, c4, c5⟩ := h.cd.at_ k x hx
  have kk : ∀ o, w.cell? ⟨cb, o, none⟩ = C.w0.cell? ⟨cb, o, none⟩ := fun o => h.bl.cell (p := ⟨cb, o, none⟩) hb
  exact ⟨cb, f, e, hb, (kk _).symm.trans c0, (kk _).symm.trans c1, (kk _).symm.trans c2, (kk _).symm.trans c3, (kk _).symm.trans c4, (kk _).symm.trans c5⟩
/-- What due answers. -/
def DuP (C : Ct) (pc : Int) (w : World) (e : Ending) (w' : World) : Prop := Below w.heap.size w w' ∧ ((Hid (insAt C.code pc = (Mi.z, false)) ∧ e = .returned (.pointer none)) ∨ ∃ cb f x, Hid (insAt C.code pc = (x, true) ∧ IN C cb f x) ∧ e = .returned (.pointer (some ⟨cb, f, none⟩)))
set_option maxRecDepth 100000 in
set_option maxHeartbeats 1000000 in
theorem due_c (h : PS C N K w ps tb m) {pc : Int} (d0 : w.cell? ⟨b, 0, none⟩ = some (ptr C.mb)) (d5 : w.cell? ⟨b, 5, none⟩ = some (.int .i64 pc)) (lb : b < w.heap.size) : Calls Try.prog 21 #[ptr b] w (DuP C pc w) := by
  obtain ⟨k0, -, -, -, -, lm, -⟩ := h.mch
  have hcf := h.cd.few
  by_cases h1 : pc < 0
  · have HI : Hid (insAt C.code pc = (Mi.z, false)) := by show _ = _; unfold insAt; rw [if_pos h1]
    clear h
    go_enter Try.func21, Try.ntmps21
    go_wp2_with fail
    go_quiet (fail)
    go_wp2_with fail
    go_ret
    exact ⟨below_dN (Below.refl _ _) _, .inl ⟨HI.out, rfl⟩⟩
  · obtain ⟨k, rfl⟩ : ∃ k : Nat, pc = (k : Int) := ⟨pc.toNat, by omega⟩
    have h0 : (0 : Int) ≤ (k : Int) := by omega
    cases hx : C.code[k]? with
    | none =>
      have HI : Hid (insAt C.code (k : Int) = (Mi.z, false)) := by
        show _ = _
        unfold insAt
        rw [if_neg h1, Int.toNat_natCast, hx]
      have hl : (C.code.length : Int) ≤ (k : Int) := by have := List.getElem?_eq_none_iff.1 hx; omega
      clear hx h
      go_enter Try.func21, Try.ntmps21
      go_wp2_with fail
      go_quiet (fail)
      go_wp2_with fail
      go_ret
      exact ⟨below_dN (Below.refl _ _) _, .inl ⟨HI.out, rfl⟩⟩
    | some x =>
      have HI : Hid (insAt C.code (k : Int) = (x, true)) := by
        show _ = _
        unfold insAt
        rw [if_neg h1, Int.toNat_natCast, hx]
      have hl : (k : Int) < (C.code.length : Int) := by have := (List.getElem?_eq_some_iff.1 hx).1; omega
      obtain ⟨cb, f, e, hin⟩ := h.insx hx
      have HN : Hid (IN C cb (f + k * 6) x) := hin
      rw [e] at k0
      clear hx h e hin
      go_enter Try.func21, Try.ntmps21
      go_wp2_with fail
      go_quiet (fail)
      go_wp2_with fail
      go_quiet (fail)
      go_wp2_with fail
      go_ret
      exact ⟨below_dN (below_dN (Below.refl _ _) _) _, .inr ⟨cb, f + k * 6, x, ⟨HI.out, HN.out⟩, rfl⟩⟩
end
end Go.Proofs.Ytpoepbmomfohlaa
