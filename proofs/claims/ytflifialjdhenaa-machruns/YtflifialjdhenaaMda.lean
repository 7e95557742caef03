/- The document's machine: calls of what a slot says. -/
import Derived.Test.YtflifialjdhenaaMcy
namespace Go.Proofs.Ytflifialjdhenaa
open Go.RowKit
set_option linter.all false
def Mc.catM (m : Mc) (t : Nat) (th : Th) (x : Mi) : Mc := match m.rd t x.a with
  | (none, m1) => m1
  | (some n, _) => m.caM t th x n
section
variable {base mb : Nat} {co : Option Addr} {cc : Nat} {code : List Mi} {N ib : Nat} {x : Mi} {w w' : World} {L L' : Ly} {m m' : Mc} {t : Nat} {th th' : Th}
set_option maxRecDepth 100000 in
set_option maxHeartbeats 2000000 in
theorem ctl_callat (h : MS base mb co cc code N w L m) (ht : m.ths[t]? = some th) (hx : x.ok) (hop : x.op = 9) (hN : N + 1 ≤ 1000000) : Calls Try.prog 35 #[.pointer (some ⟨mb, 0, none⟩), .int .i64 t, .agg (miC x)] w (MSP base mb co cc code (N + 1) w L (m.catM t th x)) := by
  obtain ⟨M0, K0⟩ := MX.start h x
  have M0 : Hid (MX base mb co cc code N w.heap.size x (w.alloc (.cells #[.int .i64 x.op, .int .i64 x.a, .int .i64 x.b, .int .i64 x.c, .int .i64 x.d, .int .i64 x.e] 72)) L m) := M0
  have FIN : Hid (∀ w' L' m', m' = m.catM t th x → MX base mb co cc code (N + 1) w.heap.size x w' L' m' → Kf L L' (w.alloc (.cells #[.int .i64 x.op, .int .i64 x.a, .int .i64 x.b, .int .i64 x.c, .int .i64 x.d, .int .i64 x.e] 72)) w' → MSP base mb co cc code (N + 1) w L (m.catM t th x) (.returned (.tuple #[])) w') := fun w' L' m' e hm hk => ⟨rfl, L', e ▸ hm.ms, Kf.trans K0 hk⟩
  have HT : Hid (m.ths[t]? = some th) := ht
  have HX : Hid x.ok := hx
  have HM64 : Hid (∀ a, I64 (m.mem a)) := h.ok.mem
  have HS : Hid (MS base mb co cc code N w L m) := h
  have HOP : Hid (x.op = 9) := hop
  show Calls Try.prog 35 #[.pointer (some ⟨mb, 0, none⟩), .int .i64 t, .agg #[.int .i64 x.op, .int .i64 x.a, .int .i64 x.b, .int .i64 x.c, .int .i64 x.d, .int .i64 x.e]] w _
  clear h K0 ht hx hop
  go_enter Try.func35, Try.ntmps35
  go_upto_region 1 with fail
  obtain ⟨ib, hib⟩ : ∃ ib, ib = w.heap.size := ⟨_, rfl⟩
  rw [← hib] at M0 FIN ⊢
  generalize w.alloc (.cells #[.int .i64 x.op, .int .i64 x.a, .int .i64 x.b, .int .i64 x.c, .int .i64 x.d, .int .i64 x.e] 72) = wa at *
  obtain ⟨i0, i1, i2, i3, i4, i5, il⟩ := M0.out.cells
  clear hib
  have hop := HOP.out
  have HFR : Hid ((stk t ≤ th.frame ∧ th.frame < stk (t + 1)) ∧ I64 th.pc) := ⟨HS.out.mr.th.fr t th HT.out, (HS.out.ok.th t th HT.out).1⟩
  obtain ⟨g, hg, u3, ug, um, ui, v0, v1, v3, v4', v5, uf⟩ := M0.out.thr HT.out
  have ui0 : (0 : Int) ≤ (t : Int) := by omega
  rcases slot_cases (m.fr t) t x.a with ⟨q, hq⟩ | ⟨q, hq⟩
  · obtain ⟨n, hn⟩ : ∃ n, n = m.mem q.toNat := ⟨_, rfl⟩
    have HN64 : Hid (I64 n) := by rw [hn]; exact HM64.out _
    have hrd := Mc.rd_some hq
    rw [← hn] at hrd
    have HRD : Hid (m.rd t x.a = (some n, m)) := hrd
    have RA : Hid (Calls Try.prog 31 #[.pointer (some ⟨mb, 0, none⟩), .int .i64 t, .int .i64 x.a] wa (fun e w' => e = .returned (.tuple #[.int .i64 n, .bool true]) ∧ ∃ j, w' = wa.drewN j)) := by
      rw [hn]
      refine (read40 M0.out.ms.mr HT.out HX.out.2.1).mono ?_
      have hq2 := hq
      rw [fr_eq HT.out] at hq2
      rintro e w' (⟨z, hz, -, rfl, j, rfl⟩ | ⟨z, hz, -⟩)
      · rw [hq2] at hz
        simp at hz
        subst hz
        exact ⟨rfl, j, rfl⟩
      · rw [hq2] at hz
        simp at hz
    have HG0 : Hid (L.to_ = some ⟨g, 0, none⟩) := hg
    clear hq hn hrd hg
    go_upto_region 10 with (go_at_call 31; refine RA.out.mono ?_; rintro e w1 ⟨rfl, j, rfl⟩)
    have M1 : Hid (MX base mb co cc code N ib x (wa.drewN j) L m) := M0.out.drewN j
    have KB : Hid (Kf L L wa (wa.drewN j)) := (Kf.refl L wa).drewN j
    generalize wa.drewN j = wb at *
    clear u3 ug um ui v0 v1 v3 v4' v5 uf i0 i1 i2 i3 i4 i5 il RA
    obtain ⟨i0, i1, i2, i3, i4, i5, il⟩ := M1.out.cells
    obtain ⟨g', hg, u3, ug, um, ui, v0, v1, v3, v4', v5, uf⟩ := M1.out.thr HT.out
    obtain rfl : g = g' := by have := HG0.out; rw [hg] at this; simpa using this.symm
    rcases slot_cases (m.fr t) t x.b with ⟨y, hy⟩ | ⟨y, hy⟩
    · have R1 : Calls Try.prog 32 #[.pointer (some ⟨mb, 0, none⟩), .int .i64 t, .int .i64 x.b] wb (fun e w' => e = .returned (.tuple #[.int .i64 y, .bool true]) ∧ w' = wb) := slot_yes M1.out.ms.mr HT.out HX.out.2.2.1 (by rw [← fr_eq HT.out]; exact hy)
      have HW : Hid (m.setT t { th with calls := th.calls ++ [(th.pc, x.e, th.frame)], frame := y, pc := n } = m.catM t th x) := by show _ = _; unfold Mc.catM; rw [HRD.out]; show _ = m.caM t th x n; unfold Mc.caM; rw [hy]
      have HYB : Hid (stk t ≤ y ∧ y < stk (t + 1)) := by
        have h9 := hy
        rw [fr_eq HT.out] at h9
        exact slotR_in h9 HFR.out.1
      obtain ⟨r, hr, v2⟩ := M1.out.callsAt HT.out hg
      have AP : Hid (∀ ty, ∃ v' w1, (Builtin.append_ #[39, 39] ty #[.slice r.o th.calls.length r.c, .slice (some ⟨wb.heap.size, 0, none⟩) 1 1]).run Try.prog (wb.drew.alloc (.cells #[.int .i64 th.pc, .int .i64 x.e, .int .i64 th.frame] 96)) = .ok v' w1 ∧ ∃ o' c', v' = .slice o' (th.calls.length + 1) c' ∧ w1.heap[g]? = wb.drew.heap[g]? ∧ w1.heap[ib]? = wb.drew.heap[ib]? ∧ g < w1.heap.size ∧ (∀ o, w1.frozen? ⟨g, o, none⟩ = false) ∧ ∃ L', L'.to_ = L.to_ ∧ MX base mb co cc code (N + 1) ib x (w1.setCell ⟨g, t * 6 + 2, none⟩ (.slice o' (th.calls.length + 1) c')) L' (m.setT t { th with calls := th.calls ++ [(th.pc, x.e, th.frame)] }) ∧ Kf L L' wb.drew (w1.setCell ⟨g, t * 6 + 2, none⟩ (.slice o' (th.calls.length + 1) c'))) := fun ty => run_push M1.out.drew HT.out hg hr (c := (th.pc, x.e, th.frame)) ⟨HFR.out.2, HX.out.2.2.2.2.2, HFR.out.1⟩ hN ty rfl
      have HG : Hid (L.to_ = some ⟨g, 0, none⟩) := hg
      have SS0 : (fun W => W.cell? ⟨g, t * 6, none⟩ = some (.int .i64 th.pc) ∧ W.cell? ⟨g, t * 6 + 1, none⟩ = some (.int .i64 th.frame) ∧ W.cell? ⟨ib, 5, none⟩ = some (.int .i64 x.e)) wb.drew := ⟨v0, v1, i5⟩
      have SS1 : (fun W => W.cell? ⟨g, t * 6, none⟩ = some (.int .i64 th.pc) ∧ W.cell? ⟨g, t * 6 + 1, none⟩ = some (.int .i64 th.frame) ∧ W.cell? ⟨ib, 5, none⟩ = some (.int .i64 x.e)) (wb.drew.alloc (.cells #[.int .i64 th.pc, .int .i64 x.e, .int .i64 th.frame] 96)) := ⟨((al1 wb.drew _).1.cell (p := ⟨g, t * 6, none⟩) ug).trans v0, ((al1 wb.drew _).1.cell (p := ⟨g, t * 6 + 1, none⟩) ug).trans v1, ((al1 wb.drew _).1.cell (p := ⟨ib, 5, none⟩) il).trans i5⟩
      have SSX : Hid (∀ w8 : World, w8.heap[g]? = wb.drew.heap[g]? → w8.heap[ib]? = wb.drew.heap[ib]? → (fun W => W.cell? ⟨g, t * 6, none⟩ = some (.int .i64 th.pc) ∧ W.cell? ⟨g, t * 6 + 1, none⟩ = some (.int .i64 th.frame) ∧ W.cell? ⟨ib, 5, none⟩ = some (.int .i64 x.e)) w8) := fun w8 h1 h2 => ⟨(World.cell?_of_block (a := ⟨g, t * 6, none⟩) h1).trans v0, (World.cell?_of_block (a := ⟨g, t * 6 + 1, none⟩) h1).trans v1, (World.cell?_of_block (a := ⟨ib, 5, none⟩) h2).trans i5⟩
      have SSZ : Hid (∀ w8 : World, w8.heap[g]? = wb.drew.heap[g]? → w8.cell? ⟨g, t * 6 + 2, none⟩ = some (.slice r.o th.calls.length r.c)) := fun w8 h1 => (World.cell?_of_block (a := ⟨g, t * 6 + 2, none⟩) h1).trans v2
      have nig : ib ≠ g := (M1.out.own HT.out hg).2.1
      have SSY : Hid (∀ (w8 : World) (u : Value), w8.heap[g]? = wb.drew.heap[g]? → w8.heap[ib]? = wb.drew.heap[ib]? → (fun W => W.cell? ⟨g, t * 6, none⟩ = some (.int .i64 th.pc) ∧ W.cell? ⟨g, t * 6 + 1, none⟩ = some (.int .i64 th.frame) ∧ W.cell? ⟨ib, 5, none⟩ = some (.int .i64 x.e)) (w8.setCell ⟨g, t * 6 + 2, none⟩ u)) := fun w8 u h1 h2 => by
        obtain ⟨a1, a2, a3⟩ := SSX.out w8 h1 h2
        exact ⟨(World.cell?_setCell_other w8 ⟨g, t * 6 + 2, none⟩ ⟨g, t * 6, none⟩ u (by simp)).trans a1, (World.cell?_setCell_other w8 ⟨g, t * 6 + 2, none⟩ ⟨g, t * 6 + 1, none⟩ u (by simp)).trans a2, (World.cell?_setCell_other w8 ⟨g, t * 6 + 2, none⟩ ⟨ib, 5, none⟩ u (by simp)).trans a3⟩
      clear hy hr hg
      go_upto_region 12 with (go_at_call 32; refine R1.mono ?_; rintro e wx ⟨rfl, hwx⟩; replace hwx := hwx.symm; subst hwx)
      refine wp_region_noPanic ?_
      refine wp_region_held_drew (S := fun W => W.cell? ⟨g, t * 6, none⟩ = some (.int .i64 th.pc) ∧ W.cell? ⟨g, t * 6 + 1, none⟩ = some (.int .i64 th.frame) ∧ W.cell? ⟨ib, 5, none⟩ = some (.int .i64 x.e)) (by as_aux_lemma => kernel_rfl) SS0 (fun hHeld => ?_)
      refine rtk 0 ?_
      refine rtk 1 ?_
      refine rtk 2 ?_
      refine rtk 3 ?_
      refine rtk 5 ?_
      refine rtk 6 ?_
      refine rtk 7 ?_
      refine rtk 8 ?_
      refine rtk 9 ?_
      refine rtk 10 ?_
      refine rtk 11 ?_
      refine rtk 12 ?_
      refine rtk 13 ?_
      refine rtk 14 ?_
      refine rtk 15 ?_
      refine rr2 4 16 (fun K hK => ?_) (fun K hK => ?_)
      · go_simp
        refine rgo hK ?_ (hS := by first | exact SS0 | exact SS1 | exact SS2 | exact SS3)
        clear hK K hHeld
        intro hHeld
        refine rr1 16 (fun K hK => ?_)
        go_simp
        refine rgo hK ?_ (hS := by first | exact SS0 | exact SS1 | exact SS2 | exact SS3)
        clear hK K hHeld
        intro hHeld
        refine rr1 17 (fun K hK => ?_)
        (refine step_runG 39 (by rfl) (by rfl) (by rfl) (by rfl) (AP.out _) ?_; rintro v8 w8 ⟨o8, c8, rfl, hq1, hq2, hq3, hq4, L8, e8, M8, K8⟩; have SS2 := SSX.out _ hq1 hq2; have SS3 := SSY.out _ (.slice o8 (th.calls.length + 1) c8) hq1 hq2; have c82 : w8.cell? ⟨g, t * 6 + 2, none⟩ = some (.slice r.o th.calls.length r.c) := SSZ.out _ hq1; replace M8 : Hid _ := M8; replace K8 : Hid _ := K8; replace e8 : Hid _ := e8; clear hq1 hq2)
        refine rgo hK ?_ (hS := by first | exact SS0 | exact SS1 | exact SS2 | exact SS3)
        clear hK K hHeld
        intro hHeld
        refine rtk 18 ?_
        refine rtk 19 ?_
        refine rr1 20 (fun K hK => ?_)
        go_simp
        refine rgo hK ?_ (hS := by first | exact SS0 | exact SS1 | exact SS2 | exact SS3)
        clear hK K hHeld
        intro hHeld
        refine wpAnyH_done (by as_aux_lemma => kernel_rfl) ?_ _
        refine NoPanic.normal ?_
        have hg8 := e8.out.trans HG.out
        have S1 := setT_x M8.out (setT_at HT.out) hg8 (o := 1) (u := .int .i64 y) (th' := { th with calls := th.calls ++ [(th.pc, x.e, th.frame)], frame := y }) (by decide) rfl (fun r => rfl) HYB.out HFR.out.2
        have S2 := setT_x S1.1 (setT_at (setT_at HT.out)) hg8 (o := 0) (u := .int .i64 n) (th' := { th with calls := th.calls ++ [(th.pc, x.e, th.frame)], frame := y, pc := n }) (by decide) rfl (fun r => rfl) HYB.out HN64.out
        rw [Nat.add_zero] at S2
        have K9 := (KB.out.trans ((Kf.refl L wb).drewN 1)).trans (K8.out.trans (S1.2.trans S2.2))
        have M9 := S2.1
        rw [setT_set, setT_set] at M9
        replace M9 : Hid _ := M9
        replace K9 : Hid _ := K9
        obtain ⟨s1, s2, s3⟩ := SS3
        clear S1 S2 hg8 SS0 SS1 SS2
        go_wp2_with fail
        go_end0
        exact FIN.out _ _ _ HW.out M9.out K9.out
      · go_simp
        refine rgo hK ?_ (hS := by first | exact SS0 | exact SS1 | exact SS2 | exact SS3)
        clear hK K hHeld
        intro hHeld
        refine rr1 4 (fun K hK => ?_)
        go_simp
        refine rgo hK ?_ (hS := by first | exact SS0 | exact SS1 | exact SS2 | exact SS3)
        clear hK K hHeld
        intro hHeld
        refine rr1 17 (fun K hK => ?_)
        (refine step_runG 39 (by rfl) (by rfl) (by rfl) (by rfl) (AP.out _) ?_; rintro v8 w8 ⟨o8, c8, rfl, hq1, hq2, hq3, hq4, L8, e8, M8, K8⟩; have SS2 := SSX.out _ hq1 hq2; have SS3 := SSY.out _ (.slice o8 (th.calls.length + 1) c8) hq1 hq2; have c82 : w8.cell? ⟨g, t * 6 + 2, none⟩ = some (.slice r.o th.calls.length r.c) := SSZ.out _ hq1; replace M8 : Hid _ := M8; replace K8 : Hid _ := K8; replace e8 : Hid _ := e8; clear hq1 hq2)
        refine rgo hK ?_ (hS := by first | exact SS0 | exact SS1 | exact SS2 | exact SS3)
        clear hK K hHeld
        intro hHeld
        refine rtk 18 ?_
        refine rtk 19 ?_
        refine rr1 20 (fun K hK => ?_)
        go_simp
        refine rgo hK ?_ (hS := by first | exact SS0 | exact SS1 | exact SS2 | exact SS3)
        clear hK K hHeld
        intro hHeld
        refine wpAnyH_done (by as_aux_lemma => kernel_rfl) ?_ _
        refine NoPanic.normal ?_
        have hg8 := e8.out.trans HG.out
        have S1 := setT_x M8.out (setT_at HT.out) hg8 (o := 1) (u := .int .i64 y) (th' := { th with calls := th.calls ++ [(th.pc, x.e, th.frame)], frame := y }) (by decide) rfl (fun r => rfl) HYB.out HFR.out.2
        have S2 := setT_x S1.1 (setT_at (setT_at HT.out)) hg8 (o := 0) (u := .int .i64 n) (th' := { th with calls := th.calls ++ [(th.pc, x.e, th.frame)], frame := y, pc := n }) (by decide) rfl (fun r => rfl) HYB.out HN64.out
        rw [Nat.add_zero] at S2
        have K9 := (KB.out.trans ((Kf.refl L wb).drewN 1)).trans (K8.out.trans (S1.2.trans S2.2))
        have M9 := S2.1
        rw [setT_set, setT_set] at M9
        replace M9 : Hid _ := M9
        replace K9 : Hid _ := K9
        obtain ⟨s1, s2, s3⟩ := SS3
        clear S1 S2 hg8 SS0 SS1 SS2
        go_wp2_with fail
        go_end0
        exact FIN.out _ _ _ HW.out M9.out K9.out
    · have HW : Hid (m.fin y = m.catM t th x) := by show _ = _; unfold Mc.catM; rw [HRD.out]; show _ = m.caM t th x n; unfold Mc.caM; rw [hy]
      have HY : Hid (slotR (m.fr t) t x.b = (y, false)) := hy
      clear hy hg
      go_wp2_with (go_at_call 32; refine (sl_no M1.out HT.out HX.out.2.2.1 HY.out).mono ?_; rintro e w1 ⟨rfl, L2, M2, K2⟩; replace M2 : Hid _ := M2)
      go_end0
      exact FIN.out _ _ _ HW.out (M2.out.next M2.out.ms.mr (Kf.refl _ _) (M2.out.ms.ok.up (Nat.le_succ N) hN)) (KB.out.trans K2)
  · have HW : Hid (m.fin q = m.catM t th x) := by show _ = _; unfold Mc.catM; rw [Mc.rd_none hq]
    have HY : Hid (slotR (m.fr t) t x.a = (q, false)) := hq
    clear hq hg
    go_wp2_with (go_at_call 31; refine (rd_no M0.out HT.out HX.out.2.1 HY.out).mono ?_; rintro e w1 ⟨v, rfl, L1, M1, K1⟩; replace M1 : Hid _ := M1)
    go_end0
    exact FIN.out _ _ _ HW.out (M1.out.next M1.out.ms.mr (Kf.refl _ _) (M1.out.ms.ok.up (Nat.le_succ N) hN)) K1
end
end Go.Proofs.Ytflifialjdhenaa
namespace Go.Proofs.Ytflifialjdhenaa
open Go.RowKit
set_option linter.all false
def Th.new (pc fr : Int) : Th := ⟨pc, fr, [], false, false, false⟩
def thN (pc fr : Int) : Array Value := #[.int .i64 pc, .int .i64 fr, .slice none 0 0, .bool false, .bool false, .bool false]
theorem inf50 : (Try.prog.info? 41).map (fun i => (i.zero, i.size, i.bytes)) = some (some (.agg #[.int .i64 0, .int .i64 0, .slice none 0 0, .bool false, .bool false, .bool false]), 6, 48) := by kernel_rfl
section
variable {w w1 : World} {base mb : Nat} {cv : Value} {L : Ly} {m : Mc}
theorem MR.growTh (h : MR w base mb cv L m) (hf : m.ths.length + 1 ≤ 12) {pc fr : Int} (hfr : stk m.ths.length ≤ fr ∧ fr < stk (m.ths.length + 1)) {v' : Value} (A : App (w.alloc (.cells (thN pc fr) 41)) base 41 6 (.slice L.to_ m.ths.length L.tc) m.ths.length ((m.ths.zip L.cr).map thC).flatten (thN pc fr).toList 1 v' w1) : ∃ L', MR (w1.setCell ⟨mb, 3, none⟩ v') base mb cv L' { m with ths := m.ths ++ [Th.new pc fr] } ∧ Kf L L' w (w1.setCell ⟨mb, 3, none⟩ v') := by
  have hW : Below w.heap.size w (w.alloc (.cells (thN pc fr) 41)) := (al1 w _).1
  obtain ⟨own', hkp, holt, ho0, hon, hrw⟩ := grow_own h hW A (3, 0) (by decide) h.th.orow
  obtain ⟨po', pc', rfl⟩ := A.shape
  have hWs : (w.alloc (.cells (thN pc fr) 41)).heap.size = w.heap.size + 1 := by simp
  have hsb : ∀ b, L.own b ≠ none → L.own b ≠ some (3, 0) → w1.heap[b]? = w.heap[b]? := fun b hb hn => (A.grown.block b (by have := (h.olt b hb).2; omega) (fun e => hn (h.th.orow b e.symm))).trans (hW.block b (h.olt b hb).2)
  have hmb : w1.heap[mb]? = some (.cells (mcC cv L m) 45 (0, 0)) := (hsb mb (by rw [h.omb]; simp) (by rw [h.omb]; simp)).trans h.blk
  have hs : ∀ g, g ≠ 0 → sameG own' g w1 (w1.setCell ⟨mb, 3, none⟩ (.slice po' (m.ths.length + 1) pc')) := fun g hg b s e => Below.heap_setCell _ _ _ _ (fun e2 => by
    have e3 : b = mb := e2
    subst e3
    rw [hkp 0 b 0 h.omb] at e
    simp at e
    omega)
  have hid : ∀ g, keepG own' own' g := fun g b s e => e
  have hcl := h.th.crl
  refine ⟨{ L with to_ := po', tc := pc', cr := L.cr ++ [⟨none, 0⟩], own := own' }, ⟨?_, hkp 0 mb 0 h.omb, ?_, ?_, ?_, ?_, ?_, h.hbase, fun b hn => by simpa using holt b hn, ho0⟩, ⟨?_, hon, rfl⟩⟩
  · rw [heap_setCell_same w1 mb 3 _ 45 _ hmb]
    show some (Obj.cells _ 45 (0, 0)) = some (Obj.cells _ 45 (0, 0))
    simp [mcC]
  · exact (h.hp.frame (grown_same h hW A.grown h.th.orow 1 (by decide)) (hkp 1)).frame (hs 1 (by decide)) (hid 1)
  · exact (h.pg.frame (grown_same h hW A.grown h.th.orow 2 (by decide)) (hkp 2)).frame (hs 2 (by decide)) (hid 2)
  · have hP : THS w1 base own' po' pc' (L.cr ++ [⟨none, 0⟩]) (m.ths ++ [Th.new pc fr]) := by
      refine ⟨?_, fun b e => hrw b (by simpa using e), by simp [hcl], fun i t r ht hr => ?_, by simpa using hf, fun i t ht => ?_⟩
      · rw [List.zip_append hcl.symm, List.map_append, List.flatten_append, List.length_append]
        exact A.row
      · by_cases hi : i < m.ths.length
        · rw [List.getElem?_append_left hi] at ht
          rw [List.getElem?_append_left (by omega)] at hr
          obtain ⟨a1, a2⟩ := h.th.calls i t r ht hr
          exact ⟨ownsRow_same a1 (fun b hb _ => hsb b (by rw [a2 b hb]; simp) (by rw [a2 b hb]; simp)), fun b hb => hkp 3 b _ (a2 b hb)⟩
        · rw [List.getElem?_append_right (by omega)] at ht hr
          obtain rfl : i = m.ths.length := by
            have := (List.getElem?_eq_some_iff.1 ht).1
            simp at this
            omega
          simp at ht
          subst ht
          rw [hcl] at hr
          simp at hr
          subst hr
          exact ⟨World.ownsRow_nil _ _ _ _, fun b hb => by simp [Value.ownBlock, Th.new] at hb⟩
      · by_cases hi : i < m.ths.length
        · rw [List.getElem?_append_left hi] at ht
          exact h.th.fr i t ht
        · rw [List.getElem?_append_right (by omega)] at ht
          obtain rfl : i = m.ths.length := by
            have := (List.getElem?_eq_some_iff.1 ht).1
            simp at this
            omega
          simp at ht
          subst ht
          exact hfr
    exact hP.frame (hs 3 (by decide)) (hid 3)
  · exact (h.ou.frame (grown_same h hW A.grown h.th.orow 4 (by decide)) (hkp 4)).frame (hs 4 (by decide)) (hid 4)
  · exact (h.or_.frame (grown_same h hW A.grown h.th.orow 5 (by decide)) (hkp 5)).frame (hs 5 (by decide)) (hid 5)
  · refine KX.setCell (p := ⟨mb, 3, none⟩) ?_ (.inr (by rw [h.omb]; simp)) _
    exact KX.grown (KX.of_below hW) A.grown (by omega) (fun k e => .inr (by rw [h.th.orow k e]; simp))
end
section
variable {base mb : Nat} {co : Option Addr} {cc : Nat} {code : List Mi} {N ib : Nat} {x : Mi} {w w' : World} {L L' : Ly} {m m' : Mc} {t : Nat} {th th' : Th}
theorem OKM.spawn (h : OKM N m) {pc fr : Int} (hp : I64 pc) : OKM N { m with ths := m.ths ++ [Th.new pc fr] } := ⟨h.mem, fun i y hy => by
  have hy2 : (m.ths ++ [Th.new pc fr])[i]? = some y := hy
  by_cases hi : i < m.ths.length
  · rw [List.getElem?_append_left hi] at hy2
    exact h.th i y hy2
  · rw [List.getElem?_append_right (by omega)] at hy2
    have := (List.getElem?_eq_some_iff.1 hy2).1
    simp at this
    have e : i - m.ths.length = 0 := by omega
    rw [e] at hy2
    simp at hy2
    subst hy2
    exact ⟨hp, Nat.zero_le _, fun c hc => by simp [Th.new] at hc⟩, h.outs, h.order, h.steps, h.big⟩
theorem run_spawn (h : MX base mb co cc code N ib x w L m) (hf : m.ths.length + 1 ≤ 12) {pc fr : Int} (hp : I64 pc) (hfr : stk m.ths.length ≤ fr ∧ fr < stk (m.ths.length + 1)) (ty : TypeId) {ad : Nat} (had : ad = w.heap.size) : ∃ v' w1, (Builtin.append_ #[42, 42] ty #[.slice L.to_ m.ths.length L.tc, .slice (some ⟨ad, 0, none⟩) 1 1]).run Try.prog (w.alloc (.cells (thN pc fr) 41)) = .ok v' w1 ∧ ∃ o' c', v' = .slice o' (m.ths.length + 1) c' ∧ w1.cell? ⟨mb, 3, none⟩ = some (.slice L.to_ m.ths.length L.tc) ∧ w1.heap[ib]? = w.heap[ib]? ∧ mb < w1.heap.size ∧ (∀ o, w1.frozen? ⟨mb, o, none⟩ = false) ∧ ∃ L', MX base mb co cc code N ib x (w1.setCell ⟨mb, 3, none⟩ (.slice o' (m.ths.length + 1) c')) L' { m with ths := m.ths ++ [Th.new pc fr] } ∧ Kf L L' w (w1.setCell ⟨mb, 3, none⟩ (.slice o' (m.ths.length + 1) c')) := by
  obtain ⟨v', w1, hr, A⟩ := app1 (W := w) Try.underlying42 inf50 rfl (by decide) h.ms.mr.th.row (Nat.le_trans h.ms.mr.hbase (Nat.le_of_lt h.ms.mr.lt)) (thN pc fr) rfl (fun u hu => by simp [thN] at hu; rcases hu with rfl | rfl | rfl | rfl <;> rfl) (by unfold maxLen; omega) (by omega) ty had
  obtain ⟨o', c', rfl⟩ := A.shape
  have hmb : w1.heap[mb]? = some (.cells (mcC (.slice co code.length cc) L m) 45 (0, 0)) := (grown_same h.ms.mr (al1 w _).1 A.grown h.ms.mr.th.orow 0 (by decide) mb 0 h.ms.mr.omb).trans h.ms.mr.blk
  obtain ⟨L', hm, kf⟩ := h.ms.mr.growTh hf hfr A
  have hil : ib < w.heap.size := (Array.getElem?_eq_some_iff.1 h.kb).1
  have hWs : (w.alloc (.cells (thN pc fr) 41)).heap.size = w.heap.size + 1 := by simp
  exact ⟨_, w1, hr, o', c', rfl, cell_of_row w1 _ 3 _ 45 (0, 0) hmb, (A.grown.block ib (by omega) (fun e => by have := h.ms.mr.th.orow ib e.symm; rw [h.ko] at this; simp at this)).trans ((al1 w _).1.block ib hil), (Array.getElem?_eq_some_iff.1 hmb).1, fun o => frozen_of_row w1 _ o _ 45 hmb, L', h.next hm kf (h.ms.ok.spawn hp), kf⟩
end
end Go.Proofs.Ytflifialjdhenaa
namespace Go.Proofs.Ytflifialjdhenaa
open Go.RowKit
set_option linter.all false
def Mc.swM (m : Mc) (t : Nat) (x : Mi) : Mc := match m.rd t x.b with
  | (none, m1) => m1
  | (some n, _) => if m.ths.length = 12 then m.fin 6 else { m with ths := m.ths ++ [Th.new x.a (stk m.ths.length)], mem := upd m.mem (stk m.ths.length).toNat n }
section
variable {base mb : Nat} {co : Option Addr} {cc : Nat} {code : List Mi} {N ib : Nat} {x : Mi} {w w' : World} {L L' : Ly} {m m' : Mc} {t : Nat} {th th' : Th}
set_option maxRecDepth 100000 in
set_option maxHeartbeats 2000000 in
theorem thr_spawn (h : MS base mb co cc code N w L m) (ht : m.ths[t]? = some th) (hx : x.ok) (hop : x.op = 15) : Calls Try.prog 36 #[.pointer (some ⟨mb, 0, none⟩), .int .i64 t, .agg (miC x)] w (MSP base mb co cc code N w L (m.swM t x)) := by
  obtain ⟨M0, K0⟩ := MX.start h x
  have M0 : Hid (MX base mb co cc code N w.heap.size x (w.alloc (.cells #[.int .i64 x.op, .int .i64 x.a, .int .i64 x.b, .int .i64 x.c, .int .i64 x.d, .int .i64 x.e] 72)) L m) := M0
  have FIN : Hid (∀ w' L' m', m' = m.swM t x → MX base mb co cc code N w.heap.size x w' L' m' → Kf L L' (w.alloc (.cells #[.int .i64 x.op, .int .i64 x.a, .int .i64 x.b, .int .i64 x.c, .int .i64 x.d, .int .i64 x.e] 72)) w' → MSP base mb co cc code N w L (m.swM t x) (.returned (.tuple #[])) w') := fun w' L' m' e hm hk => ⟨rfl, L', e ▸ hm.ms, Kf.trans K0 hk⟩
  have HT : Hid (m.ths[t]? = some th) := ht
  have HX : Hid x.ok := hx
  have HM64 : Hid (∀ a, I64 (m.mem a)) := h.ok.mem
  have HS : Hid (MS base mb co cc code N w L m) := h
  have HOP : Hid (x.op = 15) := hop
  show Calls Try.prog 36 #[.pointer (some ⟨mb, 0, none⟩), .int .i64 t, .agg #[.int .i64 x.op, .int .i64 x.a, .int .i64 x.b, .int .i64 x.c, .int .i64 x.d, .int .i64 x.e]] w _
  clear h K0 ht hx hop
  go_enter Try.func36, Try.ntmps36
  go_upto_region 2 with fail
  obtain ⟨ib, hib⟩ : ∃ ib, ib = w.heap.size := ⟨_, rfl⟩
  rw [← hib] at M0 FIN ⊢
  generalize w.alloc (.cells #[.int .i64 x.op, .int .i64 x.a, .int .i64 x.b, .int .i64 x.c, .int .i64 x.d, .int .i64 x.e] 72) = wa at *
  obtain ⟨i0, i1, i2, i3, i4, i5, il⟩ := M0.out.cells
  clear hib
  have hop := HOP.out
  rcases slot_cases (m.fr t) t x.b with ⟨y, hy⟩ | ⟨y, hy⟩
  · obtain ⟨v, hv⟩ : ∃ v, v = m.mem y.toNat := ⟨_, rfl⟩
    have HV64 : Hid (I64 v) := by rw [hv]; exact HM64.out _
    have R1 := rd_yes M0.out HT.out HX.out.2.2.1 hy
    have hrd := Mc.rd_some hy
    rw [← hv] at R1 hrd
    have HRD : Hid (m.rd t x.b = (some v, m)) := hrd
    clear hv hy hrd
    have hfew := HS.out.mr.th.few
    go_upto_region 5 with (go_at_call 31; refine (R1).mono ?_; rintro e w1 ⟨rfl, L1, M1, K1⟩; replace M1 : Hid _ := M1; obtain ⟨c10, c11, c12, c13, c14, c15, c1l⟩ := M1.out.cells)
    have hc3 : w1.cell? ⟨mb, 3, none⟩ = some (.slice L1.to_ m.ths.length L1.tc) := by rw [cell_of_row w1 _ 3 _ 45 (0, 0) M1.out.ms.mr.blk]; rfl
    have hlm := M1.out.ms.mr.lt
    by_cases hfull : m.ths.length = 12
    · have hfb : ((m.ths.length : Int) == 12) = true := by simp; omega
      have HW : Hid (m.fin 6 = m.swM t x) := by show _ = _; unfold Mc.swM; rw [HRD.out]; show _ = (if m.ths.length = 12 then _ else _); rw [if_pos hfull]
      clear hfull
      go_wp2_with (go_at_call 27; refine (en_x M1.out 6).mono ?_; rintro e w2 ⟨rfl, L2, M2, K2⟩; replace M2 : Hid _ := M2)
      go_end0
      exact FIN.out _ _ _ HW.out M2.out (K1.trans K2)
    · have hfb : ((m.ths.length : Int) == 12) = false := by simp; omega
      obtain ⟨st, hst⟩ : ∃ st, st = stk m.ths.length := ⟨_, rfl⟩
      have hstb : stk m.ths.length ≤ st ∧ st < stk (m.ths.length + 1) := by rw [hst]; unfold stk; omega
      obtain ⟨sn, hsn, hsb⟩ : ∃ sn : Nat, st = (sn : Int) ∧ sn < 61000000 := ⟨st.toNat, by rw [hst]; unfold stk; omega, by rw [hst]; unfold stk; omega⟩
      have HW : Hid ({ m with ths := m.ths ++ [Th.new x.a st], mem := upd m.mem sn v } = m.swM t x) := by
        show _ = _
        unfold Mc.swM
        rw [HRD.out]
        show _ = (if m.ths.length = 12 then _ else _)
        rw [if_neg hfull, ← hst, hsn, Int.toNat_natCast]
      have HST : Hid (∀ W, Calls Try.prog 12 #[.int .i64 (m.ths.length : Int)] W (fun e w' => e = .returned (.int .i64 st) ∧ w' = W)) := fun W => by rw [hst]; exact stack17 _ (by omega) (by omega)
      have AP : Hid (∀ ty, ∃ v' w2, (Builtin.append_ #[42, 42] ty #[.slice L1.to_ m.ths.length L1.tc, .slice (some ⟨w1.heap.size, 0, none⟩) 1 1]).run Try.prog (w1.drew.alloc (.cells #[.int .i64 x.a, .int .i64 st, .slice none 0 0, .bool false, .bool false, .bool false] 41)) = .ok v' w2 ∧ ∃ o' c', v' = .slice o' (m.ths.length + 1) c' ∧ w2.cell? ⟨mb, 3, none⟩ = some (.slice L1.to_ m.ths.length L1.tc) ∧ w2.heap[ib]? = w1.drew.heap[ib]? ∧ mb < w2.heap.size ∧ (∀ o, w2.frozen? ⟨mb, o, none⟩ = false) ∧ ∃ L', MX base mb co cc code N ib x (w2.setCell ⟨mb, 3, none⟩ (.slice o' (m.ths.length + 1) c')) L' { m with ths := m.ths ++ [Th.new x.a st] } ∧ Kf L1 L' w1.drew (w2.setCell ⟨mb, 3, none⟩ (.slice o' (m.ths.length + 1) c'))) := fun ty => run_spawn M1.out.drew (by omega) HX.out.2.1 hstb ty rfl
      have HSN : Hid (st = (sn : Int) ∧ sn < 61000000) := ⟨hsn, hsb⟩
      clear hst hstb hsn hsb hfull
      go_upto_region 8 with fail
      go_region_law (first
        | (refine step_runG 42 (by rfl) (by rfl) (by rfl) (by rfl) (AP.out _) ?_; rintro v2 w2 ⟨o2, c2, rfl, q1, q2, q3, q4, L2, M2, K2⟩; replace M2 : Hid _ := M2; replace K2 : Hid _ := K2; clear q2)
        | (go_simp; refine (HST.out _).mono ?_; rintro e wx ⟨rfl, hwx⟩; replace hwx := hwx.symm; subst hwx))
      all_goals
        have PT : Calls Try.prog 13 #[.pointer (some ⟨mb, 0, none⟩), .int .i64 st, .int .i64 v] (w2.setCell ⟨mb, 3, none⟩ (.slice o2 (m.ths.length + 1) c2)) (MXP base mb co cc code N ib x (w2.setCell ⟨mb, 3, none⟩ (.slice o2 (m.ths.length + 1) c2)) L2 (.tuple #[]) { m with ths := m.ths ++ [Th.new x.a st], mem := upd m.mem sn v }) := by
          rw [HSN.out.1]
          have h9 := pt_x M2.out sn HSN.out.2 HV64.out
          rw [HSN.out.1] at h9
          exact h9
        generalize w2.setCell ⟨mb, 3, none⟩ (.slice o2 (m.ths.length + 1) c2) = w3 at *
        go_wp2_with (first
          | (go_at_call 13; refine PT.mono ?_; rintro e w4 ⟨rfl, L4, M4, K4⟩; replace M4 : Hid _ := M4)
          | (go_at_call 12; refine (HST.out _).mono ?_; rintro e wx ⟨rfl, hwx⟩; replace hwx := hwx.symm; subst hwx))
        go_end0
        exact FIN.out _ _ _ HW.out M4.out (K1.trans (((Kf.refl L1 w1).drewN 1).trans (K2.out.trans K4)))
  · have HW : Hid (m.fin y = m.swM t x) := by show _ = _; unfold Mc.swM; rw [Mc.rd_none hy]
    have HY : Hid (slotR (m.fr t) t x.b = (y, false)) := hy
    clear hy
    go_wp2_with (go_at_call 31; refine (rd_no M0.out HT.out HX.out.2.2.1 HY.out).mono ?_; rintro e w1 ⟨v, rfl, L1, M1, K1⟩; replace M1 : Hid _ := M1)
    go_end0
    exact FIN.out _ _ _ HW.out M1.out K1
end
end Go.Proofs.Ytflifialjdhenaa
namespace Go.Proofs.Ytflifialjdhenaa
open Go.RowKit
set_option linter.all false
section
variable {base mb : Nat} {co : Option Addr} {cc : Nat} {code : List Mi} {N ib : Nat} {x : Mi} {w w' : World} {L L' : Ly} {m m' : Mc} {t : Nat} {th th' : Th}
theorem MS.below (h : MS base mb co cc code N w L m) (hb : Below w.heap.size w w') : MS base mb co cc code N w' L m ∧ Kf L L w w' := by
  have k : Kf L L w w' := ⟨KX.of_below hb, fun _ _ h => h, rfl⟩
  exact ⟨h.next (h.mr.below hb) k h.ok, k⟩
theorem insAt_ok (hc : ∀ y ∈ code, y.ok) (pc : Int) : (insAt code pc).1.ok := by
  have hz : Mi.z.ok := ⟨I64_0, I64_0, I64_0, I64_0, I64_0, I64_0⟩
  unfold insAt
  split
  · exact hz
  · split
    · rename_i y hy
      exact hc _ (List.mem_of_getElem? hy)
    · exact hz
theorem meet_any (h : MS base mb co cc code N w L m) (ht : m.ths[t]? = some th) : Calls Try.prog 26 #[.pointer (some ⟨mb, 0, none⟩), .int .i64 t] w (fun e w' => e = .returned (.tuple #[.bool (meetB m code t th).1, .bool (meetB m code t th).2]) ∧ Below w.heap.size w w') := by
  have hp := (h.ok.th t th ht).1
  cases ha : th.abo with
  | true =>
    refine (meet_abo h.mr ht ha).mono ?_
    rintro e w' ⟨rfl, rfl⟩
    exact ⟨by unfold meetB; rw [ha]; rfl, Below.refl _ _⟩
  | false =>
    have hx := insAt_ok h.c64 th.pc
    by_cases h17 : (insAt code th.pc).1.op = 17
    · exact meet_wait h.mr h.cd ht ha hp h17 hx.2.1 hx.2.2.2.1 h.ok.mem
    · exact meet_plain h.mr h.cd ht ha hp h17
theorem MS.thr (h : MS base mb co cc code N w L m) (ht : m.ths[t]? = some th) : ∃ g, L.to_ = some ⟨g, 0, none⟩ ∧ w.cell? ⟨mb, 3, none⟩ = some (.slice (some ⟨g, 0, none⟩) m.ths.length L.tc) ∧ g < w.heap.size ∧ mb < w.heap.size ∧ (t : Int) < (m.ths.length : Int) ∧ w.cell? ⟨g, t * 6, none⟩ = some (.int .i64 th.pc) ∧ w.cell? ⟨g, t * 6 + 4, none⟩ = some (.bool th.abo) := by
  obtain ⟨g, r, e, hg, hr, c0, c1, c2, c3, c4, c5⟩ := h.mr.th.nth ht
  refine ⟨g, e, ?_, hg, h.mr.lt, by have := (List.getElem?_eq_some_iff.1 ht).1; omega, c0, c4⟩
  rw [cell_of_row w _ 3 _ 45 (0, 0) h.mr.blk, ← e]
  rfl
theorem OKM.order1 (h : OKM N m) (n : Int) (hN : m.order.length + 1 ≤ N) : OKM N { m with order := m.order ++ [n] } := ⟨h.mem, h.th, h.outs, by simp; omega, h.steps, h.big⟩
theorem run_order (h : MS base mb co cc code N w L m) (n : Int) (hN : m.order.length + 1 ≤ N) (ty : TypeId) {ad : Nat} (had : ad = w.heap.size) : ∃ v' w1, (Builtin.append_ #[23, 23] ty #[.slice L.ro_ m.order.length L.rc, .slice (some ⟨ad, 0, none⟩) 1 1]).run Try.prog (w.alloc (.cells #[.int .i64 n] 3)) = .ok v' w1 ∧ (∃ o' c', v' = .slice o' (m.order.length + 1) c') ∧ w1.cell? ⟨mb, 10, none⟩ = some (.slice L.ro_ m.order.length L.rc) ∧ w1.frozen? ⟨mb, 10, none⟩ = false ∧ mb < w1.heap.size ∧ ∃ L', MS base mb co cc code N (w1.setCell ⟨mb, 10, none⟩ v') L' { m with order := m.order ++ [n] } ∧ Kf L L' w (w1.setCell ⟨mb, 10, none⟩ v') := by
  have hbg := h.ok.big
  obtain ⟨v', w1, hr, A⟩ := app1 (W := w) Try.underlying23 infI rfl (by decide) h.mr.or_.row (Nat.le_trans h.mr.hbase (Nat.le_of_lt h.mr.lt)) #[.int .i64 n] rfl (fun u hu => by simp at hu; subst hu; rfl) (by unfold maxLen; omega) (by omega) ty had
  have hmb : w1.heap[mb]? = some (.cells (mcC (.slice co code.length cc) L m) 45 (0, 0)) := (grown_same h.mr (al1 w _).1 A.grown h.mr.or_.orow 0 (by decide) mb 0 h.mr.omb).trans h.mr.blk
  obtain ⟨L', hm, kf⟩ := h.mr.growOr A
  exact ⟨v', w1, hr, A.shape, cell_of_row w1 _ 10 _ 45 (0, 0) hmb, frozen_of_row w1 _ 10 _ 45 hmb, (Array.getElem?_eq_some_iff.1 hmb).1, L', h.next hm kf (h.ok.order1 n hN), kf⟩
theorem step_x (h : MS base mb co cc code N w L m) (hN : N + 1 ≤ 1000000) : MS base mb co cc code (N + 1) (w.setCell ⟨mb, 8, none⟩ (.int .i64 (m.steps + 1))) L { m with steps := m.steps + 1 } ∧ Kf L L w (w.setCell ⟨mb, 8, none⟩ (.int .i64 (m.steps + 1))) := by
  have h1 := h.mr.set (m' := { m with steps := m.steps + 1 }) 8 (.int .i64 (m.steps + 1)) rfl rfl rfl rfl rfl rfl
  have h2 := h.ok.up (Nat.le_succ N) hN
  exact ⟨h.next h1.1 h1.2 ⟨h2.mem, h2.th, h2.outs, h2.order, ⟨by show 0 ≤ m.steps + 1; have := h.ok.steps.1; omega, by show m.steps + 1 ≤ _; have := h.ok.steps.2; omega⟩, hN⟩, h1.2⟩
end
end Go.Proofs.Ytflifialjdhenaa
