/- The project's machine: MSt. -/
import Derived.Test.YtpoepbmomfohlaaPnk
namespace Go.Proofs.Ytpoepbmomfohlaa
open Go.RowKit
set_option linter.all false
section
variable {C : Ct} {N N' : Nat} {K : Nat → Obj → Prop} {w w' w1 : World} {ps : List Int} {tb tb' : List Nat} {m m' : Mc} {t b : Nat} {th th' : Th}
theorem st_Fa (ht : m.ths[t]? = some th) {x : Mi} {y : Int} (hy : slotR th.frame t x.a = (y, false)) : m.stM t x = m.fin y := by unfold Mc.stM; rw [rd_F ht hy]
theorem st_Fb (ht : m.ths[t]? = some th) {x : Mi} {y z : Int} (hy : slotR th.frame t x.a = (y, true)) (hz : slotR th.frame t x.b = (z, false)) : m.stM t x = m.fin z := by unfold Mc.stM; rw [rd_T ht hy]; show (match m.rd t x.b with | (none, m1) => m1 | (some n, _) => _) = _; rw [rd_F ht hz]
theorem st_N (ht : m.ths[t]? = some th) {x : Mi} {y z : Int} (hy : slotR th.frame t x.a = (y, true)) (hz : slotR th.frame t x.b = (z, true)) (hw : m.wordB (m.mem y.toNat) x.c = false) : m.stM t x = m.fin 9 := by unfold Mc.stM; rw [rd_T ht hy]; show (match m.rd t x.b with | (none, m1) => m1 | (some n, _) => if m.wordB (m.mem y.toNat) x.c = true then _ else _) = _; rw [rd_T ht hz]; show (if m.wordB (m.mem y.toNat) x.c = true then _ else _) = _; rw [hw]; rfl
theorem st_T (ht : m.ths[t]? = some th) {x : Mi} {y z : Int} {q : Nat} (hy : slotR th.frame t x.a = (y, true)) (hz : slotR th.frame t x.b = (z, true)) (hw : m.wordB (m.mem y.toNat) x.c = true) (hq : m.mem y.toNat + x.c = (q : Int)) : m.stM t x = { m with mem := upd m.mem q (m.mem z.toNat) } := by unfold Mc.stM; rw [rd_T ht hy]; show (match m.rd t x.b with | (none, m1) => m1 | (some n, _) => if m.wordB (m.mem y.toNat) x.c = true then _ else _) = _; rw [rd_T ht hz]; show (if m.wordB (m.mem y.toNat) x.c = true then { m with mem := upd m.mem (m.mem y.toNat + x.c).toNat (m.mem z.toNat) } else _) = _; rw [if_pos hw, hq, Int.toNat_natCast]
set_option maxRecDepth 100000 in
set_option maxHeartbeats 1000000 in
theorem st_4 (h : PS C N K w ps tb m) (ht : m.ths[t]? = some th) (hb : tb[t]? = some b) {x : Mi} (hok : x.ok) (h0 : m.how = 0) (ha : th.abo = false) (hx : insAt C.code th.pc = (x, true)) (hop : x.op = 4) (hN : N + 1 ≤ 1000000) : Calls Try.prog 14 #[ptr b] w (StP C (N + 1) K ps ((m.setT t { th with pc := th.pc + 1 }).exec t { th with pc := th.pc + 1 } x)) := by
  obtain ⟨th1, hth1⟩ : ∃ th1, th1 = { th with pc := th.pc + 1 } := ⟨_, rfl⟩
  obtain ⟨m1, hm1⟩ : ∃ m1, m1 = m.setT t th1 := ⟨_, rfl⟩
  rw [← hth1, ← hm1]
  obtain ⟨at_, hat, c0, c1, c3, c5, c6, c7, c8, lb, fz, f0, f1⟩ := h.thr ht hb
  have fz5 := fz 5
  rw [hat ha] at c5
  have D1 := due_x h ht hb ha hx
  have hpc := insAt_true (code := C.code) (pc := th.pc) (by rw [hx])
  have hcf := h.cd.few
  have hwp : wrap64 (th.pc + 1) = th.pc + 1 := wrap_id (by omega) (by omega)
  rw [ha] at c7
  have HP : Hid (∀ {W : World}, PS C N K W ps tb m → PS C N K (W.setCell ⟨b, 5, none⟩ (.int .i64 (th.pc + 1))) ps tb m1) := fun {W} h => by
    rw [hm1, hth1]
    exact h.goto ht hb ⟨by omega, by omega⟩
  have HC5 : Hid (∀ {W : World}, PS C N K W ps tb m → W.cell? ⟨b, 5, none⟩ = some (.int .i64 th.pc) ∧ W.frozen? ⟨b, 5, none⟩ = false ∧ b < W.heap.size) := fun {W} h => by
    obtain ⟨at_, hat, c0, c1, c3, c5, c6, c7, c8, lb, fz, f0, f1⟩ := h.thr ht hb
    rw [hat ha] at c5
    exact ⟨c5, fz 5, lb⟩
  have HX : Hid (m1.ths[t]? = some th1 ∧ tb[t]? = some b ∧ x.ok ∧ m1.how = 0 ∧ th1.abo = false ∧ N + 1 ≤ 1000000 ∧ 1 ≤ th1.pc ∧ th1.pc ≤ C.code.length ∧ (insAt C.code (th1.pc - 1)).1.e = x.e) := ⟨by rw [hm1]; show (m.ths.set t th1)[t]? = _; rw [List.getElem?_set_self (List.getElem?_eq_some_iff.1 ht).1], hb, hok, by rw [hm1]; exact h0, by rw [hth1]; exact ha, hN, by rw [hth1]; show 1 ≤ th.pc + 1; omega, by rw [hth1]; show th.pc + 1 ≤ _; omega, by rw [hth1]; show (insAt C.code (th.pc + 1 - 1)).1.e = _; rw [show th.pc + 1 - 1 = th.pc by omega, hx]⟩
  have HIc : Hid (∀ {N : Nat} {W : World} {m : Mc} {tb : List Nat} {cb f : Nat}, PS C N K W ps tb m → IN C cb f x → W.cell? ⟨cb, f, none⟩ = some (.int .i64 x.op) ∧ W.cell? ⟨cb, f + 1, none⟩ = some (.int .i64 x.a) ∧ W.cell? ⟨cb, f + 2, none⟩ = some (.int .i64 x.b) ∧ W.cell? ⟨cb, f + 3, none⟩ = some (.int .i64 x.c) ∧ W.cell? ⟨cb, f + 4, none⟩ = some (.int .i64 x.d) ∧ W.cell? ⟨cb, f + 5, none⟩ = some (.int .i64 x.e) ∧ cb < W.heap.size) := fun h i => h.insc i
  have HBl : Hid (∀ {N : Nat} {W : World} {m : Mc}, PS C N K W ps tb m → m.ths[t]? = some th1 → W.cell? ⟨b, 0, none⟩ = some (ptr C.mb) ∧ b < W.heap.size ∧ C.mb < W.heap.size) := fun {N W m} h ht => by
    obtain ⟨at_, hat, c0, c1, c3, c5, c6, c7, c8, lb, fz, f0, f1⟩ := h.thr ht hb
    exact ⟨c0, lb, h.size⟩
  rw [hop] at HIc
  have HOP : Hid (x.op = 4) := hop
  clear h ht hb hok h0 ha hx hN hat c0 c1 c3 c6 c8 fz f0 f1 hcf hpc hop hm1 hth1
  go_enter Try.func14, Try.ntmps14
  go_upto_region 6 with (go_at_call 21; refine D1.mono ?_; rintro e w2 ⟨h2, cb, f, hI, rfl⟩; obtain ⟨v5, vf5, vl⟩ := HC5.out h2)
  replace h2 := HP.out h2
  generalize w2.setCell ⟨b, 5, none⟩ (.int .i64 (th.pc + 1)) = w3 at *
  clear v5 vf5 vl c5 c7 fz5 lb hwp D1
  obtain ⟨q0, q1, q2, q3, q4, q5, ql⟩ := HIc.out h2 hI.out
  obtain ⟨z0, zb, zm⟩ := HBl.out h2 HX.out.1
  have SOF : Hid (∀ {N : Nat} {W : World} {m : Mc}, PS C N K W ps tb m → m.ths[t]? = some th1 → (fun W => W.cell? ⟨cb, f + 1, none⟩ = some (.int .i64 x.a) ∧ W.cell? ⟨cb, f + 2, none⟩ = some (.int .i64 x.b) ∧ W.cell? ⟨cb, f + 3, none⟩ = some (.int .i64 x.c) ∧ W.cell? ⟨b, 0, none⟩ = some (ptr C.mb) ∧ b < W.heap.size ∧ cb < W.heap.size) W) := fun {N W m} h ht => by
    obtain ⟨q0, q1, q2, q3, q4, q5, ql⟩ := HIc.out h hI.out
    obtain ⟨z0, zb, zm⟩ := HBl.out h ht
    exact ⟨q1, q2, q3, z0, zb, ql⟩
  have SS0 := SOF.out h2.drew HX.out.1
  go_wp2_with fail
  refine wp_region_held_drew (S := fun W => W.cell? ⟨cb, f + 1, none⟩ = some (.int .i64 x.a) ∧ W.cell? ⟨cb, f + 2, none⟩ = some (.int .i64 x.b) ∧ W.cell? ⟨cb, f + 3, none⟩ = some (.int .i64 x.c) ∧ W.cell? ⟨b, 0, none⟩ = some (ptr C.mb) ∧ b < W.heap.size ∧ cb < W.heap.size) (by as_aux_lemma => kernel_rfl) SS0 (fun hHeld => ?_)
  refine rtk 0 ?_
  refine rtk 1 ?_
  refine rtk 2 ?_
  refine rtk 3 ?_
  refine rtk 4 ?_
  refine rtk 6 ?_
  refine rtk 7 ?_
  refine rtk 8 ?_
  refine rtk 9 ?_
  refine rtk 10 ?_
  refine rr1 5 (fun K hK => ?_)
  (go_simp; refine (read_c h2.drew HX.out.1 HX.out.2.1 HX.out.2.2.1.2.1).mono ?_; rintro e w3 (⟨y3, z3, hz3, rfl, h3⟩ | ⟨y3, hy3, rfl, h3⟩); rotate_left; (exact ⟨rfl, by rw [ex_4 HOP.out, st_Fa HX.out.1 hy3.out]; exact StP.no (h3.up HX.out.2.2.2.2.2.1) HX.out.2.2.2.1 (sl_ne hy3.out)⟩); have SS1 := SOF.out h3 HX.out.1)
  refine rgo hK ?_ (hS := by first | exact SS0 | exact SS1 | exact SS2 | exact SS3 | exact SS4 | exact SS5)
  clear hK K hHeld
  intro hHeld
  refine rr1 11 (fun K hK => ?_)
  (go_simp; refine (read_c h3 HX.out.1 HX.out.2.1 HX.out.2.2.1.2.2.1).mono ?_; rintro e w4 (⟨y4, z4, hz4, rfl, h4⟩ | ⟨y4, hy4, rfl, h4⟩); rotate_left; (exact ⟨rfl, by rw [ex_4 HOP.out, st_Fb HX.out.1 hz3.out.1 hy4.out]; exact StP.no (h4.up HX.out.2.2.2.2.2.1) HX.out.2.2.2.1 (sl_ne hy4.out)⟩); have SS2 := SOF.out h4 HX.out.1)
  refine rgo hK ?_ (hS := by first | exact SS0 | exact SS1 | exact SS2 | exact SS3 | exact SS4 | exact SS5)
  clear hK K hHeld
  intro hHeld
  refine rtk 12 ?_
  refine rtk 13 ?_
  refine wpAnyH_done (by as_aux_lemma => kernel_rfl) ?_ _
  obtain ⟨p1, p2, p3, p4, p5, p6⟩ := SS2
  clear SS0 SS1
  have SS0 := SOF.out h4.drew HX.out.1
  go_wp2_with fail
  refine wp_region_held_drew (S := fun W => W.cell? ⟨cb, f + 1, none⟩ = some (.int .i64 x.a) ∧ W.cell? ⟨cb, f + 2, none⟩ = some (.int .i64 x.b) ∧ W.cell? ⟨cb, f + 3, none⟩ = some (.int .i64 x.c) ∧ W.cell? ⟨b, 0, none⟩ = some (ptr C.mb) ∧ b < W.heap.size ∧ cb < W.heap.size) (by as_aux_lemma => kernel_rfl) SS0 (fun hHeld => ?_)
  refine rtk 0 ?_
  refine rtk 1 ?_
  refine rtk 2 ?_
  refine rtk 3 ?_
  refine rtk 4 ?_
  refine rtk 5 ?_
  refine rtk 6 ?_
  refine rtk 7 ?_
  refine rtk 8 ?_
  refine rtk 10 ?_
  refine rr1 9 (fun K hK => ?_)
  (go_simp; refine (word_c h4.drew (h4.ok.mem _) HX.out.2.2.1.2.2.2.1).mono ?_; rintro e w5 ⟨h5, (⟨hb5, rfl⟩ | ⟨hb5, q5, p5, r5, hq5, rfl⟩)⟩; (exact ⟨rfl, by rw [ex_4 HOP.out, st_N HX.out.1 hz3.out.1 hz4.out.1 hb5.out]; exact StP.no (h5.up HX.out.2.2.2.2.2.1) HX.out.2.2.2.1 (by decide)⟩); have SS3 := SOF.out h5 HX.out.1)
  refine rgo hK ?_ (hS := by first | exact SS0 | exact SS1 | exact SS2 | exact SS3 | exact SS4 | exact SS5)
  clear hK K hHeld
  intro hHeld
  refine rr1 11 (fun K hK => ?_)
  (go_simp; refine (spset h5 hq5.out.2 (h5.ok.mem _)).mono ?_; rintro e w6 ⟨rfl, h6⟩; have SS4 := SOF.out h6 HX.out.1)
  refine rgo hK ?_ (hS := by first | exact SS0 | exact SS1 | exact SS2 | exact SS3 | exact SS4 | exact SS5)
  clear hK K hHeld
  intro hHeld
  refine wpAnyH_done (by as_aux_lemma => kernel_rfl) ?_ _
  go_wp2_with fail
  go_end0
  rw [ex_4 HOP.out, st_T HX.out.1 hz3.out.1 hz4.out.1 hb5.out hq5.out.1]
  exact StP.ok (h6.up HX.out.2.2.2.2.2.1) HX.out.2.2.2.1
end
end Go.Proofs.Ytpoepbmomfohlaa
