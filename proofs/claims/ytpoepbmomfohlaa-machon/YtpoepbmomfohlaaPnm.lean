/- The project's machine: MLd. -/
import Derived.Test.YtpoepbmomfohlaaPnk
namespace Go.Proofs.Ytpoepbmomfohlaa
open Go.RowKit
set_option linter.all false
section
variable {C : Ct} {N N' : Nat} {K : Nat → Obj → Prop} {w w' w1 : World} {ps : List Int} {tb tb' : List Nat} {m m' : Mc} {t b : Nat} {th th' : Th}
theorem ld_F (ht : m.ths[t]? = some th) {x : Mi} {y : Int} (hy : slotR th.frame t x.b = (y, false)) : m.ldM t x = m.fin y := by unfold Mc.ldM; rw [rd_F ht hy]
theorem ld_N (ht : m.ths[t]? = some th) {x : Mi} {y : Int} (hy : slotR th.frame t x.b = (y, true)) (hw : m.wordB (m.mem y.toNat) x.c = false) : m.ldM t x = m.fin 9 := by unfold Mc.ldM; rw [rd_T ht hy]; show (if m.wordB (m.mem y.toNat) x.c = true then _ else _) = _; rw [hw]; rfl
theorem ld_T (ht : m.ths[t]? = some th) {x : Mi} {y : Int} {q : Nat} (hy : slotR th.frame t x.b = (y, true)) (hw : m.wordB (m.mem y.toNat) x.c = true) (hq : m.mem y.toNat + x.c = (q : Int)) : m.ldM t x = (m.wr t x.a (m.mem q)).1 := by unfold Mc.ldM; rw [rd_T ht hy]; show (if m.wordB (m.mem y.toNat) x.c = true then _ else _) = _; rw [if_pos hw, hq, Int.toNat_natCast]
set_option maxRecDepth 100000 in
set_option maxHeartbeats 1000000 in
theorem st_3 (h : PS C N K w ps tb m) (ht : m.ths[t]? = some th) (hb : tb[t]? = some b) {x : Mi} (hok : x.ok) (h0 : m.how = 0) (ha : th.abo = false) (hx : insAt C.code th.pc = (x, true)) (hop : x.op = 3) (hN : N + 1 ≤ 1000000) : Calls Try.prog 14 #[ptr b] w (StP C (N + 1) K ps ((m.setT t { th with pc := th.pc + 1 }).exec t { th with pc := th.pc + 1 } x)) := by
  obtain ⟨th1, hth1⟩ : ∃ th1, th1 = { th with pc := th.pc + 1 } := ⟨_, rfl⟩
  obtain ⟨m1, hm1⟩ : ∃ m1, m1 = m.setT t th1 := ⟨_, rfl⟩
  rw [← hth1, ← hm1]
  obtain ⟨at_, hat, c0, c1, c3, c5, c6, c7, c8, lb, fz, f0, f1⟩ := h.thr ht hb
  have fz5 := fz 5
  rw [hat ha] at c5
  have D1 := due_x h ht hb ha hx
  have hpc := insAt_true (code := C.code) (pc := th.pc) (by rw [hx])
  have hcf := h.cd.few
  have hwp : wrap64 (th.pc + 1) = th.pc + 1 := wrap_id (by omega) (by omega)
  rw [ha] at c7
  have HP : Hid (∀ {W : World}, PS C N K W ps tb m → PS C N K (W.setCell ⟨b, 5, none⟩ (.int .i64 (th.pc + 1))) ps tb m1) := fun {W} h => by
    rw [hm1, hth1]
    exact h.goto ht hb ⟨by omega, by omega⟩
  have HC5 : Hid (∀ {W : World}, PS C N K W ps tb m → W.cell? ⟨b, 5, none⟩ = some (.int .i64 th.pc) ∧ W.frozen? ⟨b, 5, none⟩ = false ∧ b < W.heap.size) := fun {W} h => by
    obtain ⟨at_, hat, c0, c1, c3, c5, c6, c7, c8, lb, fz, f0, f1⟩ := h.thr ht hb
    rw [hat ha] at c5
    exact ⟨c5, fz 5, lb⟩
  have HX : Hid (m1.ths[t]? = some th1 ∧ tb[t]? = some b ∧ x.ok ∧ m1.how = 0 ∧ th1.abo = false ∧ N + 1 ≤ 1000000 ∧ 1 ≤ th1.pc ∧ th1.pc ≤ C.code.length ∧ (insAt C.code (th1.pc - 1)).1.e = x.e) := ⟨by rw [hm1]; show (m.ths.set t th1)[t]? = _; rw [List.getElem?_set_self (List.getElem?_eq_some_iff.1 ht).1], hb, hok, by rw [hm1]; exact h0, by rw [hth1]; exact ha, hN, by rw [hth1]; show 1 ≤ th.pc + 1; omega, by rw [hth1]; show th.pc + 1 ≤ _; omega, by rw [hth1]; show (insAt C.code (th.pc + 1 - 1)).1.e = _; rw [show th.pc + 1 - 1 = th.pc by omega, hx]⟩
  have HIc : Hid (∀ {N : Nat} {W : World} {m : Mc} {tb : List Nat} {cb f : Nat}, PS C N K W ps tb m → IN C cb f x → W.cell? ⟨cb, f, none⟩ = some (.int .i64 x.op) ∧ W.cell? ⟨cb, f + 1, none⟩ = some (.int .i64 x.a) ∧ W.cell? ⟨cb, f + 2, none⟩ = some (.int .i64 x.b) ∧ W.cell? ⟨cb, f + 3, none⟩ = some (.int .i64 x.c) ∧ W.cell? ⟨cb, f + 4, none⟩ = some (.int .i64 x.d) ∧ W.cell? ⟨cb, f + 5, none⟩ = some (.int .i64 x.e) ∧ cb < W.heap.size) := fun h i => h.insc i
  have HBl : Hid (∀ {N : Nat} {W : World} {m : Mc}, PS C N K W ps tb m → m.ths[t]? = some th1 → W.cell? ⟨b, 0, none⟩ = some (ptr C.mb) ∧ b < W.heap.size ∧ C.mb < W.heap.size) := fun {N W m} h ht => by
    obtain ⟨at_, hat, c0, c1, c3, c5, c6, c7, c8, lb, fz, f0, f1⟩ := h.thr ht hb
    exact ⟨c0, lb, h.size⟩
  rw [hop] at HIc
  have HOP : Hid (x.op = 3) := hop
  clear h ht hb hok h0 ha hx hN hat c0 c1 c3 c6 c8 fz f0 f1 hcf hpc hop hm1 hth1
  go_enter Try.func14, Try.ntmps14
  go_upto_region 6 with (go_at_call 21; refine D1.mono ?_; rintro e w2 ⟨h2, cb, f, hI, rfl⟩; obtain ⟨v5, vf5, vl⟩ := HC5.out h2)
  replace h2 := HP.out h2
  generalize w2.setCell ⟨b, 5, none⟩ (.int .i64 (th.pc + 1)) = w3 at *
  clear v5 vf5 vl c5 c7 fz5 lb hwp D1
  obtain ⟨q0, q1, q2, q3, q4, q5, ql⟩ := HIc.out h2 hI.out
  obtain ⟨z0, zb, zm⟩ := HBl.out h2 HX.out.1
  have SOF : Hid (∀ {N : Nat} {W : World} {m : Mc}, PS C N K W ps tb m → m.ths[t]? = some th1 → (fun W => W.cell? ⟨cb, f + 1, none⟩ = some (.int .i64 x.a) ∧ W.cell? ⟨cb, f + 2, none⟩ = some (.int .i64 x.b) ∧ W.cell? ⟨cb, f + 3, none⟩ = some (.int .i64 x.c) ∧ W.cell? ⟨b, 0, none⟩ = some (ptr C.mb) ∧ b < W.heap.size ∧ cb < W.heap.size) W) := fun {N W m} h ht => by
    obtain ⟨q0, q1, q2, q3, q4, q5, ql⟩ := HIc.out h hI.out
    obtain ⟨z0, zb, zm⟩ := HBl.out h ht
    exact ⟨q1, q2, q3, z0, zb, ql⟩
  have SS0 := SOF.out h2.drew HX.out.1
  go_wp2_with fail
  refine wp_region_held_drew (S := fun W => W.cell? ⟨cb, f + 1, none⟩ = some (.int .i64 x.a) ∧ W.cell? ⟨cb, f + 2, none⟩ = some (.int .i64 x.b) ∧ W.cell? ⟨cb, f + 3, none⟩ = some (.int .i64 x.c) ∧ W.cell? ⟨b, 0, none⟩ = some (ptr C.mb) ∧ b < W.heap.size ∧ cb < W.heap.size) (by as_aux_lemma => kernel_rfl) SS0 (fun hHeld => ?_)
  refine rtk 0 ?_
  refine rtk 1 ?_
  refine rtk 2 ?_
  refine rtk 3 ?_
  refine rtk 4 ?_
  refine rtk 5 ?_
  refine rtk 6 ?_
  refine rtk 7 ?_
  refine rtk 8 ?_
  refine rtk 9 ?_
  refine rtk 10 ?_
  refine rtk 11 ?_
  refine rtk 12 ?_
  refine rtk 13 ?_
  refine rtk 15 ?_
  refine rtk 16 ?_
  refine rtk 17 ?_
  refine rtk 18 ?_
  refine rr1 14 (fun K hK => ?_)
  (go_simp; refine (read_c h2.drew HX.out.1 HX.out.2.1 HX.out.2.2.1.2.2.1).mono ?_; rintro e w3 (⟨y3, z3, hz3, rfl, h3⟩ | ⟨y3, hy3, rfl, h3⟩); rotate_left; (exact ⟨rfl, by rw [ex_3 HOP.out, ld_F HX.out.1 hy3.out]; exact StP.no (h3.up HX.out.2.2.2.2.2.1) HX.out.2.2.2.1 (sl_ne hy3.out)⟩); have SS1 := SOF.out h3 HX.out.1)
  refine rgo hK ?_ (hS := by first | exact SS0 | exact SS1 | exact SS2 | exact SS3 | exact SS4 | exact SS5)
  clear hK K hHeld
  intro hHeld
  refine rr1 19 (fun K hK => ?_)
  (go_simp; refine (word_c h3 (h3.ok.mem _) HX.out.2.2.1.2.2.2.1).mono ?_; rintro e w4 ⟨h4, (⟨hb4, rfl⟩ | ⟨hb4, q4, p4, r4, hq4, rfl⟩)⟩; (exact ⟨rfl, by rw [ex_3 HOP.out, ld_N HX.out.1 hz3.out.1 hb4.out]; exact StP.no (h4.up HX.out.2.2.2.2.2.1) HX.out.2.2.2.1 (by decide)⟩); have SS2 := SOF.out h4 HX.out.1)
  refine rgo hK ?_ (hS := by first | exact SS0 | exact SS1 | exact SS2 | exact SS3 | exact SS4 | exact SS5)
  clear hK K hHeld
  intro hHeld
  refine rr1 20 (fun K hK => ?_)
  (go_simp; refine (spget h4 hq4.out.2).mono ?_; rintro e w5 ⟨rfl, h5⟩; have SS3 := SOF.out h5 HX.out.1)
  refine rgo hK ?_ (hS := by first | exact SS0 | exact SS1 | exact SS2 | exact SS3 | exact SS4 | exact SS5)
  clear hK K hHeld
  intro hHeld
  refine rr1 21 (fun K hK => ?_)
  (go_simp; refine (write_c h5 HX.out.1 HX.out.2.1 HX.out.2.2.1.2.1 (h5.ok.mem _)).mono ?_; rintro e w6 (⟨y6, hy6, rfl, h6⟩ | ⟨y6, hy6, rfl, h6⟩); rotate_left; (exact ⟨rfl, by rw [ex_3 HOP.out, ld_T HX.out.1 hz3.out.1 hb4.out hq4.out.1, wr_F HX.out.1 hy6.out]; exact StP.no (h6.up HX.out.2.2.2.2.2.1) HX.out.2.2.2.1 (sl_ne hy6.out)⟩); have SS4 := SOF.out h6 HX.out.1)
  refine rgo hK ?_ (hS := by first | exact SS0 | exact SS1 | exact SS2 | exact SS3 | exact SS4 | exact SS5)
  clear hK K hHeld
  intro hHeld
  refine wpAnyH_done (by as_aux_lemma => kernel_rfl) ?_ _
  go_wp2_with fail
  go_end0
  rw [ex_3 HOP.out, ld_T HX.out.1 hz3.out.1 hb4.out hq4.out.1, wr_T HX.out.1 hy6.out]
  exact StP.ok (h6.up HX.out.2.2.2.2.2.1) HX.out.2.2.2.1
end
end Go.Proofs.Ytpoepbmomfohlaa
