/- The project's machine: MAlloc, MFree, MWait. -/
import Derived.Test.YtpoepbmomfohlaaPnk
namespace Go.Proofs.Ytpoepbmomfohlaa
open Go.RowKit
set_option linter.all false
section
variable {C : Ct} {N N' : Nat} {K : Nat → Obj → Prop} {w w' w1 : World} {ps : List Int} {tb tb' : List Nat} {m m' : Mc} {t b : Nat} {th th' : Th}
theorem al_F (ht : m.ths[t]? = some th) {x : Mi} {y : Int} (hy : slotR th.frame t x.b = (y, false)) : m.alM t x = m.fin y := by unfold Mc.alM; rw [rd_F ht hy]
theorem al_1 (ht : m.ths[t]? = some th) {x : Mi} {y : Int} (hy : slotR th.frame t x.b = (y, true)) (h1 : m.mem y.toNat < 1) : m.alM t x = m.fin 9 := by unfold Mc.alM; rw [rd_T ht hy]; show (if m.mem y.toNat < 1 then _ else _) = _; rw [if_pos h1]
theorem al_N (ht : m.ths[t]? = some th) {x : Mi} {y : Int} (hy : slotR th.frame t x.b = (y, true)) (h1 : 1 ≤ m.mem y.toNat ∧ halloc 4194303 m.hp (m.mem y.toNat) = none) : m.alM t x = m.fin 7 := by unfold Mc.alM; rw [rd_T ht hy]; show (if m.mem y.toNat < 1 then _ else _) = _; rw [if_neg (Int.not_lt.2 h1.1), h1.2]
theorem al_T (ht : m.ths[t]? = some th) {x : Mi} {y : Int} {q : Int × List (Int × Int)} (hy : slotR th.frame t x.b = (y, true)) (h1 : 1 ≤ m.mem y.toNat ∧ halloc 4194303 m.hp (m.mem y.toNat) = some q) : m.alM t x = ({ m with hp := q.2 }.wr t x.a q.1).1 := by unfold Mc.alM; rw [rd_T ht hy]; show (if m.mem y.toNat < 1 then _ else _) = _; rw [if_neg (Int.not_lt.2 h1.1), h1.2]
theorem fr_F (ht : m.ths[t]? = some th) {x : Mi} {y : Int} (hy : slotR th.frame t x.a = (y, false)) : m.frM t x = m.fin y := by unfold Mc.frM; rw [rd_F ht hy]
theorem fr_N (ht : m.ths[t]? = some th) {x : Mi} {y : Int} (hy : slotR th.frame t x.a = (y, true)) (h1 : hfree m.hp (m.mem y.toNat) = none) : m.frM t x = m.fin 9 := by unfold Mc.frM; rw [rd_T ht hy]; show (match hfree m.hp (m.mem y.toNat) with | none => _ | some _ => _) = _; rw [h1]
theorem fr_T (ht : m.ths[t]? = some th) {x : Mi} {y : Int} {q : List (Int × Int)} (hy : slotR th.frame t x.a = (y, true)) (h1 : hfree m.hp (m.mem y.toNat) = some q) : m.frM t x = { m with hp := q } := by unfold Mc.frM; rw [rd_T ht hy]; show (match hfree m.hp (m.mem y.toNat) with | none => _ | some _ => _) = _; rw [h1]
theorem wa_F (ht : m.ths[t]? = some th) {x : Mi} {y : Int} (hy : slotR th.frame t x.a = (y, false)) : m.waM t x = m.fin y := by unfold Mc.waM; rw [rd_F ht hy]
theorem wa_N (ht : m.ths[t]? = some th) {x : Mi} {y : Int} (hy : slotR th.frame t x.a = (y, true)) (hw : m.wordB (m.mem y.toNat) x.c = false) : m.waM t x = m.fin 9 := by unfold Mc.waM; rw [rd_T ht hy]; show (if m.wordB (m.mem y.toNat) x.c = true then _ else _) = _; rw [hw]; rfl
theorem wa_T (ht : m.ths[t]? = some th) {x : Mi} {y : Int} (hy : slotR th.frame t x.a = (y, true)) (hw : m.wordB (m.mem y.toNat) x.c = true) : m.waM t x = m := by unfold Mc.waM; rw [rd_T ht hy]; show (if m.wordB (m.mem y.toNat) x.c = true then _ else _) = _; rw [if_pos hw]
set_option maxRecDepth 100000 in
set_option maxHeartbeats 1000000 in
theorem st_13 (h : PS C N K w ps tb m) (ht : m.ths[t]? = some th) (hb : tb[t]? = some b) {x : Mi} (hok : x.ok) (h0 : m.how = 0) (ha : th.abo = false) (hx : insAt C.code th.pc = (x, true)) (hop : x.op = 13) (hN : N + 1 ≤ 1000000) : Calls Try.prog 14 #[ptr b] w (StP C (N + 1) K ps ((m.setT t { th with pc := th.pc + 1 }).exec t { th with pc := th.pc + 1 } x)) := by
  obtain ⟨th1, hth1⟩ : ∃ th1, th1 = { th with pc := th.pc + 1 } := ⟨_, rfl⟩
  obtain ⟨m1, hm1⟩ : ∃ m1, m1 = m.setT t th1 := ⟨_, rfl⟩
  rw [← hth1, ← hm1]
  obtain ⟨at_, hat, c0, c1, c3, c5, c6, c7, c8, lb, fz, f0, f1⟩ := h.thr ht hb
  have fz5 := fz 5
  rw [hat ha] at c5
  have D1 := due_x h ht hb ha hx
  have hpc := insAt_true (code := C.code) (pc := th.pc) (by rw [hx])
  have hcf := h.cd.few
  have hwp : wrap64 (th.pc + 1) = th.pc + 1 := wrap_id (by omega) (by omega)
  rw [ha] at c7
  have HP : Hid (∀ {W : World}, PS C N K W ps tb m → PS C N K (W.setCell ⟨b, 5, none⟩ (.int .i64 (th.pc + 1))) ps tb m1) := fun {W} h => by
    rw [hm1, hth1]
    exact h.goto ht hb ⟨by omega, by omega⟩
  have HC5 : Hid (∀ {W : World}, PS C N K W ps tb m → W.cell? ⟨b, 5, none⟩ = some (.int .i64 th.pc) ∧ W.frozen? ⟨b, 5, none⟩ = false ∧ b < W.heap.size) := fun {W} h => by
    obtain ⟨at_, hat, c0, c1, c3, c5, c6, c7, c8, lb, fz, f0, f1⟩ := h.thr ht hb
    rw [hat ha] at c5
    exact ⟨c5, fz 5, lb⟩
  have HX : Hid (m1.ths[t]? = some th1 ∧ tb[t]? = some b ∧ x.ok ∧ m1.how = 0 ∧ th1.abo = false ∧ N + 1 ≤ 1000000 ∧ 1 ≤ th1.pc ∧ th1.pc ≤ C.code.length ∧ (insAt C.code (th1.pc - 1)).1.e = x.e) := ⟨by rw [hm1]; show (m.ths.set t th1)[t]? = _; rw [List.getElem?_set_self (List.getElem?_eq_some_iff.1 ht).1], hb, hok, by rw [hm1]; exact h0, by rw [hth1]; exact ha, hN, by rw [hth1]; show 1 ≤ th.pc + 1; omega, by rw [hth1]; show th.pc + 1 ≤ _; omega, by rw [hth1]; show (insAt C.code (th.pc + 1 - 1)).1.e = _; rw [show th.pc + 1 - 1 = th.pc by omega, hx]⟩
  have HIc : Hid (∀ {N : Nat} {W : World} {m : Mc} {tb : List Nat} {cb f : Nat}, PS C N K W ps tb m → IN C cb f x → W.cell? ⟨cb, f, none⟩ = some (.int .i64 x.op) ∧ W.cell? ⟨cb, f + 1, none⟩ = some (.int .i64 x.a) ∧ W.cell? ⟨cb, f + 2, none⟩ = some (.int .i64 x.b) ∧ W.cell? ⟨cb, f + 3, none⟩ = some (.int .i64 x.c) ∧ W.cell? ⟨cb, f + 4, none⟩ = some (.int .i64 x.d) ∧ W.cell? ⟨cb, f + 5, none⟩ = some (.int .i64 x.e) ∧ cb < W.heap.size) := fun h i => h.insc i
  have HBl : Hid (∀ {N : Nat} {W : World} {m : Mc}, PS C N K W ps tb m → m.ths[t]? = some th1 → W.cell? ⟨b, 0, none⟩ = some (ptr C.mb) ∧ b < W.heap.size ∧ C.mb < W.heap.size) := fun {N W m} h ht => by
    obtain ⟨at_, hat, c0, c1, c3, c5, c6, c7, c8, lb, fz, f0, f1⟩ := h.thr ht hb
    exact ⟨c0, lb, h.size⟩
  rw [hop] at HIc
  have HOP : Hid (x.op = 13) := hop
  clear h ht hb hok h0 ha hx hN hat c0 c1 c3 c6 c8 fz f0 f1 hcf hpc hop hm1 hth1
  go_enter Try.func14, Try.ntmps14
  go_upto_region 6 with (go_at_call 21; refine D1.mono ?_; rintro e w2 ⟨h2, cb, f, hI, rfl⟩; obtain ⟨v5, vf5, vl⟩ := HC5.out h2)
  replace h2 := HP.out h2
  generalize w2.setCell ⟨b, 5, none⟩ (.int .i64 (th.pc + 1)) = w3 at *
  clear v5 vf5 vl c5 c7 fz5 lb hwp D1
  obtain ⟨q0, q1, q2, q3, q4, q5, ql⟩ := HIc.out h2 hI.out
  obtain ⟨z0, zb, zm⟩ := HBl.out h2 HX.out.1
  have SOF : Hid (∀ {N : Nat} {W : World} {m : Mc}, PS C N K W ps tb m → m.ths[t]? = some th1 → (fun W => W.cell? ⟨cb, f + 1, none⟩ = some (.int .i64 x.a) ∧ W.cell? ⟨cb, f + 2, none⟩ = some (.int .i64 x.b) ∧ W.cell? ⟨cb, f + 3, none⟩ = some (.int .i64 x.c) ∧ W.cell? ⟨b, 0, none⟩ = some (ptr C.mb) ∧ b < W.heap.size ∧ cb < W.heap.size) W) := fun {N W m} h ht => by
    obtain ⟨q0, q1, q2, q3, q4, q5, ql⟩ := HIc.out h hI.out
    obtain ⟨z0, zb, zm⟩ := HBl.out h ht
    exact ⟨q1, q2, q3, z0, zb, ql⟩
  have SS0 := SOF.out h2.drew HX.out.1
  have HQ64 : Hid (∀ {W : World} {n : Int} {q : Int × List (Int × Int)}, PS C N K W ps tb m1 → halloc 4194303 m1.hp n = some q → I64 q.1) := fun {W n q} h ha => by
    obtain ⟨pv, own, L, hp, hk⟩ := h.pr
    obtain ⟨q1, q2⟩ := q
    exact halloc_64 hp.hm.ok ha
  go_wp2_with fail
  refine wp_region_held_drew (S := fun W => W.cell? ⟨cb, f + 1, none⟩ = some (.int .i64 x.a) ∧ W.cell? ⟨cb, f + 2, none⟩ = some (.int .i64 x.b) ∧ W.cell? ⟨cb, f + 3, none⟩ = some (.int .i64 x.c) ∧ W.cell? ⟨b, 0, none⟩ = some (ptr C.mb) ∧ b < W.heap.size ∧ cb < W.heap.size) (by as_aux_lemma => kernel_rfl) SS0 (fun hHeld => ?_)
  refine rtk 0 ?_
  refine rtk 1 ?_
  refine rtk 2 ?_
  refine rtk 3 ?_
  refine rtk 4 ?_
  refine rtk 5 ?_
  refine rtk 6 ?_
  refine rtk 7 ?_
  refine rtk 8 ?_
  refine rtk 9 ?_
  refine rtk 10 ?_
  refine rtk 11 ?_
  refine rtk 12 ?_
  refine rtk 13 ?_
  refine rr1 14 (fun K hK => ?_)
  (go_simp; refine (read_c h2.drew HX.out.1 HX.out.2.1 HX.out.2.2.1.2.2.1).mono ?_; rintro e w3 (⟨y3, z3, hz3, rfl, h3⟩ | ⟨y3, hy3, rfl, h3⟩); rotate_left; (exact ⟨rfl, by rw [ex_13 HOP.out, al_F HX.out.1 hy3.out]; exact StP.no (h3.up HX.out.2.2.2.2.2.1) HX.out.2.2.2.1 (sl_ne hy3.out)⟩); have SS1 := SOF.out h3 HX.out.1)
  refine rgo hK ?_ (hS := by first | exact SS0 | exact SS1 | exact SS2 | exact SS3 | exact SS4 | exact SS5)
  clear hK K hHeld
  intro hHeld
  refine rr1 15 (fun K hK => ?_)
  (go_simp; refine (alloc_c h3 (h3.ok.mem _)).mono ?_; rintro e w4 (⟨ha4, rfl, h4⟩ | ⟨ha4, rfl, h4⟩ | ⟨q4, ha4, rfl, h4⟩); (exact ⟨rfl, by rw [ex_13 HOP.out, al_1 HX.out.1 hz3.out.1 ha4.out]; exact StP.no (h4.up HX.out.2.2.2.2.2.1) HX.out.2.2.2.1 (by decide)⟩); (exact ⟨rfl, by rw [ex_13 HOP.out, al_N HX.out.1 hz3.out.1 ⟨Int.not_lt.1 ha4.out.1, ha4.out.2⟩]; exact StP.no (h4.up HX.out.2.2.2.2.2.1) HX.out.2.2.2.1 (by decide)⟩); replace ha4 : Hid (1 ≤ m1.mem y3.toNat ∧ halloc 4194303 m1.hp (m1.mem y3.toNat) = some q4) := ⟨Int.not_lt.1 ha4.out.1, ha4.out.2⟩; have SS2 := SOF.out h4 HX.out.1)
  refine rgo hK ?_ (hS := by first | exact SS0 | exact SS1 | exact SS2 | exact SS3 | exact SS4 | exact SS5)
  clear hK K hHeld
  intro hHeld
  refine rr1 16 (fun K hK => ?_)
  (go_simp; refine (write_c h4 HX.out.1 HX.out.2.1 HX.out.2.2.1.2.1 (HQ64.out h3 ha4.out.2)).mono ?_; rintro e w5 (⟨y5, hy5, rfl, h5⟩ | ⟨y5, hy5, rfl, h5⟩); rotate_left; (exact ⟨rfl, by rw [ex_13 HOP.out, al_T HX.out.1 hz3.out.1 ha4.out, wr_F (m := { m1 with hp := q4.2 }) HX.out.1 hy5.out]; exact StP.no (h5.up HX.out.2.2.2.2.2.1) HX.out.2.2.2.1 (sl_ne hy5.out)⟩); have SS3 := SOF.out h5 HX.out.1)
  refine rgo hK ?_ (hS := by first | exact SS0 | exact SS1 | exact SS2 | exact SS3 | exact SS4 | exact SS5)
  clear hK K hHeld
  intro hHeld
  refine wpAnyH_done (by as_aux_lemma => kernel_rfl) ?_ _
  go_wp2_with fail
  go_end0
  rw [ex_13 HOP.out, al_T HX.out.1 hz3.out.1 ha4.out, wr_T (m := { m1 with hp := q4.2 }) HX.out.1 hy5.out]
  exact StP.ok (h5.up HX.out.2.2.2.2.2.1) HX.out.2.2.2.1
set_option maxRecDepth 100000 in
set_option maxHeartbeats 1000000 in
theorem st_14 (h : PS C N K w ps tb m) (ht : m.ths[t]? = some th) (hb : tb[t]? = some b) {x : Mi} (hok : x.ok) (h0 : m.how = 0) (ha : th.abo = false) (hx : insAt C.code th.pc = (x, true)) (hop : x.op = 14) (hN : N + 1 ≤ 1000000) : Calls Try.prog 14 #[ptr b] w (StP C (N + 1) K ps ((m.setT t { th with pc := th.pc + 1 }).exec t { th with pc := th.pc + 1 } x)) := by
  obtain ⟨th1, hth1⟩ : ∃ th1, th1 = { th with pc := th.pc + 1 } := ⟨_, rfl⟩
  obtain ⟨m1, hm1⟩ : ∃ m1, m1 = m.setT t th1 := ⟨_, rfl⟩
  rw [← hth1, ← hm1]
  obtain ⟨at_, hat, c0, c1, c3, c5, c6, c7, c8, lb, fz, f0, f1⟩ := h.thr ht hb
  have fz5 := fz 5
  rw [hat ha] at c5
  have D1 := due_x h ht hb ha hx
  have hpc := insAt_true (code := C.code) (pc := th.pc) (by rw [hx])
  have hcf := h.cd.few
  have hwp : wrap64 (th.pc + 1) = th.pc + 1 := wrap_id (by omega) (by omega)
  rw [ha] at c7
  have HP : Hid (∀ {W : World}, PS C N K W ps tb m → PS C N K (W.setCell ⟨b, 5, none⟩ (.int .i64 (th.pc + 1))) ps tb m1) := fun {W} h => by
    rw [hm1, hth1]
    exact h.goto ht hb ⟨by omega, by omega⟩
  have HC5 : Hid (∀ {W : World}, PS C N K W ps tb m → W.cell? ⟨b, 5, none⟩ = some (.int .i64 th.pc) ∧ W.frozen? ⟨b, 5, none⟩ = false ∧ b < W.heap.size) := fun {W} h => by
    obtain ⟨at_, hat, c0, c1, c3, c5, c6, c7, c8, lb, fz, f0, f1⟩ := h.thr ht hb
    rw [hat ha] at c5
    exact ⟨c5, fz 5, lb⟩
  have HX : Hid (m1.ths[t]? = some th1 ∧ tb[t]? = some b ∧ x.ok ∧ m1.how = 0 ∧ th1.abo = false ∧ N + 1 ≤ 1000000 ∧ 1 ≤ th1.pc ∧ th1.pc ≤ C.code.length ∧ (insAt C.code (th1.pc - 1)).1.e = x.e) := ⟨by rw [hm1]; show (m.ths.set t th1)[t]? = _; rw [List.getElem?_set_self (List.getElem?_eq_some_iff.1 ht).1], hb, hok, by rw [hm1]; exact h0, by rw [hth1]; exact ha, hN, by rw [hth1]; show 1 ≤ th.pc + 1; omega, by rw [hth1]; show th.pc + 1 ≤ _; omega, by rw [hth1]; show (insAt C.code (th.pc + 1 - 1)).1.e = _; rw [show th.pc + 1 - 1 = th.pc by omega, hx]⟩
  have HIc : Hid (∀ {N : Nat} {W : World} {m : Mc} {tb : List Nat} {cb f : Nat}, PS C N K W ps tb m → IN C cb f x → W.cell? ⟨cb, f, none⟩ = some (.int .i64 x.op) ∧ W.cell? ⟨cb, f + 1, none⟩ = some (.int .i64 x.a) ∧ W.cell? ⟨cb, f + 2, none⟩ = some (.int .i64 x.b) ∧ W.cell? ⟨cb, f + 3, none⟩ = some (.int .i64 x.c) ∧ W.cell? ⟨cb, f + 4, none⟩ = some (.int .i64 x.d) ∧ W.cell? ⟨cb, f + 5, none⟩ = some (.int .i64 x.e) ∧ cb < W.heap.size) := fun h i => h.insc i
  have HBl : Hid (∀ {N : Nat} {W : World} {m : Mc}, PS C N K W ps tb m → m.ths[t]? = some th1 → W.cell? ⟨b, 0, none⟩ = some (ptr C.mb) ∧ b < W.heap.size ∧ C.mb < W.heap.size) := fun {N W m} h ht => by
    obtain ⟨at_, hat, c0, c1, c3, c5, c6, c7, c8, lb, fz, f0, f1⟩ := h.thr ht hb
    exact ⟨c0, lb, h.size⟩
  rw [hop] at HIc
  have HOP : Hid (x.op = 14) := hop
  clear h ht hb hok h0 ha hx hN hat c0 c1 c3 c6 c8 fz f0 f1 hcf hpc hop hm1 hth1
  go_enter Try.func14, Try.ntmps14
  go_upto_region 6 with (go_at_call 21; refine D1.mono ?_; rintro e w2 ⟨h2, cb, f, hI, rfl⟩; obtain ⟨v5, vf5, vl⟩ := HC5.out h2)
  replace h2 := HP.out h2
  generalize w2.setCell ⟨b, 5, none⟩ (.int .i64 (th.pc + 1)) = w3 at *
  clear v5 vf5 vl c5 c7 fz5 lb hwp D1
  obtain ⟨q0, q1, q2, q3, q4, q5, ql⟩ := HIc.out h2 hI.out
  obtain ⟨z0, zb, zm⟩ := HBl.out h2 HX.out.1
  have SOF : Hid (∀ {N : Nat} {W : World} {m : Mc}, PS C N K W ps tb m → m.ths[t]? = some th1 → (fun W => W.cell? ⟨cb, f + 1, none⟩ = some (.int .i64 x.a) ∧ W.cell? ⟨cb, f + 2, none⟩ = some (.int .i64 x.b) ∧ W.cell? ⟨cb, f + 3, none⟩ = some (.int .i64 x.c) ∧ W.cell? ⟨b, 0, none⟩ = some (ptr C.mb) ∧ b < W.heap.size ∧ cb < W.heap.size) W) := fun {N W m} h ht => by
    obtain ⟨q0, q1, q2, q3, q4, q5, ql⟩ := HIc.out h hI.out
    obtain ⟨z0, zb, zm⟩ := HBl.out h ht
    exact ⟨q1, q2, q3, z0, zb, ql⟩
  have SS0 := SOF.out h2.drew HX.out.1
  go_wp2_with fail
  refine wp_region_held_drew (S := fun W => W.cell? ⟨cb, f + 1, none⟩ = some (.int .i64 x.a) ∧ W.cell? ⟨cb, f + 2, none⟩ = some (.int .i64 x.b) ∧ W.cell? ⟨cb, f + 3, none⟩ = some (.int .i64 x.c) ∧ W.cell? ⟨b, 0, none⟩ = some (ptr C.mb) ∧ b < W.heap.size ∧ cb < W.heap.size) (by as_aux_lemma => kernel_rfl) SS0 (fun hHeld => ?_)
  refine rtk 0 ?_
  refine rtk 1 ?_
  refine rtk 2 ?_
  refine rtk 3 ?_
  refine rtk 4 ?_
  refine rtk 5 ?_
  refine rtk 6 ?_
  refine rtk 7 ?_
  refine rtk 8 ?_
  refine rr1 9 (fun K hK => ?_)
  (go_simp; refine (read_c h2.drew HX.out.1 HX.out.2.1 HX.out.2.2.1.2.1).mono ?_; rintro e w3 (⟨y3, z3, hz3, rfl, h3⟩ | ⟨y3, hy3, rfl, h3⟩); rotate_left; (exact ⟨rfl, by rw [ex_14 HOP.out, fr_F HX.out.1 hy3.out]; exact StP.no (h3.up HX.out.2.2.2.2.2.1) HX.out.2.2.2.1 (sl_ne hy3.out)⟩); have SS1 := SOF.out h3 HX.out.1)
  refine rgo hK ?_ (hS := by first | exact SS0 | exact SS1 | exact SS2 | exact SS3 | exact SS4 | exact SS5)
  clear hK K hHeld
  intro hHeld
  refine rr1 10 (fun K hK => ?_)
  (go_simp; refine (free_c h3 (h3.ok.mem _)).mono ?_; rintro e w4 (⟨ha4, rfl, h4⟩ | ⟨q4, ha4, rfl, h4⟩); (exact ⟨rfl, by rw [ex_14 HOP.out, fr_N HX.out.1 hz3.out.1 ha4.out]; exact StP.no (h4.up HX.out.2.2.2.2.2.1) HX.out.2.2.2.1 (by decide)⟩); have SS2 := SOF.out h4 HX.out.1)
  refine rgo hK ?_ (hS := by first | exact SS0 | exact SS1 | exact SS2 | exact SS3 | exact SS4 | exact SS5)
  clear hK K hHeld
  intro hHeld
  refine wpAnyH_done (by as_aux_lemma => kernel_rfl) ?_ _
  go_wp2_with fail
  go_end0
  rw [ex_14 HOP.out, fr_T HX.out.1 hz3.out.1 ha4.out]
  exact StP.ok (h4.up HX.out.2.2.2.2.2.1) HX.out.2.2.2.1
set_option maxRecDepth 100000 in
set_option maxHeartbeats 1000000 in
theorem st_17 (h : PS C N K w ps tb m) (ht : m.ths[t]? = some th) (hb : tb[t]? = some b) {x : Mi} (hok : x.ok) (h0 : m.how = 0) (ha : th.abo = false) (hx : insAt C.code th.pc = (x, true)) (hop : x.op = 17) (hN : N + 1 ≤ 1000000) : Calls Try.prog 14 #[ptr b] w (StP C (N + 1) K ps ((m.setT t { th with pc := th.pc + 1 }).exec t { th with pc := th.pc + 1 } x)) := by
  obtain ⟨th1, hth1⟩ : ∃ th1, th1 = { th with pc := th.pc + 1 } := ⟨_, rfl⟩
  obtain ⟨m1, hm1⟩ : ∃ m1, m1 = m.setT t th1 := ⟨_, rfl⟩
  rw [← hth1, ← hm1]
  obtain ⟨at_, hat, c0, c1, c3, c5, c6, c7, c8, lb, fz, f0, f1⟩ := h.thr ht hb
  have fz5 := fz 5
  rw [hat ha] at c5
  have D1 := due_x h ht hb ha hx
  have hpc := insAt_true (code := C.code) (pc := th.pc) (by rw [hx])
  have hcf := h.cd.few
  have hwp : wrap64 (th.pc + 1) = th.pc + 1 := wrap_id (by omega) (by omega)
  rw [ha] at c7
  have HP : Hid (∀ {W : World}, PS C N K W ps tb m → PS C N K (W.setCell ⟨b, 5, none⟩ (.int .i64 (th.pc + 1))) ps tb m1) := fun {W} h => by
    rw [hm1, hth1]
    exact h.goto ht hb ⟨by omega, by omega⟩
  have HC5 : Hid (∀ {W : World}, PS C N K W ps tb m → W.cell? ⟨b, 5, none⟩ = some (.int .i64 th.pc) ∧ W.frozen? ⟨b, 5, none⟩ = false ∧ b < W.heap.size) := fun {W} h => by
    obtain ⟨at_, hat, c0, c1, c3, c5, c6, c7, c8, lb, fz, f0, f1⟩ := h.thr ht hb
    rw [hat ha] at c5
    exact ⟨c5, fz 5, lb⟩
  have HX : Hid (m1.ths[t]? = some th1 ∧ tb[t]? = some b ∧ x.ok ∧ m1.how = 0 ∧ th1.abo = false ∧ N + 1 ≤ 1000000 ∧ 1 ≤ th1.pc ∧ th1.pc ≤ C.code.length ∧ (insAt C.code (th1.pc - 1)).1.e = x.e) := ⟨by rw [hm1]; show (m.ths.set t th1)[t]? = _; rw [List.getElem?_set_self (List.getElem?_eq_some_iff.1 ht).1], hb, hok, by rw [hm1]; exact h0, by rw [hth1]; exact ha, hN, by rw [hth1]; show 1 ≤ th.pc + 1; omega, by rw [hth1]; show th.pc + 1 ≤ _; omega, by rw [hth1]; show (insAt C.code (th.pc + 1 - 1)).1.e = _; rw [show th.pc + 1 - 1 = th.pc by omega, hx]⟩
  have HIc : Hid (∀ {N : Nat} {W : World} {m : Mc} {tb : List Nat} {cb f : Nat}, PS C N K W ps tb m → IN C cb f x → W.cell? ⟨cb, f, none⟩ = some (.int .i64 x.op) ∧ W.cell? ⟨cb, f + 1, none⟩ = some (.int .i64 x.a) ∧ W.cell? ⟨cb, f + 2, none⟩ = some (.int .i64 x.b) ∧ W.cell? ⟨cb, f + 3, none⟩ = some (.int .i64 x.c) ∧ W.cell? ⟨cb, f + 4, none⟩ = some (.int .i64 x.d) ∧ W.cell? ⟨cb, f + 5, none⟩ = some (.int .i64 x.e) ∧ cb < W.heap.size) := fun h i => h.insc i
  have HBl : Hid (∀ {N : Nat} {W : World} {m : Mc}, PS C N K W ps tb m → m.ths[t]? = some th1 → W.cell? ⟨b, 0, none⟩ = some (ptr C.mb) ∧ b < W.heap.size ∧ C.mb < W.heap.size) := fun {N W m} h ht => by
    obtain ⟨at_, hat, c0, c1, c3, c5, c6, c7, c8, lb, fz, f0, f1⟩ := h.thr ht hb
    exact ⟨c0, lb, h.size⟩
  rw [hop] at HIc
  have HOP : Hid (x.op = 17) := hop
  clear h ht hb hok h0 ha hx hN hat c0 c1 c3 c6 c8 fz f0 f1 hcf hpc hop hm1 hth1
  go_enter Try.func14, Try.ntmps14
  go_upto_region 6 with (go_at_call 21; refine D1.mono ?_; rintro e w2 ⟨h2, cb, f, hI, rfl⟩; obtain ⟨v5, vf5, vl⟩ := HC5.out h2)
  replace h2 := HP.out h2
  generalize w2.setCell ⟨b, 5, none⟩ (.int .i64 (th.pc + 1)) = w3 at *
  clear v5 vf5 vl c5 c7 fz5 lb hwp D1
  obtain ⟨q0, q1, q2, q3, q4, q5, ql⟩ := HIc.out h2 hI.out
  obtain ⟨z0, zb, zm⟩ := HBl.out h2 HX.out.1
  have SOF : Hid (∀ {N : Nat} {W : World} {m : Mc}, PS C N K W ps tb m → m.ths[t]? = some th1 → (fun W => W.cell? ⟨cb, f + 1, none⟩ = some (.int .i64 x.a) ∧ W.cell? ⟨cb, f + 2, none⟩ = some (.int .i64 x.b) ∧ W.cell? ⟨cb, f + 3, none⟩ = some (.int .i64 x.c) ∧ W.cell? ⟨b, 0, none⟩ = some (ptr C.mb) ∧ b < W.heap.size ∧ cb < W.heap.size) W) := fun {N W m} h ht => by
    obtain ⟨q0, q1, q2, q3, q4, q5, ql⟩ := HIc.out h hI.out
    obtain ⟨z0, zb, zm⟩ := HBl.out h ht
    exact ⟨q1, q2, q3, z0, zb, ql⟩
  have SS0 := SOF.out h2.drew HX.out.1
  go_wp2_with fail
  refine wp_region_held_drew (S := fun W => W.cell? ⟨cb, f + 1, none⟩ = some (.int .i64 x.a) ∧ W.cell? ⟨cb, f + 2, none⟩ = some (.int .i64 x.b) ∧ W.cell? ⟨cb, f + 3, none⟩ = some (.int .i64 x.c) ∧ W.cell? ⟨b, 0, none⟩ = some (ptr C.mb) ∧ b < W.heap.size ∧ cb < W.heap.size) (by as_aux_lemma => kernel_rfl) SS0 (fun hHeld => ?_)
  refine rtk 0 ?_
  refine rtk 1 ?_
  refine rtk 2 ?_
  refine rtk 3 ?_
  refine rtk 4 ?_
  refine rtk 5 ?_
  refine rtk 6 ?_
  refine rtk 7 ?_
  refine rtk 8 ?_
  refine rtk 10 ?_
  refine rtk 11 ?_
  refine rtk 12 ?_
  refine rtk 13 ?_
  refine rr1 9 (fun K hK => ?_)
  (go_simp; refine (read_c h2.drew HX.out.1 HX.out.2.1 HX.out.2.2.1.2.1).mono ?_; rintro e w3 (⟨y3, z3, hz3, rfl, h3⟩ | ⟨y3, hy3, rfl, h3⟩); rotate_left; (exact ⟨rfl, by rw [ex_17 HOP.out, wa_F HX.out.1 hy3.out]; exact StP.no (h3.up HX.out.2.2.2.2.2.1) HX.out.2.2.2.1 (sl_ne hy3.out)⟩); have SS1 := SOF.out h3 HX.out.1)
  refine rgo hK ?_ (hS := by first | exact SS0 | exact SS1 | exact SS2 | exact SS3 | exact SS4 | exact SS5)
  clear hK K hHeld
  intro hHeld
  refine rr1 14 (fun K hK => ?_)
  (go_simp; refine (word_c h3 (h3.ok.mem _) HX.out.2.2.1.2.2.2.1).mono ?_; rintro e w4 ⟨h4, (⟨hb4, rfl⟩ | ⟨hb4, q4, p4, r4, hq4, rfl⟩)⟩; (exact ⟨rfl, by rw [ex_17 HOP.out, wa_N HX.out.1 hz3.out.1 hb4.out]; exact StP.no (h4.up HX.out.2.2.2.2.2.1) HX.out.2.2.2.1 (by decide)⟩); have SS2 := SOF.out h4 HX.out.1)
  refine rgo hK ?_ (hS := by first | exact SS0 | exact SS1 | exact SS2 | exact SS3 | exact SS4 | exact SS5)
  clear hK K hHeld
  intro hHeld
  refine wpAnyH_done (by as_aux_lemma => kernel_rfl) ?_ _
  go_wp2_with fail
  go_end0
  rw [ex_17 HOP.out, wa_T HX.out.1 hz3.out.1 hb4.out]
  exact StP.ok (h4.up HX.out.2.2.2.2.2.1) HX.out.2.2.2.1
end
end Go.Proofs.Ytpoepbmomfohlaa
