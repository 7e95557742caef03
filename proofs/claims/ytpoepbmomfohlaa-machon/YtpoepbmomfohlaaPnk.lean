/- The project's machine: what an instruction does. -/
import Derived.Test.YtpoepbmomfohlaaPms
namespace Go.Proofs.Ytpoepbmomfohlaa
open Go.RowKit
set_option linter.all false
section
variable {C : Ct} {N N' : Nat} {K : Nat → Obj → Prop} {w w' w1 : World} {ps : List Int} {tb tb' : List Nat} {m m' : Mc} {t b : Nat} {th th' : Th}
theorem PS.up (h : PS C N K w ps tb m) (hN : N + 1 ≤ 1000000) : PS C (N + 1) K w ps tb m := ⟨h.pr, h.cd, h.ok.up (Nat.le_succ N) hN, h.c64, h.bl⟩
theorem slot64 (h : PS C N K w ps tb m) (ht : m.ths[t]? = some th) {k y : Int} {z : Nat} (hz : slotR th.frame t k = (y, true) ∧ y - stk t = (z : Int) ∧ z < 4194304 ∧ y.toNat = (t + 1) * 4194304 + z) : I64 y := by
  have hfew := h.few
  have htl := (List.getElem?_eq_some_iff.1 ht).1
  have h1 := hz.2.1
  have h2 := hz.2.2.1
  unfold stk at h1
  unfold I64
  omega
theorem ex_0 {x : Mi} (h : x.op = 0) : m.exec t th x = ((m.wr t x.a x.b).1) := by unfold Mc.exec; rw [h]; rfl
theorem ex_1 {x : Mi} (h : x.op = 1) : m.exec t th x = (match m.rd t x.b with
    | (none, m1) => m1
    | (some n, _) => (m.wr t x.a n).1) := by unfold Mc.exec; rw [h]; rfl
theorem ex_2 {x : Mi} (h : x.op = 2) : m.exec t th x = (match slotR (m.fr t) t x.b with
    | (y, true) => (m.wr t x.a y).1
    | (y, false) => m.fin y) := by unfold Mc.exec; rw [h]; rfl
theorem ex_3 {x : Mi} (h : x.op = 3) : m.exec t th x = (m.ldM t x) := by unfold Mc.exec; rw [h]; rfl
theorem ex_4 {x : Mi} (h : x.op = 4) : m.exec t th x = (m.stM t x) := by unfold Mc.exec; rw [h]; rfl
theorem ex_5 {x : Mi} (h : x.op = 5) : m.exec t th x = (m.opM t x) := by unfold Mc.exec; rw [h]; rfl
theorem ex_6 {x : Mi} (h : x.op = 6) : m.exec t th x = (m.goto t x.e) := by unfold Mc.exec; rw [h]; rfl
theorem ex_7 {x : Mi} (h : x.op = 7) : m.exec t th x = (match m.rd t x.a with
    | (none, m1) => m1
    | (some n, _) => if n = 0 then m.goto t x.e else m) := by unfold Mc.exec; rw [h]; rfl
theorem ex_8 {x : Mi} (h : x.op = 8) : m.exec t th x = (m.caM t th x x.a) := by unfold Mc.exec; rw [h]; rfl
theorem ex_9 {x : Mi} (h : x.op = 9) : m.exec t th x = (m.catM t th x) := by unfold Mc.exec; rw [h]; rfl
theorem ex_10 {x : Mi} (h : x.op = 10) : m.exec t th x = (m.reM t th false) := by unfold Mc.exec; rw [h]; rfl
theorem ex_11 {x : Mi} (h : x.op = 11) : m.exec t th x = (m.paM t th x) := by unfold Mc.exec; rw [h]; rfl
theorem ex_12 {x : Mi} (h : x.op = 12) : m.exec t th x = (m.reM t th true) := by unfold Mc.exec; rw [h]; rfl
theorem ex_13 {x : Mi} (h : x.op = 13) : m.exec t th x = (m.alM t x) := by unfold Mc.exec; rw [h]; rfl
theorem ex_14 {x : Mi} (h : x.op = 14) : m.exec t th x = (m.frM t x) := by unfold Mc.exec; rw [h]; rfl
theorem ex_15 {x : Mi} (h : x.op = 15) : m.exec t th x = (m.swM t x) := by unfold Mc.exec; rw [h]; rfl
theorem ex_16 {x : Mi} (h : x.op = 16) : m.exec t th x = (m) := by unfold Mc.exec; rw [h]; rfl
theorem ex_17 {x : Mi} (h : x.op = 17) : m.exec t th x = (m.waM t x) := by unfold Mc.exec; rw [h]; rfl
theorem ex_18 {x : Mi} (h : x.op = 18) : m.exec t th x = (m.ouM t x) := by unfold Mc.exec; rw [h]; rfl
theorem ex_19 {x : Mi} (h : x.op = 19) : m.exec t th x = (m.spM t th x) := by unfold Mc.exec; rw [h]; rfl
theorem ex_bad {x : Mi} (h : x.op < 0 ∨ 19 < x.op) : m.exec t th x = m.fin 9 := by
  unfold Mc.exec
  rw [if_neg (by omega), if_neg (by omega), if_neg (by omega), if_neg (by omega), if_neg (by omega), if_neg (by omega), if_neg (by omega), if_neg (by omega), if_neg (by omega), if_neg (by omega), if_neg (by omega), if_neg (by omega), if_neg (by omega), if_neg (by omega), if_neg (by omega), if_neg (by omega), if_neg (by omega), if_neg (by omega), if_neg (by omega), if_neg (by omega)]
end
end Go.Proofs.Ytpoepbmomfohlaa
namespace Go.Proofs.Ytpoepbmomfohlaa
open Go.RowKit
set_option linter.all false
section
variable {C : Ct} {N N' : Nat} {K : Nat → Obj → Prop} {w w' w1 : World} {ps : List Int} {tb tb' : List Nat} {m m' : Mc} {t b : Nat} {th th' : Th}
theorem ex_1F (ht : m.ths[t]? = some th) {x : Mi} (h : x.op = 1) {y : Int} (hy : slotR th.frame t x.b = (y, false)) : m.exec t th x = m.fin y := by rw [ex_1 h, rd_F ht hy]
theorem ex_1T (ht : m.ths[t]? = some th) {x : Mi} (h : x.op = 1) {y : Int} (hy : slotR th.frame t x.b = (y, true)) : m.exec t th x = (m.wr t x.a (m.mem y.toNat)).1 := by rw [ex_1 h, rd_T ht hy]
theorem ex_2F (ht : m.ths[t]? = some th) {x : Mi} (h : x.op = 2) {y : Int} (hy : slotR th.frame t x.b = (y, false)) : m.exec t th x = m.fin y := by rw [ex_2 h, fr_eq ht, hy]
theorem ex_2T (ht : m.ths[t]? = some th) {x : Mi} (h : x.op = 2) {y : Int} (hy : slotR th.frame t x.b = (y, true)) : m.exec t th x = (m.wr t x.a y).1 := by rw [ex_2 h, fr_eq ht, hy]
set_option maxRecDepth 100000 in
set_option maxHeartbeats 1000000 in
theorem st_0 (h : PS C N K w ps tb m) (ht : m.ths[t]? = some th) (hb : tb[t]? = some b) {x : Mi} (hok : x.ok) (h0 : m.how = 0) (ha : th.abo = false) (hx : insAt C.code th.pc = (x, true)) (hop : x.op = 0) (hN : N + 1 ≤ 1000000) : Calls Try.prog 14 #[ptr b] w (StP C (N + 1) K ps ((m.setT t { th with pc := th.pc + 1 }).exec t { th with pc := th.pc + 1 } x)) := by
  obtain ⟨th1, hth1⟩ : ∃ th1, th1 = { th with pc := th.pc + 1 } := ⟨_, rfl⟩
  obtain ⟨m1, hm1⟩ : ∃ m1, m1 = m.setT t th1 := ⟨_, rfl⟩
  rw [← hth1, ← hm1]
  obtain ⟨at_, hat, c0, c1, c3, c5, c6, c7, c8, lb, fz, f0, f1⟩ := h.thr ht hb
  have fz5 := fz 5
  rw [hat ha] at c5
  have D1 := due_x h ht hb ha hx
  have hpc := insAt_true (code := C.code) (pc := th.pc) (by rw [hx])
  have hcf := h.cd.few
  have hwp : wrap64 (th.pc + 1) = th.pc + 1 := wrap_id (by omega) (by omega)
  rw [ha] at c7
  have HP : Hid (∀ {W : World}, PS C N K W ps tb m → PS C N K (W.setCell ⟨b, 5, none⟩ (.int .i64 (th.pc + 1))) ps tb m1) := fun {W} h => by
    rw [hm1, hth1]
    exact h.goto ht hb ⟨by omega, by omega⟩
  have HC5 : Hid (∀ {W : World}, PS C N K W ps tb m → W.cell? ⟨b, 5, none⟩ = some (.int .i64 th.pc) ∧ W.frozen? ⟨b, 5, none⟩ = false ∧ b < W.heap.size) := fun {W} h => by
    obtain ⟨at_, hat, c0, c1, c3, c5, c6, c7, c8, lb, fz, f0, f1⟩ := h.thr ht hb
    rw [hat ha] at c5
    exact ⟨c5, fz 5, lb⟩
  have HX : Hid (m1.ths[t]? = some th1 ∧ tb[t]? = some b ∧ x.ok ∧ m1.how = 0 ∧ th1.abo = false ∧ N + 1 ≤ 1000000 ∧ 1 ≤ th1.pc ∧ th1.pc ≤ C.code.length ∧ (insAt C.code (th1.pc - 1)).1.e = x.e) := ⟨by rw [hm1]; show (m.ths.set t th1)[t]? = _; rw [List.getElem?_set_self (List.getElem?_eq_some_iff.1 ht).1], hb, hok, by rw [hm1]; exact h0, by rw [hth1]; exact ha, hN, by rw [hth1]; show 1 ≤ th.pc + 1; omega, by rw [hth1]; show th.pc + 1 ≤ _; omega, by rw [hth1]; show (insAt C.code (th.pc + 1 - 1)).1.e = _; rw [show th.pc + 1 - 1 = th.pc by omega, hx]⟩
  have HIc : Hid (∀ {N : Nat} {W : World} {m : Mc} {tb : List Nat} {cb f : Nat}, PS C N K W ps tb m → IN C cb f x → W.cell? ⟨cb, f, none⟩ = some (.int .i64 x.op) ∧ W.cell? ⟨cb, f + 1, none⟩ = some (.int .i64 x.a) ∧ W.cell? ⟨cb, f + 2, none⟩ = some (.int .i64 x.b) ∧ W.cell? ⟨cb, f + 3, none⟩ = some (.int .i64 x.c) ∧ W.cell? ⟨cb, f + 4, none⟩ = some (.int .i64 x.d) ∧ W.cell? ⟨cb, f + 5, none⟩ = some (.int .i64 x.e) ∧ cb < W.heap.size) := fun h i => h.insc i
  have HBl : Hid (∀ {N : Nat} {W : World} {m : Mc}, PS C N K W ps tb m → m.ths[t]? = some th1 → W.cell? ⟨b, 0, none⟩ = some (ptr C.mb) ∧ b < W.heap.size ∧ C.mb < W.heap.size) := fun {N W m} h ht => by
    obtain ⟨at_, hat, c0, c1, c3, c5, c6, c7, c8, lb, fz, f0, f1⟩ := h.thr ht hb
    exact ⟨c0, lb, h.size⟩
  rw [hop] at HIc
  have HOP : Hid (x.op = 0) := hop
  clear h ht hb hok h0 ha hx hN hat c0 c1 c3 c6 c8 fz f0 f1 hcf hpc hop hm1 hth1
  go_enter Try.func14, Try.ntmps14
  go_upto_region 6 with (go_at_call 21; refine D1.mono ?_; rintro e w2 ⟨h2, cb, f, hI, rfl⟩; obtain ⟨v5, vf5, vl⟩ := HC5.out h2)
  replace h2 := HP.out h2
  generalize w2.setCell ⟨b, 5, none⟩ (.int .i64 (th.pc + 1)) = w3 at *
  clear v5 vf5 vl c5 c7 fz5 lb hwp D1
  obtain ⟨q0, q1, q2, q3, q4, q5, ql⟩ := HIc.out h2 hI.out
  obtain ⟨z0, zb, zm⟩ := HBl.out h2 HX.out.1
  have SOF : Hid (∀ {N : Nat} {W : World} {m : Mc}, PS C N K W ps tb m → m.ths[t]? = some th1 → (fun W => W.cell? ⟨cb, f + 1, none⟩ = some (.int .i64 x.a) ∧ W.cell? ⟨cb, f + 2, none⟩ = some (.int .i64 x.b) ∧ W.cell? ⟨cb, f + 3, none⟩ = some (.int .i64 x.c) ∧ W.cell? ⟨b, 0, none⟩ = some (ptr C.mb) ∧ b < W.heap.size ∧ cb < W.heap.size) W) := fun {N W m} h ht => by
    obtain ⟨q0, q1, q2, q3, q4, q5, ql⟩ := HIc.out h hI.out
    obtain ⟨z0, zb, zm⟩ := HBl.out h ht
    exact ⟨q1, q2, q3, z0, zb, ql⟩
  have SS0 := SOF.out h2.drew HX.out.1
  go_wp2_with fail
  refine wp_region_held_drew (S := fun W => W.cell? ⟨cb, f + 1, none⟩ = some (.int .i64 x.a) ∧ W.cell? ⟨cb, f + 2, none⟩ = some (.int .i64 x.b) ∧ W.cell? ⟨cb, f + 3, none⟩ = some (.int .i64 x.c) ∧ W.cell? ⟨b, 0, none⟩ = some (ptr C.mb) ∧ b < W.heap.size ∧ cb < W.heap.size) (by as_aux_lemma => kernel_rfl) SS0 (fun hHeld => ?_)
  refine rtk 0 ?_
  refine rtk 1 ?_
  refine rtk 2 ?_
  refine rtk 3 ?_
  refine rtk 4 ?_
  refine rtk 5 ?_
  refine rtk 6 ?_
  refine rtk 7 ?_
  refine rtk 8 ?_
  refine rr1 9 (fun K hK => ?_)
  (go_simp; refine (write_c h2.drew HX.out.1 HX.out.2.1 HX.out.2.2.1.2.1 (HX.out.2.2.1.2.2.1)).mono ?_; rintro e w3 (⟨y3, hy3, rfl, h3⟩ | ⟨y3, hy3, rfl, h3⟩); rotate_left; (exact ⟨rfl, by rw [ex_0 HOP.out, wr_F HX.out.1 hy3.out]; exact StP.no (h3.up HX.out.2.2.2.2.2.1) HX.out.2.2.2.1 (sl_ne hy3.out)⟩); have SS1 := SOF.out h3 HX.out.1)
  refine rgo hK ?_ (hS := by first | exact SS0 | exact SS1 | exact SS2 | exact SS3 | exact SS4 | exact SS5)
  clear hK K hHeld
  intro hHeld
  refine wpAnyH_done (by as_aux_lemma => kernel_rfl) ?_ _
  go_wp2_with fail
  go_end0
  rw [ex_0 HOP.out, wr_T HX.out.1 hy3.out]
  exact StP.ok (h3.up HX.out.2.2.2.2.2.1) HX.out.2.2.2.1
set_option maxRecDepth 100000 in
set_option maxHeartbeats 1000000 in
theorem st_1 (h : PS C N K w ps tb m) (ht : m.ths[t]? = some th) (hb : tb[t]? = some b) {x : Mi} (hok : x.ok) (h0 : m.how = 0) (ha : th.abo = false) (hx : insAt C.code th.pc = (x, true)) (hop : x.op = 1) (hN : N + 1 ≤ 1000000) : Calls Try.prog 14 #[ptr b] w (StP C (N + 1) K ps ((m.setT t { th with pc := th.pc + 1 }).exec t { th with pc := th.pc + 1 } x)) := by
  obtain ⟨th1, hth1⟩ : ∃ th1, th1 = { th with pc := th.pc + 1 } := ⟨_, rfl⟩
  obtain ⟨m1, hm1⟩ : ∃ m1, m1 = m.setT t th1 := ⟨_, rfl⟩
  rw [← hth1, ← hm1]
  obtain ⟨at_, hat, c0, c1, c3, c5, c6, c7, c8, lb, fz, f0, f1⟩ := h.thr ht hb
  have fz5 := fz 5
  rw [hat ha] at c5
  have D1 := due_x h ht hb ha hx
  have hpc := insAt_true (code := C.code) (pc := th.pc) (by rw [hx])
  have hcf := h.cd.few
  have hwp : wrap64 (th.pc + 1) = th.pc + 1 := wrap_id (by omega) (by omega)
  rw [ha] at c7
  have HP : Hid (∀ {W : World}, PS C N K W ps tb m → PS C N K (W.setCell ⟨b, 5, none⟩ (.int .i64 (th.pc + 1))) ps tb m1) := fun {W} h => by
    rw [hm1, hth1]
    exact h.goto ht hb ⟨by omega, by omega⟩
  have HC5 : Hid (∀ {W : World}, PS C N K W ps tb m → W.cell? ⟨b, 5, none⟩ = some (.int .i64 th.pc) ∧ W.frozen? ⟨b, 5, none⟩ = false ∧ b < W.heap.size) := fun {W} h => by
    obtain ⟨at_, hat, c0, c1, c3, c5, c6, c7, c8, lb, fz, f0, f1⟩ := h.thr ht hb
    rw [hat ha] at c5
    exact ⟨c5, fz 5, lb⟩
  have HX : Hid (m1.ths[t]? = some th1 ∧ tb[t]? = some b ∧ x.ok ∧ m1.how = 0 ∧ th1.abo = false ∧ N + 1 ≤ 1000000 ∧ 1 ≤ th1.pc ∧ th1.pc ≤ C.code.length ∧ (insAt C.code (th1.pc - 1)).1.e = x.e) := ⟨by rw [hm1]; show (m.ths.set t th1)[t]? = _; rw [List.getElem?_set_self (List.getElem?_eq_some_iff.1 ht).1], hb, hok, by rw [hm1]; exact h0, by rw [hth1]; exact ha, hN, by rw [hth1]; show 1 ≤ th.pc + 1; omega, by rw [hth1]; show th.pc + 1 ≤ _; omega, by rw [hth1]; show (insAt C.code (th.pc + 1 - 1)).1.e = _; rw [show th.pc + 1 - 1 = th.pc by omega, hx]⟩
  have HIc : Hid (∀ {N : Nat} {W : World} {m : Mc} {tb : List Nat} {cb f : Nat}, PS C N K W ps tb m → IN C cb f x → W.cell? ⟨cb, f, none⟩ = some (.int .i64 x.op) ∧ W.cell? ⟨cb, f + 1, none⟩ = some (.int .i64 x.a) ∧ W.cell? ⟨cb, f + 2, none⟩ = some (.int .i64 x.b) ∧ W.cell? ⟨cb, f + 3, none⟩ = some (.int .i64 x.c) ∧ W.cell? ⟨cb, f + 4, none⟩ = some (.int .i64 x.d) ∧ W.cell? ⟨cb, f + 5, none⟩ = some (.int .i64 x.e) ∧ cb < W.heap.size) := fun h i => h.insc i
  have HBl : Hid (∀ {N : Nat} {W : World} {m : Mc}, PS C N K W ps tb m → m.ths[t]? = some th1 → W.cell? ⟨b, 0, none⟩ = some (ptr C.mb) ∧ b < W.heap.size ∧ C.mb < W.heap.size) := fun {N W m} h ht => by
    obtain ⟨at_, hat, c0, c1, c3, c5, c6, c7, c8, lb, fz, f0, f1⟩ := h.thr ht hb
    exact ⟨c0, lb, h.size⟩
  rw [hop] at HIc
  have HOP : Hid (x.op = 1) := hop
  clear h ht hb hok h0 ha hx hN hat c0 c1 c3 c6 c8 fz f0 f1 hcf hpc hop hm1 hth1
  go_enter Try.func14, Try.ntmps14
  go_upto_region 6 with (go_at_call 21; refine D1.mono ?_; rintro e w2 ⟨h2, cb, f, hI, rfl⟩; obtain ⟨v5, vf5, vl⟩ := HC5.out h2)
  replace h2 := HP.out h2
  generalize w2.setCell ⟨b, 5, none⟩ (.int .i64 (th.pc + 1)) = w3 at *
  clear v5 vf5 vl c5 c7 fz5 lb hwp D1
  obtain ⟨q0, q1, q2, q3, q4, q5, ql⟩ := HIc.out h2 hI.out
  obtain ⟨z0, zb, zm⟩ := HBl.out h2 HX.out.1
  have SOF : Hid (∀ {N : Nat} {W : World} {m : Mc}, PS C N K W ps tb m → m.ths[t]? = some th1 → (fun W => W.cell? ⟨cb, f + 1, none⟩ = some (.int .i64 x.a) ∧ W.cell? ⟨cb, f + 2, none⟩ = some (.int .i64 x.b) ∧ W.cell? ⟨cb, f + 3, none⟩ = some (.int .i64 x.c) ∧ W.cell? ⟨b, 0, none⟩ = some (ptr C.mb) ∧ b < W.heap.size ∧ cb < W.heap.size) W) := fun {N W m} h ht => by
    obtain ⟨q0, q1, q2, q3, q4, q5, ql⟩ := HIc.out h hI.out
    obtain ⟨z0, zb, zm⟩ := HBl.out h ht
    exact ⟨q1, q2, q3, z0, zb, ql⟩
  have SS0 := SOF.out h2.drew HX.out.1
  go_wp2_with fail
  refine wp_region_held_drew (S := fun W => W.cell? ⟨cb, f + 1, none⟩ = some (.int .i64 x.a) ∧ W.cell? ⟨cb, f + 2, none⟩ = some (.int .i64 x.b) ∧ W.cell? ⟨cb, f + 3, none⟩ = some (.int .i64 x.c) ∧ W.cell? ⟨b, 0, none⟩ = some (ptr C.mb) ∧ b < W.heap.size ∧ cb < W.heap.size) (by as_aux_lemma => kernel_rfl) SS0 (fun hHeld => ?_)
  refine rtk 0 ?_
  refine rtk 1 ?_
  refine rtk 2 ?_
  refine rtk 3 ?_
  refine rtk 4 ?_
  refine rtk 5 ?_
  refine rtk 6 ?_
  refine rtk 7 ?_
  refine rtk 8 ?_
  refine rtk 9 ?_
  refine rr1 10 (fun K hK => ?_)
  (go_simp; refine (read_c h2.drew HX.out.1 HX.out.2.1 HX.out.2.2.1.2.2.1).mono ?_; rintro e w3 (⟨y3, z3, hz3, rfl, h3⟩ | ⟨y3, hy3, rfl, h3⟩); rotate_left; (exact ⟨rfl, by rw [ex_1F HX.out.1 HOP.out hy3.out]; exact StP.no (h3.up HX.out.2.2.2.2.2.1) HX.out.2.2.2.1 (sl_ne hy3.out)⟩); have SS1 := SOF.out h3 HX.out.1)
  refine rgo hK ?_ (hS := by first | exact SS0 | exact SS1 | exact SS2 | exact SS3 | exact SS4 | exact SS5)
  clear hK K hHeld
  intro hHeld
  refine rr1 11 (fun K hK => ?_)
  (go_simp; refine (write_c h3 HX.out.1 HX.out.2.1 HX.out.2.2.1.2.1 (h3.ok.mem _)).mono ?_; rintro e w4 (⟨y4, hy4, rfl, h4⟩ | ⟨y4, hy4, rfl, h4⟩); rotate_left; (exact ⟨rfl, by rw [ex_1T HX.out.1 HOP.out hz3.out.1, wr_F HX.out.1 hy4.out]; exact StP.no (h4.up HX.out.2.2.2.2.2.1) HX.out.2.2.2.1 (sl_ne hy4.out)⟩); have SS2 := SOF.out h4 HX.out.1)
  refine rgo hK ?_ (hS := by first | exact SS0 | exact SS1 | exact SS2 | exact SS3 | exact SS4 | exact SS5)
  clear hK K hHeld
  intro hHeld
  refine wpAnyH_done (by as_aux_lemma => kernel_rfl) ?_ _
  go_wp2_with fail
  go_end0
  rw [ex_1T HX.out.1 HOP.out hz3.out.1, wr_T HX.out.1 hy4.out]
  exact StP.ok (h4.up HX.out.2.2.2.2.2.1) HX.out.2.2.2.1
set_option maxRecDepth 100000 in
set_option maxHeartbeats 1000000 in
theorem st_2 (h : PS C N K w ps tb m) (ht : m.ths[t]? = some th) (hb : tb[t]? = some b) {x : Mi} (hok : x.ok) (h0 : m.how = 0) (ha : th.abo = false) (hx : insAt C.code th.pc = (x, true)) (hop : x.op = 2) (hN : N + 1 ≤ 1000000) : Calls Try.prog 14 #[ptr b] w (StP C (N + 1) K ps ((m.setT t { th with pc := th.pc + 1 }).exec t { th with pc := th.pc + 1 } x)) := by
  obtain ⟨th1, hth1⟩ : ∃ th1, th1 = { th with pc := th.pc + 1 } := ⟨_, rfl⟩
  obtain ⟨m1, hm1⟩ : ∃ m1, m1 = m.setT t th1 := ⟨_, rfl⟩
  rw [← hth1, ← hm1]
  obtain ⟨at_, hat, c0, c1, c3, c5, c6, c7, c8, lb, fz, f0, f1⟩ := h.thr ht hb
  have fz5 := fz 5
  rw [hat ha] at c5
  have D1 := due_x h ht hb ha hx
  have hpc := insAt_true (code := C.code) (pc := th.pc) (by rw [hx])
  have hcf := h.cd.few
  have hwp : wrap64 (th.pc + 1) = th.pc + 1 := wrap_id (by omega) (by omega)
  rw [ha] at c7
  have HP : Hid (∀ {W : World}, PS C N K W ps tb m → PS C N K (W.setCell ⟨b, 5, none⟩ (.int .i64 (th.pc + 1))) ps tb m1) := fun {W} h => by
    rw [hm1, hth1]
    exact h.goto ht hb ⟨by omega, by omega⟩
  have HC5 : Hid (∀ {W : World}, PS C N K W ps tb m → W.cell? ⟨b, 5, none⟩ = some (.int .i64 th.pc) ∧ W.frozen? ⟨b, 5, none⟩ = false ∧ b < W.heap.size) := fun {W} h => by
    obtain ⟨at_, hat, c0, c1, c3, c5, c6, c7, c8, lb, fz, f0, f1⟩ := h.thr ht hb
    rw [hat ha] at c5
    exact ⟨c5, fz 5, lb⟩
  have HX : Hid (m1.ths[t]? = some th1 ∧ tb[t]? = some b ∧ x.ok ∧ m1.how = 0 ∧ th1.abo = false ∧ N + 1 ≤ 1000000 ∧ 1 ≤ th1.pc ∧ th1.pc ≤ C.code.length ∧ (insAt C.code (th1.pc - 1)).1.e = x.e) := ⟨by rw [hm1]; show (m.ths.set t th1)[t]? = _; rw [List.getElem?_set_self (List.getElem?_eq_some_iff.1 ht).1], hb, hok, by rw [hm1]; exact h0, by rw [hth1]; exact ha, hN, by rw [hth1]; show 1 ≤ th.pc + 1; omega, by rw [hth1]; show th.pc + 1 ≤ _; omega, by rw [hth1]; show (insAt C.code (th.pc + 1 - 1)).1.e = _; rw [show th.pc + 1 - 1 = th.pc by omega, hx]⟩
  have HIc : Hid (∀ {N : Nat} {W : World} {m : Mc} {tb : List Nat} {cb f : Nat}, PS C N K W ps tb m → IN C cb f x → W.cell? ⟨cb, f, none⟩ = some (.int .i64 x.op) ∧ W.cell? ⟨cb, f + 1, none⟩ = some (.int .i64 x.a) ∧ W.cell? ⟨cb, f + 2, none⟩ = some (.int .i64 x.b) ∧ W.cell? ⟨cb, f + 3, none⟩ = some (.int .i64 x.c) ∧ W.cell? ⟨cb, f + 4, none⟩ = some (.int .i64 x.d) ∧ W.cell? ⟨cb, f + 5, none⟩ = some (.int .i64 x.e) ∧ cb < W.heap.size) := fun h i => h.insc i
  have HBl : Hid (∀ {N : Nat} {W : World} {m : Mc}, PS C N K W ps tb m → m.ths[t]? = some th1 → W.cell? ⟨b, 0, none⟩ = some (ptr C.mb) ∧ b < W.heap.size ∧ C.mb < W.heap.size) := fun {N W m} h ht => by
    obtain ⟨at_, hat, c0, c1, c3, c5, c6, c7, c8, lb, fz, f0, f1⟩ := h.thr ht hb
    exact ⟨c0, lb, h.size⟩
  rw [hop] at HIc
  have HOP : Hid (x.op = 2) := hop
  clear h ht hb hok h0 ha hx hN hat c0 c1 c3 c6 c8 fz f0 f1 hcf hpc hop hm1 hth1
  go_enter Try.func14, Try.ntmps14
  go_upto_region 6 with (go_at_call 21; refine D1.mono ?_; rintro e w2 ⟨h2, cb, f, hI, rfl⟩; obtain ⟨v5, vf5, vl⟩ := HC5.out h2)
  replace h2 := HP.out h2
  generalize w2.setCell ⟨b, 5, none⟩ (.int .i64 (th.pc + 1)) = w3 at *
  clear v5 vf5 vl c5 c7 fz5 lb hwp D1
  obtain ⟨q0, q1, q2, q3, q4, q5, ql⟩ := HIc.out h2 hI.out
  obtain ⟨z0, zb, zm⟩ := HBl.out h2 HX.out.1
  have SOF : Hid (∀ {N : Nat} {W : World} {m : Mc}, PS C N K W ps tb m → m.ths[t]? = some th1 → (fun W => W.cell? ⟨cb, f + 1, none⟩ = some (.int .i64 x.a) ∧ W.cell? ⟨cb, f + 2, none⟩ = some (.int .i64 x.b) ∧ W.cell? ⟨cb, f + 3, none⟩ = some (.int .i64 x.c) ∧ W.cell? ⟨b, 0, none⟩ = some (ptr C.mb) ∧ b < W.heap.size ∧ cb < W.heap.size) W) := fun {N W m} h ht => by
    obtain ⟨q0, q1, q2, q3, q4, q5, ql⟩ := HIc.out h hI.out
    obtain ⟨z0, zb, zm⟩ := HBl.out h ht
    exact ⟨q1, q2, q3, z0, zb, ql⟩
  have SS0 := SOF.out h2.drew HX.out.1
  go_wp2_with fail
  refine wp_region_held_drew (S := fun W => W.cell? ⟨cb, f + 1, none⟩ = some (.int .i64 x.a) ∧ W.cell? ⟨cb, f + 2, none⟩ = some (.int .i64 x.b) ∧ W.cell? ⟨cb, f + 3, none⟩ = some (.int .i64 x.c) ∧ W.cell? ⟨b, 0, none⟩ = some (ptr C.mb) ∧ b < W.heap.size ∧ cb < W.heap.size) (by as_aux_lemma => kernel_rfl) SS0 (fun hHeld => ?_)
  refine rtk 0 ?_
  refine rtk 1 ?_
  refine rtk 2 ?_
  refine rtk 3 ?_
  refine rtk 4 ?_
  refine rtk 5 ?_
  refine rtk 6 ?_
  refine rtk 7 ?_
  refine rtk 8 ?_
  refine rtk 9 ?_
  refine rr1 10 (fun K hK => ?_)
  (go_simp; refine (addr_c h2.drew HX.out.1 HX.out.2.1 HX.out.2.2.1.2.2.1).mono ?_; rintro e w3 (⟨y3, z3, hz3, rfl, h3⟩ | ⟨y3, hy3, rfl, h3⟩); rotate_left; (exact ⟨rfl, by rw [ex_2F HX.out.1 HOP.out hy3.out]; exact StP.no (h3.up HX.out.2.2.2.2.2.1) HX.out.2.2.2.1 (sl_ne hy3.out)⟩); have SS1 := SOF.out h3 HX.out.1)
  refine rgo hK ?_ (hS := by first | exact SS0 | exact SS1 | exact SS2 | exact SS3 | exact SS4 | exact SS5)
  clear hK K hHeld
  intro hHeld
  refine rr1 11 (fun K hK => ?_)
  (go_simp; refine (write_c h3 HX.out.1 HX.out.2.1 HX.out.2.2.1.2.1 (slot64 h3 HX.out.1 hz3.out)).mono ?_; rintro e w4 (⟨y4, hy4, rfl, h4⟩ | ⟨y4, hy4, rfl, h4⟩); rotate_left; (exact ⟨rfl, by rw [ex_2T HX.out.1 HOP.out hz3.out.1, wr_F HX.out.1 hy4.out]; exact StP.no (h4.up HX.out.2.2.2.2.2.1) HX.out.2.2.2.1 (sl_ne hy4.out)⟩); have SS2 := SOF.out h4 HX.out.1)
  refine rgo hK ?_ (hS := by first | exact SS0 | exact SS1 | exact SS2 | exact SS3 | exact SS4 | exact SS5)
  clear hK K hHeld
  intro hHeld
  refine wpAnyH_done (by as_aux_lemma => kernel_rfl) ?_ _
  go_wp2_with fail
  go_end0
  rw [ex_2T HX.out.1 HOP.out hz3.out.1, wr_T HX.out.1 hy4.out]
  exact StP.ok (h4.up HX.out.2.2.2.2.2.1) HX.out.2.2.2.1
end
end Go.Proofs.Ytpoepbmomfohlaa
