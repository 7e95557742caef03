/- The project's machine: MOp, MSync. -/
import Derived.Test.YtpoepbmomfohlaaPnk
namespace Go.Proofs.Ytpoepbmomfohlaa
open Go.RowKit
set_option linter.all false
section
variable {C : Ct} {N N' : Nat} {K : Nat → Obj → Prop} {w w' w1 : World} {ps : List Int} {tb tb' : List Nat} {m m' : Mc} {t b : Nat} {th th' : Th}
set_option maxRecDepth 100000 in
set_option maxHeartbeats 1000000 in
theorem st_5 (h : PS C N K w ps tb m) (ht : m.ths[t]? = some th) (hb : tb[t]? = some b) {x : Mi} (hok : x.ok) (h0 : m.how = 0) (ha : th.abo = false) (hx : insAt C.code th.pc = (x, true)) (hop : x.op = 5) (hN : N + 1 ≤ 1000000) : Calls Try.prog 14 #[ptr b] w (StP C (N + 1) K ps ((m.setT t { th with pc := th.pc + 1 }).exec t { th with pc := th.pc + 1 } x)) := by
  obtain ⟨th1, hth1⟩ : ∃ th1, th1 = { th with pc := th.pc + 1 } := ⟨_, rfl⟩
  obtain ⟨m1, hm1⟩ : ∃ m1, m1 = m.setT t th1 := ⟨_, rfl⟩
  rw [← hth1, ← hm1]
  obtain ⟨at_, hat, c0, c1, c3, c5, c6, c7, c8, lb, fz, f0, f1⟩ := h.thr ht hb
  have fz5 := fz 5
  rw [hat ha] at c5
  have D1 := due_x h ht hb ha hx
  have hpc := insAt_true (code := C.code) (pc := th.pc) (by rw [hx])
  have hcf := h.cd.few
  have hwp : wrap64 (th.pc + 1) = th.pc + 1 := wrap_id (by omega) (by omega)
  rw [ha] at c7
  have HP : Hid (∀ {W : World}, PS C N K W ps tb m → PS C N K (W.setCell ⟨b, 5, none⟩ (.int .i64 (th.pc + 1))) ps tb m1) := fun {W} h => by
    rw [hm1, hth1]
    exact h.goto ht hb ⟨by omega, by omega⟩
  have HC5 : Hid (∀ {W : World}, PS C N K W ps tb m → W.cell? ⟨b, 5, none⟩ = some (.int .i64 th.pc) ∧ W.frozen? ⟨b, 5, none⟩ = false ∧ b < W.heap.size) := fun {W} h => by
    obtain ⟨at_, hat, c0, c1, c3, c5, c6, c7, c8, lb, fz, f0, f1⟩ := h.thr ht hb
    rw [hat ha] at c5
    exact ⟨c5, fz 5, lb⟩
  have HX : Hid (m1.ths[t]? = some th1 ∧ tb[t]? = some b ∧ x.ok ∧ m1.how = 0 ∧ th1.abo = false ∧ N + 1 ≤ 1000000 ∧ 1 ≤ th1.pc ∧ th1.pc ≤ C.code.length ∧ (insAt C.code (th1.pc - 1)).1.e = x.e) := ⟨by rw [hm1]; show (m.ths.set t th1)[t]? = _; rw [List.getElem?_set_self (List.getElem?_eq_some_iff.1 ht).1], hb, hok, by rw [hm1]; exact h0, by rw [hth1]; exact ha, hN, by rw [hth1]; show 1 ≤ th.pc + 1; omega, by rw [hth1]; show th.pc + 1 ≤ _; omega, by rw [hth1]; show (insAt C.code (th.pc + 1 - 1)).1.e = _; rw [show th.pc + 1 - 1 = th.pc by omega, hx]⟩
  have HIc : Hid (∀ {N : Nat} {W : World} {m : Mc} {tb : List Nat} {cb f : Nat}, PS C N K W ps tb m → IN C cb f x → W.cell? ⟨cb, f, none⟩ = some (.int .i64 x.op) ∧ W.cell? ⟨cb, f + 1, none⟩ = some (.int .i64 x.a) ∧ W.cell? ⟨cb, f + 2, none⟩ = some (.int .i64 x.b) ∧ W.cell? ⟨cb, f + 3, none⟩ = some (.int .i64 x.c) ∧ W.cell? ⟨cb, f + 4, none⟩ = some (.int .i64 x.d) ∧ W.cell? ⟨cb, f + 5, none⟩ = some (.int .i64 x.e) ∧ cb < W.heap.size) := fun h i => h.insc i
  have HBl : Hid (∀ {N : Nat} {W : World} {m : Mc}, PS C N K W ps tb m → m.ths[t]? = some th1 → W.cell? ⟨b, 0, none⟩ = some (ptr C.mb) ∧ b < W.heap.size ∧ C.mb < W.heap.size) := fun {N W m} h ht => by
    obtain ⟨at_, hat, c0, c1, c3, c5, c6, c7, c8, lb, fz, f0, f1⟩ := h.thr ht hb
    exact ⟨c0, lb, h.size⟩
  rw [hop] at HIc
  have HOP : Hid (x.op = 5) := hop
  clear h ht hb hok h0 ha hx hN hat c0 c1 c3 c6 c8 fz f0 f1 hcf hpc hop hm1 hth1
  go_enter Try.func14, Try.ntmps14
  go_upto_region 6 with (go_at_call 21; refine D1.mono ?_; rintro e w2 ⟨h2, cb, f, hI, rfl⟩; obtain ⟨v5, vf5, vl⟩ := HC5.out h2)
  replace h2 := HP.out h2
  generalize w2.setCell ⟨b, 5, none⟩ (.int .i64 (th.pc + 1)) = w3 at *
  clear v5 vf5 vl c5 c7 fz5 lb hwp D1
  obtain ⟨q0, q1, q2, q3, q4, q5, ql⟩ := HIc.out h2 hI.out
  obtain ⟨z0, zb, zm⟩ := HBl.out h2 HX.out.1
  have R1 := rk_c h2 HX.out.1 HX.out.2.1 hI.out HX.out.2.2.1 HX.out.2.2.2.1
  go_wp2_with (go_at_call 28; refine R1.mono ?_; rintro e w4 ⟨tb', h4, (⟨hh, rfl⟩ | ⟨hh, rfl⟩)⟩; rotate_left; exact ⟨rfl, by rw [ex_5 HOP.out]; exact ⟨tb', h4.up HX.out.2.2.2.2.2.1, .inr ⟨hh, rfl⟩⟩⟩)
  go_end0
  rw [ex_5 HOP.out]
  exact ⟨tb', h4.up HX.out.2.2.2.2.2.1, .inl ⟨hh, rfl⟩⟩
set_option maxRecDepth 100000 in
set_option maxHeartbeats 1000000 in
theorem st_16 (h : PS C N K w ps tb m) (ht : m.ths[t]? = some th) (hb : tb[t]? = some b) {x : Mi} (hok : x.ok) (h0 : m.how = 0) (ha : th.abo = false) (hx : insAt C.code th.pc = (x, true)) (hop : x.op = 16) (hN : N + 1 ≤ 1000000) : Calls Try.prog 14 #[ptr b] w (StP C (N + 1) K ps ((m.setT t { th with pc := th.pc + 1 }).exec t { th with pc := th.pc + 1 } x)) := by
  obtain ⟨th1, hth1⟩ : ∃ th1, th1 = { th with pc := th.pc + 1 } := ⟨_, rfl⟩
  obtain ⟨m1, hm1⟩ : ∃ m1, m1 = m.setT t th1 := ⟨_, rfl⟩
  rw [← hth1, ← hm1]
  obtain ⟨at_, hat, c0, c1, c3, c5, c6, c7, c8, lb, fz, f0, f1⟩ := h.thr ht hb
  have fz5 := fz 5
  rw [hat ha] at c5
  have D1 := due_x h ht hb ha hx
  have hpc := insAt_true (code := C.code) (pc := th.pc) (by rw [hx])
  have hcf := h.cd.few
  have hwp : wrap64 (th.pc + 1) = th.pc + 1 := wrap_id (by omega) (by omega)
  rw [ha] at c7
  have HP : Hid (∀ {W : World}, PS C N K W ps tb m → PS C N K (W.setCell ⟨b, 5, none⟩ (.int .i64 (th.pc + 1))) ps tb m1) := fun {W} h => by
    rw [hm1, hth1]
    exact h.goto ht hb ⟨by omega, by omega⟩
  have HC5 : Hid (∀ {W : World}, PS C N K W ps tb m → W.cell? ⟨b, 5, none⟩ = some (.int .i64 th.pc) ∧ W.frozen? ⟨b, 5, none⟩ = false ∧ b < W.heap.size) := fun {W} h => by
    obtain ⟨at_, hat, c0, c1, c3, c5, c6, c7, c8, lb, fz, f0, f1⟩ := h.thr ht hb
    rw [hat ha] at c5
    exact ⟨c5, fz 5, lb⟩
  have HX : Hid (m1.ths[t]? = some th1 ∧ tb[t]? = some b ∧ x.ok ∧ m1.how = 0 ∧ th1.abo = false ∧ N + 1 ≤ 1000000 ∧ 1 ≤ th1.pc ∧ th1.pc ≤ C.code.length ∧ (insAt C.code (th1.pc - 1)).1.e = x.e) := ⟨by rw [hm1]; show (m.ths.set t th1)[t]? = _; rw [List.getElem?_set_self (List.getElem?_eq_some_iff.1 ht).1], hb, hok, by rw [hm1]; exact h0, by rw [hth1]; exact ha, hN, by rw [hth1]; show 1 ≤ th.pc + 1; omega, by rw [hth1]; show th.pc + 1 ≤ _; omega, by rw [hth1]; show (insAt C.code (th.pc + 1 - 1)).1.e = _; rw [show th.pc + 1 - 1 = th.pc by omega, hx]⟩
  have HIc : Hid (∀ {N : Nat} {W : World} {m : Mc} {tb : List Nat} {cb f : Nat}, PS C N K W ps tb m → IN C cb f x → W.cell? ⟨cb, f, none⟩ = some (.int .i64 x.op) ∧ W.cell? ⟨cb, f + 1, none⟩ = some (.int .i64 x.a) ∧ W.cell? ⟨cb, f + 2, none⟩ = some (.int .i64 x.b) ∧ W.cell? ⟨cb, f + 3, none⟩ = some (.int .i64 x.c) ∧ W.cell? ⟨cb, f + 4, none⟩ = some (.int .i64 x.d) ∧ W.cell? ⟨cb, f + 5, none⟩ = some (.int .i64 x.e) ∧ cb < W.heap.size) := fun h i => h.insc i
  have HBl : Hid (∀ {N : Nat} {W : World} {m : Mc}, PS C N K W ps tb m → m.ths[t]? = some th1 → W.cell? ⟨b, 0, none⟩ = some (ptr C.mb) ∧ b < W.heap.size ∧ C.mb < W.heap.size) := fun {N W m} h ht => by
    obtain ⟨at_, hat, c0, c1, c3, c5, c6, c7, c8, lb, fz, f0, f1⟩ := h.thr ht hb
    exact ⟨c0, lb, h.size⟩
  rw [hop] at HIc
  have HOP : Hid (x.op = 16) := hop
  clear h ht hb hok h0 ha hx hN hat c0 c1 c3 c6 c8 fz f0 f1 hcf hpc hop hm1 hth1
  go_enter Try.func14, Try.ntmps14
  go_upto_region 6 with (go_at_call 21; refine D1.mono ?_; rintro e w2 ⟨h2, cb, f, hI, rfl⟩; obtain ⟨v5, vf5, vl⟩ := HC5.out h2)
  replace h2 := HP.out h2
  generalize w2.setCell ⟨b, 5, none⟩ (.int .i64 (th.pc + 1)) = w3 at *
  clear v5 vf5 vl c5 c7 fz5 lb hwp D1
  obtain ⟨q0, q1, q2, q3, q4, q5, ql⟩ := HIc.out h2 hI.out
  obtain ⟨z0, zb, zm⟩ := HBl.out h2 HX.out.1
  go_wp2_with fail
  go_end0
  rw [ex_16 HOP.out]
  exact StP.ok (h2.up HX.out.2.2.2.2.2.1) HX.out.2.2.2.1
end
end Go.Proofs.Ytpoepbmomfohlaa
