/- The project's machine: MCall, MCallAt. -/
import Derived.Test.YtpoepbmomfohlaaPnk
import Derived.Test.YtpoepbmomfohlaaPnf
namespace Go.Proofs.Ytpoepbmomfohlaa
open Go.RowKit
set_option linter.all false
section
variable {C : Ct} {N N' : Nat} {K : Nat → Obj → Prop} {w w' w1 : World} {ps : List Int} {tb tb' : List Nat} {m m' : Mc} {t b : Nat} {th th' : Th}
theorem ca_T (ht : m.ths[t]? = some th) {x : Mi} {a y : Int} (hy : slotR th.frame t x.b = (y, true)) : m.caM t th x a = { m with ths := m.ths.set t { th with calls := th.calls ++ [(th.pc, x.e, th.frame)], frame := y, pc := a } } := by unfold Mc.caM; rw [fr_eq ht, hy]; rfl
theorem ca_F (ht : m.ths[t]? = some th) {x : Mi} {a y : Int} (hy : slotR th.frame t x.b = (y, false)) : m.caM t th x a = m.fin y := by unfold Mc.caM; rw [fr_eq ht, hy]
theorem cat_T (ht : m.ths[t]? = some th) {x : Mi} {y : Int} (hy : slotR th.frame t x.a = (y, true)) : m.catM t th x = m.caM t th x (m.mem y.toNat) := by unfold Mc.catM; rw [rd_T ht hy]
theorem cat_F (ht : m.ths[t]? = some th) {x : Mi} {y : Int} (hy : slotR th.frame t x.a = (y, false)) : m.catM t th x = m.fin y := by unfold Mc.catM; rw [rd_F ht hy]
set_option maxRecDepth 100000 in
set_option maxHeartbeats 1000000 in
theorem tu_8 (h : PS C N K w ps tb m) (ht : m.ths[t]? = some th) (hb : tb[t]? = some b) {cb f : Nat} {x : Mi} (hI : IN C cb f x) (hok : x.ok) (h0 : m.how = 0) (ha : th.abo = false) (hop : x.op = 8) (hN : N + 1 ≤ 1000000) (hc1 : 1 ≤ th.pc) (hc2 : th.pc ≤ C.code.length) (hc3 : (insAt C.code (th.pc - 1)).1.e = x.e) : Calls Try.prog 31 #[ptr b, .pointer (some ⟨cb, f, none⟩)] w (StP C (N + 1) K ps (m.exec t th x)) := by
  have HX : Hid (m.ths[t]? = some th ∧ tb[t]? = some b ∧ x.ok ∧ m.how = 0 ∧ th.abo = false ∧ N + 1 ≤ 1000000 ∧ 1 ≤ th.pc ∧ th.pc ≤ C.code.length ∧ (insAt C.code (th.pc - 1)).1.e = x.e) := ⟨ht, hb, hok, h0, ha, hN, hc1, hc2, hc3⟩
  have HIc : Hid (∀ {N : Nat} {W : World} {m : Mc} {tb : List Nat}, PS C N K W ps tb m → W.cell? ⟨cb, f, none⟩ = some (.int .i64 x.op) ∧ W.cell? ⟨cb, f + 1, none⟩ = some (.int .i64 x.a) ∧ W.cell? ⟨cb, f + 2, none⟩ = some (.int .i64 x.b) ∧ W.cell? ⟨cb, f + 3, none⟩ = some (.int .i64 x.c) ∧ W.cell? ⟨cb, f + 4, none⟩ = some (.int .i64 x.d) ∧ W.cell? ⟨cb, f + 5, none⟩ = some (.int .i64 x.e) ∧ cb < W.heap.size) := fun h => h.insc hI
  have HBl : Hid (∀ {N : Nat} {W : World} {m : Mc} {th : Th}, PS C N K W ps tb m → m.ths[t]? = some th → W.cell? ⟨b, 0, none⟩ = some (ptr C.mb) ∧ b < W.heap.size ∧ C.mb < W.heap.size ∧ (∃ v, W.cell? ⟨b, 5, none⟩ = some (.int .i64 v)) ∧ W.frozen? ⟨b, 5, none⟩ = false ∧ W.cell? ⟨b, 6, none⟩ = some (.bool th.unw) ∧ W.cell? ⟨b, 7, none⟩ = some (.bool th.abo) ∧ W.frozen? ⟨b, 6, none⟩ = false ∧ W.frozen? ⟨b, 7, none⟩ = false ∧ W.cell? ⟨C.mb, 0, none⟩ = some (.slice C.co C.code.length C.cc)) := fun {N W m th} h ht => by
    obtain ⟨at_, hat, c0, c1, c3, c5, c6, c7, c8, lb, fz, f0, f1⟩ := h.thr ht hb
    exact ⟨c0, lb, h.size, ⟨_, c5⟩, fz 5, c6, c7, fz 6, fz 7, h.mch.1⟩
  rw [hop] at HIc
  have HOP : Hid (x.op = 8) := hop
  have h2 := h
  clear h ht hb hok h0 ha hN hc1 hc2 hc3 hop hI
  obtain ⟨q0, q1, q2, q3, q4, q5, ql⟩ := HIc.out h2
  obtain ⟨z0, zb, zm, ⟨v5, z5⟩, zf5, z6, z7, zf6, zf7, zc⟩ := HBl.out h2 HX.out.1
  go_enter Try.func31, Try.ntmps31
  have SOF : Hid (∀ {N : Nat} {W : World} {m : Mc} {th : Th}, PS C N K W ps tb m → m.ths[t]? = some th → (fun W => W.cell? ⟨cb, f + 1, none⟩ = some (.int .i64 x.a) ∧ W.cell? ⟨cb, f + 2, none⟩ = some (.int .i64 x.b) ∧ W.cell? ⟨b, 0, none⟩ = some (ptr C.mb) ∧ b < W.heap.size ∧ cb < W.heap.size) W) := fun h ht => by
    obtain ⟨q0, q1, q2, q3, q4, q5, ql⟩ := HIc.out h
    obtain ⟨z0, zb, -⟩ := HBl.out h ht
    exact ⟨q1, q2, z0, zb, ql⟩
  have SS0 := SOF.out h2.drew HX.out.1
  go_wp2_with fail
  refine wp_region_held_drew (S := fun W => W.cell? ⟨cb, f + 1, none⟩ = some (.int .i64 x.a) ∧ W.cell? ⟨cb, f + 2, none⟩ = some (.int .i64 x.b) ∧ W.cell? ⟨b, 0, none⟩ = some (ptr C.mb) ∧ b < W.heap.size ∧ cb < W.heap.size) (by as_aux_lemma => kernel_rfl) SS0 (fun hHeld => ?_)
  refine rtk 0 ?_
  refine rtk 1 ?_
  refine rtk 2 ?_
  refine rtk 3 ?_
  refine rtk 4 ?_
  refine rtk 5 ?_
  refine rtk 6 ?_
  refine rtk 7 ?_
  refine rtk 8 ?_
  refine rr1 9 (fun K hK => ?_)
  (go_simp; refine (enter_c h2.drew HX.out.1 HX.out.2.1 HX.out.2.2.2.2.1 (HX.out.2.2.1.2.1) HX.out.2.2.1.2.2.1 HX.out.2.2.1.2.2.2.2.2 HX.out.2.2.2.2.2.2.1 HX.out.2.2.2.2.2.2.2.1 HX.out.2.2.2.2.2.2.2.2 HX.out.2.2.2.2.2.1).mono ?_; rintro e w3 (⟨y3, hy3, rfl, h3⟩ | ⟨y3, hy3, rfl, h3⟩); rotate_left; (exact ⟨rfl, by rw [ex_8 HOP.out, ca_F HX.out.1 hy3.out]; exact StP.no (h3.up HX.out.2.2.2.2.2.1) HX.out.2.2.2.1 (sl_ne hy3.out)⟩); have SS1 := SOF.out (th := { th with calls := th.calls ++ [(th.pc, x.e, th.frame)], frame := y3, pc := x.a }) h3 (by show (m.ths.set t _)[t]? = _; rw [List.getElem?_set_self (List.getElem?_eq_some_iff.1 HX.out.1).1]))
  refine rgo hK ?_ (hS := by first | exact SS0 | exact SS1 | exact SS2 | exact SS3 | exact SS4 | exact SS5)
  clear hK K hHeld
  intro hHeld
  refine wpAnyH_done (by as_aux_lemma => kernel_rfl) ?_ _
  go_wp2_with fail
  go_end0
  rw [ex_8 HOP.out, ca_T HX.out.1 hy3.out]
  exact StP.ok h3 HX.out.2.2.2.1
set_option maxRecDepth 100000 in
set_option maxHeartbeats 1000000 in
theorem tu_9 (h : PS C N K w ps tb m) (ht : m.ths[t]? = some th) (hb : tb[t]? = some b) {cb f : Nat} {x : Mi} (hI : IN C cb f x) (hok : x.ok) (h0 : m.how = 0) (ha : th.abo = false) (hop : x.op = 9) (hN : N + 1 ≤ 1000000) (hc1 : 1 ≤ th.pc) (hc2 : th.pc ≤ C.code.length) (hc3 : (insAt C.code (th.pc - 1)).1.e = x.e) : Calls Try.prog 31 #[ptr b, .pointer (some ⟨cb, f, none⟩)] w (StP C (N + 1) K ps (m.exec t th x)) := by
  have HX : Hid (m.ths[t]? = some th ∧ tb[t]? = some b ∧ x.ok ∧ m.how = 0 ∧ th.abo = false ∧ N + 1 ≤ 1000000 ∧ 1 ≤ th.pc ∧ th.pc ≤ C.code.length ∧ (insAt C.code (th.pc - 1)).1.e = x.e) := ⟨ht, hb, hok, h0, ha, hN, hc1, hc2, hc3⟩
  have HIc : Hid (∀ {N : Nat} {W : World} {m : Mc} {tb : List Nat}, PS C N K W ps tb m → W.cell? ⟨cb, f, none⟩ = some (.int .i64 x.op) ∧ W.cell? ⟨cb, f + 1, none⟩ = some (.int .i64 x.a) ∧ W.cell? ⟨cb, f + 2, none⟩ = some (.int .i64 x.b) ∧ W.cell? ⟨cb, f + 3, none⟩ = some (.int .i64 x.c) ∧ W.cell? ⟨cb, f + 4, none⟩ = some (.int .i64 x.d) ∧ W.cell? ⟨cb, f + 5, none⟩ = some (.int .i64 x.e) ∧ cb < W.heap.size) := fun h => h.insc hI
  have HBl : Hid (∀ {N : Nat} {W : World} {m : Mc} {th : Th}, PS C N K W ps tb m → m.ths[t]? = some th → W.cell? ⟨b, 0, none⟩ = some (ptr C.mb) ∧ b < W.heap.size ∧ C.mb < W.heap.size ∧ (∃ v, W.cell? ⟨b, 5, none⟩ = some (.int .i64 v)) ∧ W.frozen? ⟨b, 5, none⟩ = false ∧ W.cell? ⟨b, 6, none⟩ = some (.bool th.unw) ∧ W.cell? ⟨b, 7, none⟩ = some (.bool th.abo) ∧ W.frozen? ⟨b, 6, none⟩ = false ∧ W.frozen? ⟨b, 7, none⟩ = false ∧ W.cell? ⟨C.mb, 0, none⟩ = some (.slice C.co C.code.length C.cc)) := fun {N W m th} h ht => by
    obtain ⟨at_, hat, c0, c1, c3, c5, c6, c7, c8, lb, fz, f0, f1⟩ := h.thr ht hb
    exact ⟨c0, lb, h.size, ⟨_, c5⟩, fz 5, c6, c7, fz 6, fz 7, h.mch.1⟩
  rw [hop] at HIc
  have HOP : Hid (x.op = 9) := hop
  have h2 := h
  clear h ht hb hok h0 ha hN hc1 hc2 hc3 hop hI
  obtain ⟨q0, q1, q2, q3, q4, q5, ql⟩ := HIc.out h2
  obtain ⟨z0, zb, zm, ⟨v5, z5⟩, zf5, z6, z7, zf6, zf7, zc⟩ := HBl.out h2 HX.out.1
  go_enter Try.func31, Try.ntmps31
  have SOF : Hid (∀ {N : Nat} {W : World} {m : Mc} {th : Th}, PS C N K W ps tb m → m.ths[t]? = some th → (fun W => W.cell? ⟨cb, f + 1, none⟩ = some (.int .i64 x.a) ∧ W.cell? ⟨cb, f + 2, none⟩ = some (.int .i64 x.b) ∧ W.cell? ⟨b, 0, none⟩ = some (ptr C.mb) ∧ b < W.heap.size ∧ cb < W.heap.size) W) := fun h ht => by
    obtain ⟨q0, q1, q2, q3, q4, q5, ql⟩ := HIc.out h
    obtain ⟨z0, zb, -⟩ := HBl.out h ht
    exact ⟨q1, q2, z0, zb, ql⟩
  have SS0 := SOF.out h2.drew HX.out.1
  go_wp2_with fail
  refine wp_region_held_drew (S := fun W => W.cell? ⟨cb, f + 1, none⟩ = some (.int .i64 x.a) ∧ W.cell? ⟨cb, f + 2, none⟩ = some (.int .i64 x.b) ∧ W.cell? ⟨b, 0, none⟩ = some (ptr C.mb) ∧ b < W.heap.size ∧ cb < W.heap.size) (by as_aux_lemma => kernel_rfl) SS0 (fun hHeld => ?_)
  refine rtk 0 ?_
  refine rtk 1 ?_
  refine rtk 2 ?_
  refine rtk 3 ?_
  refine rtk 4 ?_
  refine rtk 5 ?_
  refine rtk 7 ?_
  refine rtk 8 ?_
  refine rtk 9 ?_
  refine rtk 10 ?_
  refine rr1 6 (fun K hK => ?_)
  (go_simp; refine (read_c h2.drew HX.out.1 HX.out.2.1 HX.out.2.2.1.2.1).mono ?_; rintro e w3 (⟨y3, z3, hz3, rfl, h3⟩ | ⟨y3, hy3, rfl, h3⟩); rotate_left; (exact ⟨rfl, by rw [ex_9 HOP.out, cat_F HX.out.1 hy3.out]; exact StP.no (h3.up HX.out.2.2.2.2.2.1) HX.out.2.2.2.1 (sl_ne hy3.out)⟩); have SS1 := SOF.out h3 HX.out.1)
  refine rgo hK ?_ (hS := by first | exact SS0 | exact SS1 | exact SS2 | exact SS3 | exact SS4 | exact SS5)
  clear hK K hHeld
  intro hHeld
  refine rr1 11 (fun K hK => ?_)
  (go_simp; refine (enter_c h3 HX.out.1 HX.out.2.1 HX.out.2.2.2.2.1 (h3.ok.mem _) HX.out.2.2.1.2.2.1 HX.out.2.2.1.2.2.2.2.2 HX.out.2.2.2.2.2.2.1 HX.out.2.2.2.2.2.2.2.1 HX.out.2.2.2.2.2.2.2.2 HX.out.2.2.2.2.2.1).mono ?_; rintro e w4 (⟨y4, hy4, rfl, h4⟩ | ⟨y4, hy4, rfl, h4⟩); rotate_left; (exact ⟨rfl, by rw [ex_9 HOP.out, cat_T HX.out.1 hz3.out.1, ca_F HX.out.1 hy4.out]; exact StP.no (h4.up HX.out.2.2.2.2.2.1) HX.out.2.2.2.1 (sl_ne hy4.out)⟩); have SS2 := SOF.out (th := { th with calls := th.calls ++ [(th.pc, x.e, th.frame)], frame := y4, pc := m.mem y3.toNat }) h4 (by show (m.ths.set t _)[t]? = _; rw [List.getElem?_set_self (List.getElem?_eq_some_iff.1 HX.out.1).1]))
  refine rgo hK ?_ (hS := by first | exact SS0 | exact SS1 | exact SS2 | exact SS3 | exact SS4 | exact SS5)
  clear hK K hHeld
  intro hHeld
  refine wpAnyH_done (by as_aux_lemma => kernel_rfl) ?_ _
  go_wp2_with fail
  go_end0
  rw [ex_9 HOP.out, cat_T HX.out.1 hz3.out.1, ca_T HX.out.1 hy4.out]
  exact StP.ok h4 HX.out.2.2.2.1
end
end Go.Proofs.Ytpoepbmomfohlaa
