/- The project's machine: MPanic. -/
import Derived.Test.YtpoepbmomfohlaaPnk
namespace Go.Proofs.Ytpoepbmomfohlaa
open Go.RowKit
set_option linter.all false
section
variable {C : Ct} {N N' : Nat} {K : Nat → Obj → Prop} {w w' w1 : World} {ps : List Int} {tb tb' : List Nat} {m m' : Mc} {t b : Nat} {th th' : Th}
theorem pa_T {x : Mi} (h : th.unw = true) : m.paM t th x = { m with ths := m.ths.set t { th with abo := true } } := by unfold Mc.paM; rw [if_pos h]; rfl
theorem pa_F {x : Mi} (h : ¬ th.unw = true) : m.paM t th x = { m with ths := m.ths.set t { th with unw := true, pc := x.e } } := by unfold Mc.paM; rw [if_neg h]; rfl
theorem PS.frb (h : PS C N K w ps tb m) (ht : m.ths[t]? = some th) (hb : tb[t]? = some b) : stk t ≤ th.frame ∧ th.frame < stk (t + 1) := by
  obtain ⟨pv, own, L, hp, hk⟩ := h.pr
  obtain ⟨l, T⟩ := hp.th t b th ht hb
  exact T.fr
set_option maxRecDepth 100000 in
set_option maxHeartbeats 1000000 in
theorem tu_11 (h : PS C N K w ps tb m) (ht : m.ths[t]? = some th) (hb : tb[t]? = some b) {cb f : Nat} {x : Mi} (hI : IN C cb f x) (hok : x.ok) (h0 : m.how = 0) (ha : th.abo = false) (hop : x.op = 11) (hN : N + 1 ≤ 1000000) (hc1 : 1 ≤ th.pc) (hc2 : th.pc ≤ C.code.length) (hc3 : (insAt C.code (th.pc - 1)).1.e = x.e) : Calls Try.prog 31 #[ptr b, .pointer (some ⟨cb, f, none⟩)] w (StP C (N + 1) K ps (m.exec t th x)) := by
  have HX : Hid (m.ths[t]? = some th ∧ tb[t]? = some b ∧ x.ok ∧ m.how = 0 ∧ th.abo = false ∧ N + 1 ≤ 1000000 ∧ 1 ≤ th.pc ∧ th.pc ≤ C.code.length ∧ (insAt C.code (th.pc - 1)).1.e = x.e) := ⟨ht, hb, hok, h0, ha, hN, hc1, hc2, hc3⟩
  have HIc : Hid (∀ {N : Nat} {W : World} {m : Mc} {tb : List Nat}, PS C N K W ps tb m → W.cell? ⟨cb, f, none⟩ = some (.int .i64 x.op) ∧ W.cell? ⟨cb, f + 1, none⟩ = some (.int .i64 x.a) ∧ W.cell? ⟨cb, f + 2, none⟩ = some (.int .i64 x.b) ∧ W.cell? ⟨cb, f + 3, none⟩ = some (.int .i64 x.c) ∧ W.cell? ⟨cb, f + 4, none⟩ = some (.int .i64 x.d) ∧ W.cell? ⟨cb, f + 5, none⟩ = some (.int .i64 x.e) ∧ cb < W.heap.size) := fun h => h.insc hI
  have HBl : Hid (∀ {N : Nat} {W : World} {m : Mc} {th : Th}, PS C N K W ps tb m → m.ths[t]? = some th → W.cell? ⟨b, 0, none⟩ = some (ptr C.mb) ∧ b < W.heap.size ∧ C.mb < W.heap.size ∧ (∃ v, W.cell? ⟨b, 5, none⟩ = some (.int .i64 v)) ∧ W.frozen? ⟨b, 5, none⟩ = false ∧ W.cell? ⟨b, 6, none⟩ = some (.bool th.unw) ∧ W.cell? ⟨b, 7, none⟩ = some (.bool th.abo) ∧ W.frozen? ⟨b, 6, none⟩ = false ∧ W.frozen? ⟨b, 7, none⟩ = false ∧ W.cell? ⟨C.mb, 0, none⟩ = some (.slice C.co C.code.length C.cc)) := fun {N W m th} h ht => by
    obtain ⟨at_, hat, c0, c1, c3, c5, c6, c7, c8, lb, fz, f0, f1⟩ := h.thr ht hb
    exact ⟨c0, lb, h.size, ⟨_, c5⟩, fz 5, c6, c7, fz 6, fz 7, h.mch.1⟩
  rw [hop] at HIc
  have HOP : Hid (x.op = 11) := hop
  have h2 := h
  clear h ht hb hok h0 ha hN hc1 hc2 hc3 hop hI
  obtain ⟨q0, q1, q2, q3, q4, q5, ql⟩ := HIc.out h2
  obtain ⟨z0, zb, zm, ⟨v5, z5⟩, zf5, z6, z7, zf6, zf7, zc⟩ := HBl.out h2 HX.out.1
  have HFR : Hid (stk t ≤ th.frame ∧ th.frame < stk (t + 1)) := h2.frb HX.out.1 HX.out.2.1
  have HQ1 : Hid (PS C N K (w.setCell ⟨b, 7, none⟩ (.bool th.unw)) ps tb { m with ths := m.ths.set t { th with abo := th.unw } }) := h2.tcell HX.out.1 HX.out.2.1 7 _ (fun a => a) (fun _ => rfl) rfl (fun a h _ => h HX.out.2.2.2.2.1) HFR.out (h2.ok.setTh HX.out.1 (h2.ok.th t th HX.out.1).1 rfl)
  have HT1 : Hid ({ m with ths := m.ths.set t { th with abo := th.unw } }.ths[t]? = some { th with abo := th.unw }) := (by show (m.ths.set t _)[t]? = _; rw [List.getElem?_set_self (List.getElem?_eq_some_iff.1 HX.out.1).1])
  go_enter Try.func31, Try.ntmps31
  go_upto_region 17 with fail
  generalize w.setCell ⟨b, 7, none⟩ (.bool th.unw) = w4 at *
  obtain ⟨r0, rb, rm, ⟨s5, r5⟩, rf5, r6, r7, rf6, rf7, -⟩ := HBl.out HQ1.out HT1.out
  have HQ2 : Hid (PS C N K (w4.setCell ⟨b, 6, none⟩ (.bool true)) ps tb { m with ths := m.ths.set t { th with abo := th.unw, unw := true } }) := by
    have := HQ1.out.tcell (th' := { th with abo := th.unw, unw := true }) HT1.out HX.out.2.1 6 (.bool true) (fun a => a) (fun _ => rfl) rfl (fun a h => h) HFR.out (HQ1.out.ok.setTh HT1.out (h2.ok.th t th HX.out.1).1 rfl)
    have e : (m.ths.set t { th with abo := th.unw }).set t { th with abo := th.unw, unw := true } = m.ths.set t { th with abo := th.unw, unw := true } := List.set_set ..
    show PS C N K _ ps tb { m with ths := m.ths.set t { th with abo := th.unw, unw := true } }
    rw [← e]
    exact this
  have HT2 : Hid ({ m with ths := m.ths.set t { th with abo := th.unw, unw := true } }.ths[t]? = some { th with abo := th.unw, unw := true }) := (by show (m.ths.set t _)[t]? = _; rw [List.getElem?_set_self (List.getElem?_eq_some_iff.1 HX.out.1).1])
  go_upto_region 18 with fail
  generalize w4.setCell ⟨b, 6, none⟩ (.bool true) = w5 at *
  clear r0 rb rm r5 rf5 r6 r7 rf6 rf7
  obtain ⟨r0, rb, rm, ⟨s5, r5⟩, rf5, r6, r7, rf6, rf7, -⟩ := HBl.out HQ2.out HT2.out
  obtain ⟨p0, p1, p2, p3, p4, p5, pl⟩ := HIc.out HQ2.out
  go_wp2_with fail
  go_end0
  cases hu : th.unw with
  | true =>
    rw [ex_11 HOP.out, pa_T hu]
    have q3 := HQ2.out.tcell (th' := { th with abo := true }) HT2.out HX.out.2.1 5 (.int .i64 x.e) (fun _ => x.e) (fun _ => by simp [tdC, hu]) rfl (fun a _ h => by cases h) HFR.out (HQ2.out.ok.setTh HT2.out (h2.ok.th t th HX.out.1).1 rfl)
    have e : (m.ths.set t { th with abo := th.unw, unw := true }).set t { th with abo := true } = m.ths.set t { th with abo := true } := List.set_set ..
    rw [← e]
    exact StP.ok (q3.up HX.out.2.2.2.2.2.1) HX.out.2.2.2.1
  | false =>
    rw [ex_11 HOP.out, pa_F (by rw [hu]; simp)]
    have q3 := HQ2.out.tcell (th' := { th with unw := true, pc := x.e }) HT2.out HX.out.2.1 5 (.int .i64 x.e) (fun _ => x.e) (fun _ => by simp [tdC, hu, HX.out.2.2.2.2.1]) rfl (fun a _ h => rfl) HFR.out (HQ2.out.ok.setTh HT2.out HX.out.2.2.1.2.2.2.2.2 rfl)
    have e : (m.ths.set t { th with abo := th.unw, unw := true }).set t { th with unw := true, pc := x.e } = m.ths.set t { th with unw := true, pc := x.e } := List.set_set ..
    rw [← e]
    exact StP.ok (q3.up HX.out.2.2.2.2.2.1) HX.out.2.2.2.1
end
end Go.Proofs.Ytpoepbmomfohlaa
