/- The document's machine: ret and resume. -/
import Derived.Test.YtflifialjdhenaaMct
namespace Go.Proofs.Ytflifialjdhenaa
open Go.RowKit
set_option linter.all false
def Mc.reM (m : Mc) (t : Nat) (th : Th) (res : Bool) : Mc := match th.calls.getLast? with
  | none => m.fin 9
  | some c => m.setT t { th with calls := th.calls.dropLast, frame := c.2.2, pc := if res then c.2.1 else c.1 }
theorem ziC_len {cs : List (Int × Int × Int)} : ∀ x ∈ cs.map ziC, x.length = 3 := fun x hx => by
  obtain ⟨y, _, rfl⟩ := List.mem_map.1 hx
  rfl
theorem zi_flat {cs : List (Int × Int × Int)} : (cs.map ziC).flatten.length = cs.length * 3 := by
  induction cs with
  | nil => rfl
  | cons x r ih => simp only [List.map_cons, List.flatten_cons, List.length_append, ih, List.length_cons]; show 3 + _ = _; omega
/-- All but the last call. -/
theorem zi_pop {w : World} {base : Nat} {bo : Option Addr} {cp : Nat} {cs : List (Int × Int × Int)} {c : Int × Int × Int} (h : w.ownsRow base 96 3 (.slice bo (cs ++ [c]).length cp) (cs ++ [c]).length ((cs ++ [c]).map ziC).flatten) : w.ownsRow base 96 3 (.slice bo cs.length cp) cs.length (cs.map ziC).flatten := by
  refine ⟨zi_flat, ?_⟩
  rcases h.2 with ⟨h1, h2⟩ | ⟨g, cap, cur, h1, h2, h3, h4, h5, h6, h7⟩
  · simp at h2
  · simp at h1
    obtain ⟨rfl, rfl⟩ := h1
    refine .inr ⟨g, cp, cur, rfl, h2, h3, by simp at h4; omega, h5, h6, ?_⟩
    have e : (cur.toList.take ((cs ++ [c]).length * 3)).take (cs.length * 3) = cur.toList.take (cs.length * 3) := by rw [List.take_take, Nat.min_eq_left (by simp; omega)]
    rw [← e, h7, List.map_append, List.flatten_append, List.take_append_of_le_length (by rw [zi_flat]; exact Nat.le_refl _), List.take_of_length_le (by rw [zi_flat]; exact Nat.le_refl _)]
section
variable {base mb : Nat} {co : Option Addr} {cc : Nat} {code : List Mi} {N ib : Nat} {x : Mi} {w w' : World} {L L' : Ly} {m m' : Mc} {t : Nat} {th th' : Th}
theorem MX.callsAt (h : MX base mb co cc code N ib x w L m) (ht : m.ths[t]? = some th) {g : Nat} (hg : L.to_ = some ⟨g, 0, none⟩) : ∃ r, L.cr[t]? = some r ∧ w.cell? ⟨g, t * 6 + 2, none⟩ = some (.slice r.o th.calls.length r.c) := by
  obtain ⟨g', r, e, hg', hr, c0, c1, c2, c3, c4, c5⟩ := h.ms.mr.th.nth ht
  rw [hg] at e
  obtain rfl : g = g' := by simpa using e
  exact ⟨r, hr, c2⟩
theorem MX.lastCall (h : MX base mb co cc code N ib x w L m) (ht : m.ths[t]? = some th) {r : Rq} (hr : L.cr[t]? = some r) {cs : List (Int × Int × Int)} {c : Int × Int × Int} (hc : th.calls = cs ++ [c]) : ∃ gc, r.o = some ⟨gc, 0, none⟩ ∧ gc < w.heap.size ∧ w.cell? ⟨gc, cs.length * 3, none⟩ = some (.int .i64 c.1) ∧ w.cell? ⟨gc, cs.length * 3 + 1, none⟩ = some (.int .i64 c.2.1) ∧ w.cell? ⟨gc, cs.length * 3 + 2, none⟩ = some (.int .i64 c.2.2) ∧ (cs ++ [c]).length ≤ r.c := by
  obtain ⟨row, -⟩ := h.ms.mr.th.calls t th r ht hr
  rw [hc] at row
  obtain ⟨gc, cp, e, hl, -, hx⟩ := ownsRow_nth row (by simp) ziC_len (i := cs.length) (x := ziC c) (by simp)
  simp at e
  refine ⟨gc, e.1, hl, hx 0 (by decide), hx 1 (by decide), hx 2 (by decide), ?_⟩
  rcases row.2 with ⟨h1, h2⟩ | ⟨g, cap, cur, h1, h2, h3, h4, _⟩
  · simp at h2
  · simp at h1
    simp
    simp at h4
    omega
theorem OKM.pop (h : OKM N m) (ht : m.ths[t]? = some th) {cs : List (Int × Int × Int)} {c : Int × Int × Int} (hc : th.calls = cs ++ [c]) (hp : I64 th'.pc) (hcs : th'.calls = cs) : OKM N (m.setT t th') := ⟨h.mem, fun i y hy => by
  have hx2 : (m.ths.set t th')[i]? = some y := hy
  by_cases hi : i = t
  · subst hi
    rw [List.getElem?_set_self (List.getElem?_eq_some_iff.1 ht).1] at hx2
    obtain rfl := Option.some.inj hx2
    have h3 := h.th i th ht
    rw [hcs]
    rw [hc] at h3
    simp at h3
    exact ⟨hp, by omega, fun q hq => h3.2.2 _ _ _ (.inl hq)⟩
  · rw [List.getElem?_set_ne (Ne.symm hi)] at hx2
    exact h.th i y hx2, h.outs, h.order, h.steps, h.big⟩
theorem pop_x (h : MX base mb co cc code N ib x w L m) (ht : m.ths[t]? = some th) {g : Nat} (hg : L.to_ = some ⟨g, 0, none⟩) {r : Rq} (hr : L.cr[t]? = some r) {cs : List (Int × Int × Int)} {c : Int × Int × Int} (hc : th.calls = cs ++ [c]) : ∃ L', L'.to_ = L.to_ ∧ MX base mb co cc code N ib x (w.setCell ⟨g, t * 6 + 2, none⟩ (.slice r.o cs.length r.c)) L' (m.setT t { th with calls := cs }) ∧ Kf L L' w (w.setCell ⟨g, t * 6 + 2, none⟩ (.slice r.o cs.length r.c)) := by
  obtain ⟨row, ro⟩ := h.ms.mr.th.calls t th r ht hr
  rw [hc] at row ro
  obtain ⟨L', e, hm, kf⟩ := h.ms.mr.setCalls (w1 := w) ht hr hg (zi_pop row) (fun _ _ _ => rfl) (fun _ _ _ => rfl) (Nat.le_refl _) ⟨rfl, rfl, rfl⟩ (own' := L.own) (fun _ _ _ h => h) h.ms.mr.olt h.ms.mr.o0 (fun _ _ h => h) (fun b hb => ro b (own_len hb))
  exact ⟨L', e, h.next hm kf (h.ms.ok.pop ht hc (h.ms.ok.th t th ht).1 rfl), kf⟩
theorem MX.alloc (h : MX base mb co cc code N ib x w L m) (o : Obj) : MX base mb co cc code N ib x (w.alloc o) L m ∧ Kf L L w (w.alloc o) := by
  have hb := (al1 w o).1
  have k : Kf L L w (w.alloc o) := ⟨KX.of_below hb, fun _ _ h => h, rfl⟩
  exact ⟨h.next (h.ms.mr.below hb) k h.ms.ok, k⟩
set_option maxRecDepth 100000 in
set_option maxHeartbeats 2000000 in
theorem ctl_ret (h : MS base mb co cc code N w L m) (ht : m.ths[t]? = some th) (hx : x.ok) (hop : x.op = 10) : Calls Try.prog 35 #[.pointer (some ⟨mb, 0, none⟩), .int .i64 t, .agg (miC x)] w (MSP base mb co cc code N w L (m.reM t th false)) := by
  obtain ⟨M0, K0⟩ := MX.start h x
  have M0 : Hid (MX base mb co cc code N w.heap.size x (w.alloc (.cells #[.int .i64 x.op, .int .i64 x.a, .int .i64 x.b, .int .i64 x.c, .int .i64 x.d, .int .i64 x.e] 72)) L m) := M0
  have FIN : Hid (∀ w' L' m', m' = m.reM t th false → MX base mb co cc code N w.heap.size x w' L' m' → Kf L L' (w.alloc (.cells #[.int .i64 x.op, .int .i64 x.a, .int .i64 x.b, .int .i64 x.c, .int .i64 x.d, .int .i64 x.e] 72)) w' → MSP base mb co cc code N w L (m.reM t th false) (.returned (.tuple #[])) w') := fun w' L' m' e hm hk => ⟨rfl, L', e ▸ hm.ms, Kf.trans K0 hk⟩
  have HT : Hid (m.ths[t]? = some th) := ht
  have HX : Hid x.ok := hx
  have HM64 : Hid (∀ a, I64 (m.mem a)) := h.ok.mem
  have HS : Hid (MS base mb co cc code N w L m) := h
  have HOP : Hid (x.op = 10) := hop
  show Calls Try.prog 35 #[.pointer (some ⟨mb, 0, none⟩), .int .i64 t, .agg #[.int .i64 x.op, .int .i64 x.a, .int .i64 x.b, .int .i64 x.c, .int .i64 x.d, .int .i64 x.e]] w _
  clear h K0 ht hx hop
  go_enter Try.func35, Try.ntmps35
  go_upto_region 1 with fail
  obtain ⟨ib, hib⟩ : ∃ ib, ib = w.heap.size := ⟨_, rfl⟩
  rw [← hib] at M0 FIN ⊢
  generalize w.alloc (.cells #[.int .i64 x.op, .int .i64 x.a, .int .i64 x.b, .int .i64 x.c, .int .i64 x.d, .int .i64 x.e] 72) = wa at *
  obtain ⟨i0, i1, i2, i3, i4, i5, il⟩ := M0.out.cells
  clear hib
  have hop := HOP.out
  obtain ⟨g, hg, u3, ug, um, ui, v0, v1, v3, v4', v5, uf⟩ := M0.out.thr HT.out
  have ui0 : (0 : Int) ≤ (t : Int) := by omega
  obtain ⟨r, hr, v2⟩ := M0.out.callsAt HT.out hg
  rcases List.eq_nil_or_concat th.calls with hcs | ⟨cs, c, hcs⟩
  · rw [hcs] at v2
    have HW : Hid (m.fin 9 = m.reM t th false) := by show _ = _; unfold Mc.reM; rw [hcs]; rfl
    clear hg hr hcs
    go_wp2_with (go_at_call 27; refine (en_x M0.out 9).mono ?_; rintro e w1 ⟨rfl, L1, M1, K1⟩)
    go_end0
    exact FIN.out _ _ _ HW.out M1 K1
  · rw [List.concat_eq_append] at hcs
    obtain ⟨gc, hro, lgc, d0, d1, d2, hcap⟩ := M0.out.lastCall HT.out hr hcs
    obtain ⟨cl, hcl⟩ : ∃ cl, cl = cs.length := ⟨_, rfl⟩
    have HCL : Hid (cl = cs.length) := hcl
    have hlen : th.calls.length = cl + 1 := by rw [hcs, hcl]; simp
    have hcb : cl + 1 ≤ 1000000 := by have h1 := (HS.out.ok.th t th HT.out).2.1; have h2 := HS.out.ok.big; omega
    have hcap2 : (cl : Int) ≤ (r.c : Int) := by simp at hcap; omega
    rw [hlen, hro] at v2
    rw [← hcl] at d0 d1 d2
    have HCS : Hid (th.calls = cs ++ [c]) := hcs
    have HR : Hid (L.cr[t]? = some r ∧ r.o = some ⟨gc, 0, none⟩ ∧ L.to_ = some ⟨g, 0, none⟩) := ⟨hr, hro, hg⟩
    have hcl0 : (0 : Int) ≤ (cl : Int) := by omega
    clear hr hro hg hcs hlen hcap hcl
    go_upto_region 19 with fail
    go_region
    obtain ⟨cb, hcbk⟩ : ∃ cb, cb = wa.heap.size := ⟨_, rfl⟩
    have A1 := M0.out.alloc (.cells #[.int .i64 c.1, .int .i64 c.2.1, .int .i64 c.2.2] 96)
    have A2 : Hid (MX base mb co cc code N ib x (wa.alloc (.cells #[.int .i64 c.1, .int .i64 c.2.1, .int .i64 c.2.2] 96)).drew L m ∧ Kf L L wa (wa.alloc (.cells #[.int .i64 c.1, .int .i64 c.2.1, .int .i64 c.2.2] 96)).drew) := ⟨A1.1.drew, A1.2.drewN 1⟩
    have B2 : (wa.alloc (.cells #[.int .i64 c.1, .int .i64 c.2.1, .int .i64 c.2.2] 96)).drew.heap[cb]? = some (.cells #[.int .i64 c.1, .int .i64 c.2.1, .int .i64 c.2.2] 96 (0, 0)) := by rw [hcbk]; exact (al1 wa _).2
    have hgc : g ≠ cb := by omega
    rw [← hcbk]
    generalize (wa.alloc (.cells #[.int .i64 c.1, .int .i64 c.2.1, .int .i64 c.2.2] 96)).drew = wv at *
    clear A1 hcbk u3 ug um v0 v1 v3 v4' v5 uf d0 d1 d2 lgc v2 i0 i1 i2 i3 i4 i5 il
    obtain ⟨g', hg', u3, ug, um, ui, v0, v1, v3, v4', v5, uf⟩ := A2.out.1.thr HT.out
    obtain rfl : g = g' := by have := HR.out.2.2; rw [hg'] at this; simpa using this.symm
    obtain ⟨r', hr', v2⟩ := A2.out.1.callsAt HT.out hg'
    obtain rfl : r = r' := by have := HR.out.1; rw [hr'] at this; simpa using this.symm
    rw [show th.calls.length = cl + 1 by rw [HCS.out, HCL.out]; simp, HR.out.2.1] at v2
    have HB2 : Hid (wv.heap[cb]? = some (.cells #[.int .i64 c.1, .int .i64 c.2.1, .int .i64 c.2.2] 96 (0, 0))) := B2
    clear hg' hr' B2
    go_wp2_with fail
    go_region
    have P0 := pop_x A2.out.1 HT.out HR.out.2.2 HR.out.1 HCS.out
    obtain ⟨L2, e2, M2, K2⟩ := P0
    rw [HR.out.2.1, ← HCL.out] at M2 K2
    have C2 : Hid ((wv.setCell ⟨g, t * 6 + 2, none⟩ (.slice (some ⟨gc, 0, none⟩) cl r.c)).drew.heap[cb]? = some (.cells #[.int .i64 c.1, .int .i64 c.2.1, .int .i64 c.2.2] 96 (0, 0))) := (Below.heap_setCell _ ⟨g, t * 6 + 2, none⟩ _ _ (Ne.symm hgc)).trans HB2.out
    have N2 : Hid (MX base mb co cc code N ib x (wv.setCell ⟨g, t * 6 + 2, none⟩ (.slice (some ⟨gc, 0, none⟩) cl r.c)).drew L2 (m.setT t { th with calls := cs }) ∧ Kf L L2 wa (wv.setCell ⟨g, t * 6 + 2, none⟩ (.slice (some ⟨gc, 0, none⟩) cl r.c)).drew ∧ L2.to_ = some ⟨g, 0, none⟩) := ⟨M2.drew, A2.out.2.trans (K2.drewN 1), e2.trans HR.out.2.2⟩
    generalize (wv.setCell ⟨g, t * 6 + 2, none⟩ (.slice (some ⟨gc, 0, none⟩) cl r.c)).drew = w2 at *
    clear M2 K2 e2 u3 ug um v0 v1 v2 v3 v4' v5 uf ui
    obtain ⟨g', hg', u3, ug, um, ui, v0, v1, v3, v4', v5, uf⟩ := N2.out.1.thr (setT_at HT.out)
    obtain rfl : g = g' := by have := N2.out.2.2; rw [hg'] at this; simpa using this.symm
    have cb0 : w2.cell? ⟨cb, 0, none⟩ = some (.int .i64 c.1) := cell_of_row w2 _ 0 _ 96 (0, 0) C2.out
    have cb1 : w2.cell? ⟨cb, 1, none⟩ = some (.int .i64 c.2.1) := cell_of_row w2 _ 1 _ 96 (0, 0) C2.out
    have cb2 : w2.cell? ⟨cb, 2, none⟩ = some (.int .i64 c.2.2) := cell_of_row w2 _ 2 _ 96 (0, 0) C2.out
    have lcb : cb < w2.heap.size := (Array.getElem?_eq_some_iff.1 C2.out).1
    obtain ⟨j0, j1, j2, j3, j4, j5, jl⟩ := N2.out.1.cells
    have hgib : g ≠ ib := fun e => by
      have h1 := N2.out.1.ko
      have h2 := N2.out.1.ms.mr.th.orow g (by rw [hg']; rfl)
      rw [e, h1] at h2
      simp at h2
    have hcbg : cb ≠ g := Ne.symm hgc
    have hibg : ib ≠ g := Ne.symm hgib
    have hc64 := (HS.out.ok.th t th HT.out).2.2 c (by rw [HCS.out]; simp)
    have S1 := setT_x N2.out.1 (setT_at HT.out) hg' (o := 1) (u := .int .i64 c.2.2) (th' := { th with calls := cs, frame := c.2.2 }) (by decide) rfl (fun r => rfl) hc64.2.2 (HS.out.ok.th t th HT.out).1
    have S2 := setT_x S1.1 (setT_at (setT_at HT.out)) hg' (o := 0) (u := .int .i64 c.1) (th' := { th with calls := cs, frame := c.2.2, pc := c.1 }) (by decide) rfl (fun r => rfl) hc64.2.2 hc64.1
    rw [Nat.add_zero] at S2
    have HW : Hid (m.setT t { th with calls := cs, frame := c.2.2, pc := c.1 } = m.reM t th false) := by
      show _ = _
      unfold Mc.reM
      rw [HCS.out, List.getLast?_concat, List.dropLast_concat]
      rfl
    have SF : Hid (MX base mb co cc code N ib x ((w2.setCell ⟨g, t * 6 + 1, none⟩ (.int .i64 c.2.2)).setCell ⟨g, t * 6, none⟩ (.int .i64 c.1)) L2 (m.setT t { th with calls := cs, frame := c.2.2, pc := c.1 }) ∧ Kf L L2 wa ((w2.setCell ⟨g, t * 6 + 1, none⟩ (.int .i64 c.2.2)).setCell ⟨g, t * 6, none⟩ (.int .i64 c.1))) := ⟨by have h9 := S2.1; rw [setT_set, setT_set] at h9; exact h9, N2.out.2.1.trans (S1.2.trans S2.2)⟩
    clear S1 S2 hc64 hg'
    go_wp2_with fail
    go_end0
    exact FIN.out _ _ _ HW.out SF.out.1 SF.out.2
set_option maxRecDepth 100000 in
set_option maxHeartbeats 2000000 in
theorem ctl_resume (h : MS base mb co cc code N w L m) (ht : m.ths[t]? = some th) (hx : x.ok) (hop : x.op = 12) : Calls Try.prog 35 #[.pointer (some ⟨mb, 0, none⟩), .int .i64 t, .agg (miC x)] w (MSP base mb co cc code N w L (m.reM t th true)) := by
  obtain ⟨M0, K0⟩ := MX.start h x
  have M0 : Hid (MX base mb co cc code N w.heap.size x (w.alloc (.cells #[.int .i64 x.op, .int .i64 x.a, .int .i64 x.b, .int .i64 x.c, .int .i64 x.d, .int .i64 x.e] 72)) L m) := M0
  have FIN : Hid (∀ w' L' m', m' = m.reM t th true → MX base mb co cc code N w.heap.size x w' L' m' → Kf L L' (w.alloc (.cells #[.int .i64 x.op, .int .i64 x.a, .int .i64 x.b, .int .i64 x.c, .int .i64 x.d, .int .i64 x.e] 72)) w' → MSP base mb co cc code N w L (m.reM t th true) (.returned (.tuple #[])) w') := fun w' L' m' e hm hk => ⟨rfl, L', e ▸ hm.ms, Kf.trans K0 hk⟩
  have HT : Hid (m.ths[t]? = some th) := ht
  have HX : Hid x.ok := hx
  have HM64 : Hid (∀ a, I64 (m.mem a)) := h.ok.mem
  have HS : Hid (MS base mb co cc code N w L m) := h
  have HOP : Hid (x.op = 12) := hop
  show Calls Try.prog 35 #[.pointer (some ⟨mb, 0, none⟩), .int .i64 t, .agg #[.int .i64 x.op, .int .i64 x.a, .int .i64 x.b, .int .i64 x.c, .int .i64 x.d, .int .i64 x.e]] w _
  clear h K0 ht hx hop
  go_enter Try.func35, Try.ntmps35
  go_upto_region 1 with fail
  obtain ⟨ib, hib⟩ : ∃ ib, ib = w.heap.size := ⟨_, rfl⟩
  rw [← hib] at M0 FIN ⊢
  generalize w.alloc (.cells #[.int .i64 x.op, .int .i64 x.a, .int .i64 x.b, .int .i64 x.c, .int .i64 x.d, .int .i64 x.e] 72) = wa at *
  obtain ⟨i0, i1, i2, i3, i4, i5, il⟩ := M0.out.cells
  clear hib
  have hop := HOP.out
  obtain ⟨g, hg, u3, ug, um, ui, v0, v1, v3, v4', v5, uf⟩ := M0.out.thr HT.out
  have ui0 : (0 : Int) ≤ (t : Int) := by omega
  obtain ⟨r, hr, v2⟩ := M0.out.callsAt HT.out hg
  rcases List.eq_nil_or_concat th.calls with hcs | ⟨cs, c, hcs⟩
  · rw [hcs] at v2
    have HW : Hid (m.fin 9 = m.reM t th true) := by show _ = _; unfold Mc.reM; rw [hcs]; rfl
    clear hg hr hcs
    go_wp2_with (go_at_call 27; refine (en_x M0.out 9).mono ?_; rintro e w1 ⟨rfl, L1, M1, K1⟩)
    go_end0
    exact FIN.out _ _ _ HW.out M1 K1
  · rw [List.concat_eq_append] at hcs
    obtain ⟨gc, hro, lgc, d0, d1, d2, hcap⟩ := M0.out.lastCall HT.out hr hcs
    obtain ⟨cl, hcl⟩ : ∃ cl, cl = cs.length := ⟨_, rfl⟩
    have HCL : Hid (cl = cs.length) := hcl
    have hlen : th.calls.length = cl + 1 := by rw [hcs, hcl]; simp
    have hcb : cl + 1 ≤ 1000000 := by have h1 := (HS.out.ok.th t th HT.out).2.1; have h2 := HS.out.ok.big; omega
    have hcap2 : (cl : Int) ≤ (r.c : Int) := by simp at hcap; omega
    rw [hlen, hro] at v2
    rw [← hcl] at d0 d1 d2
    have HCS : Hid (th.calls = cs ++ [c]) := hcs
    have HR : Hid (L.cr[t]? = some r ∧ r.o = some ⟨gc, 0, none⟩ ∧ L.to_ = some ⟨g, 0, none⟩) := ⟨hr, hro, hg⟩
    have hcl0 : (0 : Int) ≤ (cl : Int) := by omega
    clear hr hro hg hcs hlen hcap hcl
    go_upto_region 19 with fail
    go_region
    obtain ⟨cb, hcbk⟩ : ∃ cb, cb = wa.heap.size := ⟨_, rfl⟩
    have A1 := M0.out.alloc (.cells #[.int .i64 c.1, .int .i64 c.2.1, .int .i64 c.2.2] 96)
    have A2 : Hid (MX base mb co cc code N ib x (wa.alloc (.cells #[.int .i64 c.1, .int .i64 c.2.1, .int .i64 c.2.2] 96)).drew L m ∧ Kf L L wa (wa.alloc (.cells #[.int .i64 c.1, .int .i64 c.2.1, .int .i64 c.2.2] 96)).drew) := ⟨A1.1.drew, A1.2.drewN 1⟩
    have B2 : (wa.alloc (.cells #[.int .i64 c.1, .int .i64 c.2.1, .int .i64 c.2.2] 96)).drew.heap[cb]? = some (.cells #[.int .i64 c.1, .int .i64 c.2.1, .int .i64 c.2.2] 96 (0, 0)) := by rw [hcbk]; exact (al1 wa _).2
    have hgc : g ≠ cb := by omega
    rw [← hcbk]
    generalize (wa.alloc (.cells #[.int .i64 c.1, .int .i64 c.2.1, .int .i64 c.2.2] 96)).drew = wv at *
    clear A1 hcbk u3 ug um v0 v1 v3 v4' v5 uf d0 d1 d2 lgc v2 i0 i1 i2 i3 i4 i5 il
    obtain ⟨g', hg', u3, ug, um, ui, v0, v1, v3, v4', v5, uf⟩ := A2.out.1.thr HT.out
    obtain rfl : g = g' := by have := HR.out.2.2; rw [hg'] at this; simpa using this.symm
    obtain ⟨r', hr', v2⟩ := A2.out.1.callsAt HT.out hg'
    obtain rfl : r = r' := by have := HR.out.1; rw [hr'] at this; simpa using this.symm
    rw [show th.calls.length = cl + 1 by rw [HCS.out, HCL.out]; simp, HR.out.2.1] at v2
    have HB2 : Hid (wv.heap[cb]? = some (.cells #[.int .i64 c.1, .int .i64 c.2.1, .int .i64 c.2.2] 96 (0, 0))) := B2
    clear hg' hr' B2
    go_wp2_with fail
    go_region
    have P0 := pop_x A2.out.1 HT.out HR.out.2.2 HR.out.1 HCS.out
    obtain ⟨L2, e2, M2, K2⟩ := P0
    rw [HR.out.2.1, ← HCL.out] at M2 K2
    have C2 : Hid ((wv.setCell ⟨g, t * 6 + 2, none⟩ (.slice (some ⟨gc, 0, none⟩) cl r.c)).drew.heap[cb]? = some (.cells #[.int .i64 c.1, .int .i64 c.2.1, .int .i64 c.2.2] 96 (0, 0))) := (Below.heap_setCell _ ⟨g, t * 6 + 2, none⟩ _ _ (Ne.symm hgc)).trans HB2.out
    have N2 : Hid (MX base mb co cc code N ib x (wv.setCell ⟨g, t * 6 + 2, none⟩ (.slice (some ⟨gc, 0, none⟩) cl r.c)).drew L2 (m.setT t { th with calls := cs }) ∧ Kf L L2 wa (wv.setCell ⟨g, t * 6 + 2, none⟩ (.slice (some ⟨gc, 0, none⟩) cl r.c)).drew ∧ L2.to_ = some ⟨g, 0, none⟩) := ⟨M2.drew, A2.out.2.trans (K2.drewN 1), e2.trans HR.out.2.2⟩
    generalize (wv.setCell ⟨g, t * 6 + 2, none⟩ (.slice (some ⟨gc, 0, none⟩) cl r.c)).drew = w2 at *
    clear M2 K2 e2 u3 ug um v0 v1 v2 v3 v4' v5 uf ui
    obtain ⟨g', hg', u3, ug, um, ui, v0, v1, v3, v4', v5, uf⟩ := N2.out.1.thr (setT_at HT.out)
    obtain rfl : g = g' := by have := N2.out.2.2; rw [hg'] at this; simpa using this.symm
    have cb0 : w2.cell? ⟨cb, 0, none⟩ = some (.int .i64 c.1) := cell_of_row w2 _ 0 _ 96 (0, 0) C2.out
    have cb1 : w2.cell? ⟨cb, 1, none⟩ = some (.int .i64 c.2.1) := cell_of_row w2 _ 1 _ 96 (0, 0) C2.out
    have cb2 : w2.cell? ⟨cb, 2, none⟩ = some (.int .i64 c.2.2) := cell_of_row w2 _ 2 _ 96 (0, 0) C2.out
    have lcb : cb < w2.heap.size := (Array.getElem?_eq_some_iff.1 C2.out).1
    obtain ⟨j0, j1, j2, j3, j4, j5, jl⟩ := N2.out.1.cells
    have hgib : g ≠ ib := fun e => by
      have h1 := N2.out.1.ko
      have h2 := N2.out.1.ms.mr.th.orow g (by rw [hg']; rfl)
      rw [e, h1] at h2
      simp at h2
    have hcbg : cb ≠ g := Ne.symm hgc
    have hibg : ib ≠ g := Ne.symm hgib
    have hc64 := (HS.out.ok.th t th HT.out).2.2 c (by rw [HCS.out]; simp)
    have S1 := setT_x N2.out.1 (setT_at HT.out) hg' (o := 1) (u := .int .i64 c.2.2) (th' := { th with calls := cs, frame := c.2.2 }) (by decide) rfl (fun r => rfl) hc64.2.2 (HS.out.ok.th t th HT.out).1
    have S2 := setT_x S1.1 (setT_at (setT_at HT.out)) hg' (o := 0) (u := .int .i64 c.1) (th' := { th with calls := cs, frame := c.2.2, pc := c.1 }) (by decide) rfl (fun r => rfl) hc64.2.2 hc64.1
    rw [Nat.add_zero] at S2
    have S3 := setT_x S2.1 (setT_at (setT_at (setT_at HT.out))) hg' (o := 0) (u := .int .i64 c.2.1) (th' := { th with calls := cs, frame := c.2.2, pc := c.2.1 }) (by decide) rfl (fun r => rfl) hc64.2.2 hc64.2.1
    rw [Nat.add_zero] at S3
    have HW : Hid (m.setT t { th with calls := cs, frame := c.2.2, pc := c.2.1 } = m.reM t th true) := by
      show _ = _
      unfold Mc.reM
      rw [HCS.out, List.getLast?_concat, List.dropLast_concat]
      rfl
    have SF : Hid (MX base mb co cc code N ib x (((w2.setCell ⟨g, t * 6 + 1, none⟩ (.int .i64 c.2.2)).setCell ⟨g, t * 6, none⟩ (.int .i64 c.1)).setCell ⟨g, t * 6, none⟩ (.int .i64 c.2.1)) L2 (m.setT t { th with calls := cs, frame := c.2.2, pc := c.2.1 }) ∧ Kf L L2 wa (((w2.setCell ⟨g, t * 6 + 1, none⟩ (.int .i64 c.2.2)).setCell ⟨g, t * 6, none⟩ (.int .i64 c.1)).setCell ⟨g, t * 6, none⟩ (.int .i64 c.2.1))) := ⟨by have h9 := S3.1; rw [setT_set, setT_set, setT_set] at h9; exact h9, N2.out.2.1.trans (S1.2.trans (S2.2.trans S3.2))⟩
    clear S1 S2 S3 hc64 hg'
    go_wp2_with fail
    go_end0
    exact FIN.out _ _ _ HW.out SF.out.1 SF.out.2
end
end Go.Proofs.Ytflifialjdhenaa
namespace Go.Proofs.Ytflifialjdhenaa
open Go.RowKit
set_option linter.all false
section
variable {w w1 : World} {base mb : Nat} {cv : Value} {L : Ly} {m : Mc}
theorem MR.growOu (h : MR w base mb cv L m) {n : Int} {v' : Value} (A : App (w.alloc (.cells #[.int .i64 n] 3)) base 3 1 (.slice L.oo m.outs.length L.oc) m.outs.length (m.outs.map (Value.int .i64)) [.int .i64 n] 1 v' w1) : ∃ L', MR (w1.setCell ⟨mb, 9, none⟩ v') base mb cv L' { m with outs := m.outs ++ [n] } ∧ Kf L L' w (w1.setCell ⟨mb, 9, none⟩ v') := by
  have hW : Below w.heap.size w (w.alloc (.cells #[.int .i64 n] 3)) := (al1 w _).1
  obtain ⟨own', hkp, holt, ho0, hon, hrw⟩ := grow_own h hW A (4, 0) (by decide) h.ou.orow
  obtain ⟨po', pc', rfl⟩ := A.shape
  have hWs : (w.alloc (.cells #[.int .i64 n] 3)).heap.size = w.heap.size + 1 := by simp
  have hmb : w1.heap[mb]? = some (.cells (mcC cv L m) 45 (0, 0)) := (grown_same h hW A.grown h.ou.orow 0 (by decide) mb 0 h.omb).trans h.blk
  have hs : ∀ g, g ≠ 0 → sameG own' g w1 (w1.setCell ⟨mb, 9, none⟩ (.slice po' (m.outs.length + 1) pc')) := fun g hg b s e => Below.heap_setCell _ _ _ _ (fun e2 => by
    have e3 : b = mb := e2
    subst e3
    rw [hkp 0 b 0 h.omb] at e
    simp at e
    omega)
  have hid : ∀ g, keepG own' own' g := fun g b s e => e
  refine ⟨{ L with oo := po', oc := pc', own := own' }, ⟨?_, hkp 0 mb 0 h.omb, ?_, ?_, ?_, ?_, ?_, h.hbase, fun b hn => by simpa using holt b hn, ho0⟩, ⟨?_, hon, rfl⟩⟩
  · rw [heap_setCell_same w1 mb 9 _ 45 _ hmb]
    show some (Obj.cells _ 45 (0, 0)) = some (Obj.cells _ 45 (0, 0))
    simp [mcC]
  · exact (h.hp.frame (grown_same h hW A.grown h.ou.orow 1 (by decide)) (hkp 1)).frame (hs 1 (by decide)) (hid 1)
  · exact (h.pg.frame (grown_same h hW A.grown h.ou.orow 2 (by decide)) (hkp 2)).frame (hs 2 (by decide)) (hid 2)
  · exact (h.th.frame (grown_same h hW A.grown h.ou.orow 3 (by decide)) (hkp 3)).frame (hs 3 (by decide)) (hid 3)
  · have hrow : w1.ownsRow base 3 1 (.slice po' (m.outs ++ [n]).length pc') (m.outs ++ [n]).length ((m.outs ++ [n]).map (Value.int .i64)) := by
      rw [List.map_append, List.length_append]
      exact A.row
    have hP : NRW w1 base own' 4 po' pc' (m.outs ++ [n]) := ⟨hrow, fun b e => hrw b (by simpa using e)⟩
    exact hP.frame (hs 4 (by decide)) (hid 4)
  · exact (h.or_.frame (grown_same h hW A.grown h.ou.orow 5 (by decide)) (hkp 5)).frame (hs 5 (by decide)) (hid 5)
  · refine KX.setCell (p := ⟨mb, 9, none⟩) ?_ (.inr (by rw [h.omb]; simp)) _
    exact KX.grown (KX.of_below hW) A.grown (by omega) (fun k e => .inr (by rw [h.ou.orow k e]; simp))
theorem MR.growOr (h : MR w base mb cv L m) {n : Int} {v' : Value} (A : App (w.alloc (.cells #[.int .i64 n] 3)) base 3 1 (.slice L.ro_ m.order.length L.rc) m.order.length (m.order.map (Value.int .i64)) [.int .i64 n] 1 v' w1) : ∃ L', MR (w1.setCell ⟨mb, 10, none⟩ v') base mb cv L' { m with order := m.order ++ [n] } ∧ Kf L L' w (w1.setCell ⟨mb, 10, none⟩ v') := by
  have hW : Below w.heap.size w (w.alloc (.cells #[.int .i64 n] 3)) := (al1 w _).1
  obtain ⟨own', hkp, holt, ho0, hon, hrw⟩ := grow_own h hW A (5, 0) (by decide) h.or_.orow
  obtain ⟨po', pc', rfl⟩ := A.shape
  have hWs : (w.alloc (.cells #[.int .i64 n] 3)).heap.size = w.heap.size + 1 := by simp
  have hmb : w1.heap[mb]? = some (.cells (mcC cv L m) 45 (0, 0)) := (grown_same h hW A.grown h.or_.orow 0 (by decide) mb 0 h.omb).trans h.blk
  have hs : ∀ g, g ≠ 0 → sameG own' g w1 (w1.setCell ⟨mb, 10, none⟩ (.slice po' (m.order.length + 1) pc')) := fun g hg b s e => Below.heap_setCell _ _ _ _ (fun e2 => by
    have e3 : b = mb := e2
    subst e3
    rw [hkp 0 b 0 h.omb] at e
    simp at e
    omega)
  have hid : ∀ g, keepG own' own' g := fun g b s e => e
  refine ⟨{ L with ro_ := po', rc := pc', own := own' }, ⟨?_, hkp 0 mb 0 h.omb, ?_, ?_, ?_, ?_, ?_, h.hbase, fun b hn => by simpa using holt b hn, ho0⟩, ⟨?_, hon, rfl⟩⟩
  · rw [heap_setCell_same w1 mb 10 _ 45 _ hmb]
    show some (Obj.cells _ 45 (0, 0)) = some (Obj.cells _ 45 (0, 0))
    simp [mcC]
  · exact (h.hp.frame (grown_same h hW A.grown h.or_.orow 1 (by decide)) (hkp 1)).frame (hs 1 (by decide)) (hid 1)
  · exact (h.pg.frame (grown_same h hW A.grown h.or_.orow 2 (by decide)) (hkp 2)).frame (hs 2 (by decide)) (hid 2)
  · exact (h.th.frame (grown_same h hW A.grown h.or_.orow 3 (by decide)) (hkp 3)).frame (hs 3 (by decide)) (hid 3)
  · exact (h.ou.frame (grown_same h hW A.grown h.or_.orow 4 (by decide)) (hkp 4)).frame (hs 4 (by decide)) (hid 4)
  · have hrow : w1.ownsRow base 3 1 (.slice po' (m.order ++ [n]).length pc') (m.order ++ [n]).length ((m.order ++ [n]).map (Value.int .i64)) := by
      rw [List.map_append, List.length_append]
      exact A.row
    have hP : NRW w1 base own' 5 po' pc' (m.order ++ [n]) := ⟨hrow, fun b e => hrw b (by simpa using e)⟩
    exact hP.frame (hs 5 (by decide)) (hid 5)
  · refine KX.setCell (p := ⟨mb, 10, none⟩) ?_ (.inr (by rw [h.omb]; simp)) _
    exact KX.grown (KX.of_below hW) A.grown (by omega) (fun k e => .inr (by rw [h.or_.orow k e]; simp))
end
def Mc.ouM (m : Mc) (t : Nat) (x : Mi) : Mc := match m.rd t x.a with
  | (none, m1) => m1
  | (some n, _) => { m with outs := m.outs ++ [n] }
section
variable {base mb : Nat} {co : Option Addr} {cc : Nat} {code : List Mi} {N ib : Nat} {x : Mi} {w w' : World} {L L' : Ly} {m m' : Mc} {t : Nat} {th th' : Th}
theorem OKM.out1 (h : OKM N m) (n : Int) (hN : N + 1 ≤ 1000000) : OKM (N + 1) { m with outs := m.outs ++ [n] } := ⟨h.mem, fun i y hy => ⟨(h.th i y hy).1, Nat.le_succ_of_le (h.th i y hy).2.1, (h.th i y hy).2.2⟩, by have := h.outs; simp; omega, Nat.le_succ_of_le h.order, ⟨h.steps.1, by have := h.steps.2; show m.steps ≤ _; omega⟩, hN⟩
theorem run_out (h : MX base mb co cc code N ib x w L m) (n : Int) (hN : N + 1 ≤ 1000000) (ty : TypeId) {ad : Nat} (had : ad = w.heap.size) : ∃ v' w1, (Builtin.append_ #[23, 23] ty #[.slice L.oo m.outs.length L.oc, .slice (some ⟨ad, 0, none⟩) 1 1]).run Try.prog (w.alloc (.cells #[.int .i64 n] 3)) = .ok v' w1 ∧ (∃ o' c', v' = .slice o' (m.outs.length + 1) c') ∧ w1.cell? ⟨mb, 9, none⟩ = some (.slice L.oo m.outs.length L.oc) ∧ w1.frozen? ⟨mb, 9, none⟩ = false ∧ mb < w1.heap.size ∧ ∃ L', MX base mb co cc code (N + 1) ib x (w1.setCell ⟨mb, 9, none⟩ v') L' { m with outs := m.outs ++ [n] } ∧ Kf L L' w (w1.setCell ⟨mb, 9, none⟩ v') := by
  obtain ⟨v', w1, hr, A⟩ := app1 (W := w) Try.underlying23 infI rfl (by decide) h.ms.mr.ou.row (Nat.le_trans h.ms.mr.hbase (Nat.le_of_lt h.ms.mr.lt)) #[.int .i64 n] rfl (fun u hu => by simp at hu; subst hu; rfl) (by have := h.ms.ok.outs; unfold maxLen; omega) (by have := h.ms.ok.outs; omega) ty had
  have hmb : w1.heap[mb]? = some (.cells (mcC (.slice co code.length cc) L m) 45 (0, 0)) := (grown_same h.ms.mr (al1 w _).1 A.grown h.ms.mr.ou.orow 0 (by decide) mb 0 h.ms.mr.omb).trans h.ms.mr.blk
  obtain ⟨L', hm, kf⟩ := h.ms.mr.growOu A
  exact ⟨v', w1, hr, A.shape, cell_of_row w1 _ 9 _ 45 (0, 0) hmb, frozen_of_row w1 _ 9 _ 45 hmb, (Array.getElem?_eq_some_iff.1 hmb).1, L', h.next hm kf (h.ms.ok.out1 n hN), kf⟩
set_option maxRecDepth 100000 in
set_option maxHeartbeats 2000000 in
theorem thr_out (h : MS base mb co cc code N w L m) (ht : m.ths[t]? = some th) (hx : x.ok) (hop : x.op = 18) (hN : N + 1 ≤ 1000000) : Calls Try.prog 36 #[.pointer (some ⟨mb, 0, none⟩), .int .i64 t, .agg (miC x)] w (MSP base mb co cc code (N + 1) w L (m.ouM t x)) := by
  obtain ⟨M0, K0⟩ := MX.start h x
  have M0 : Hid (MX base mb co cc code N w.heap.size x (w.alloc (.cells #[.int .i64 x.op, .int .i64 x.a, .int .i64 x.b, .int .i64 x.c, .int .i64 x.d, .int .i64 x.e] 72)) L m) := M0
  have FIN : Hid (∀ w' L' m', m' = m.ouM t x → MX base mb co cc code (N + 1) w.heap.size x w' L' m' → Kf L L' (w.alloc (.cells #[.int .i64 x.op, .int .i64 x.a, .int .i64 x.b, .int .i64 x.c, .int .i64 x.d, .int .i64 x.e] 72)) w' → MSP base mb co cc code (N + 1) w L (m.ouM t x) (.returned (.tuple #[])) w') := fun w' L' m' e hm hk => ⟨rfl, L', e ▸ hm.ms, Kf.trans K0 hk⟩
  have HT : Hid (m.ths[t]? = some th) := ht
  have HX : Hid x.ok := hx
  have HM64 : Hid (∀ a, I64 (m.mem a)) := h.ok.mem
  have HS : Hid (MS base mb co cc code N w L m) := h
  have HOP : Hid (x.op = 18) := hop
  show Calls Try.prog 36 #[.pointer (some ⟨mb, 0, none⟩), .int .i64 t, .agg #[.int .i64 x.op, .int .i64 x.a, .int .i64 x.b, .int .i64 x.c, .int .i64 x.d, .int .i64 x.e]] w _
  clear h K0 ht hx hop
  go_enter Try.func36, Try.ntmps36
  go_upto_region 2 with fail
  obtain ⟨ib, hib⟩ : ∃ ib, ib = w.heap.size := ⟨_, rfl⟩
  rw [← hib] at M0 FIN ⊢
  generalize w.alloc (.cells #[.int .i64 x.op, .int .i64 x.a, .int .i64 x.b, .int .i64 x.c, .int .i64 x.d, .int .i64 x.e] 72) = wa at *
  obtain ⟨i0, i1, i2, i3, i4, i5, il⟩ := M0.out.cells
  clear hib
  have hop := HOP.out
  rcases slot_cases (m.fr t) t x.a with ⟨y, hy⟩ | ⟨y, hy⟩
  · obtain ⟨v, hv⟩ : ∃ v, v = m.mem y.toNat := ⟨_, rfl⟩
    have R1 := rd_yes M0.out HT.out HX.out.2.1 hy
    have hrd := Mc.rd_some hy
    rw [← hv] at R1 hrd
    have HW : Hid ({ m with outs := m.outs ++ [v] } = m.ouM t x) := by show _ = _; unfold Mc.ouM; rw [hrd]
    clear hv hy hrd
    go_upto_region 13 with (go_at_call 31; refine (R1).mono ?_; rintro e w1 ⟨rfl, L1, M1, K1⟩; replace M1 : Hid _ := M1; obtain ⟨c10, c11, c12, c13, c14, c15, c1l⟩ := M1.out.cells)
    have hc9 : w1.cell? ⟨mb, 9, none⟩ = some (.slice L1.oo m.outs.length L1.oc) := by rw [cell_of_row w1 _ 9 _ 45 (0, 0) M1.out.ms.mr.blk]; rfl
    have hlm := M1.out.ms.mr.lt
    have HR : Hid (∀ ty, ∃ v' w2, (Builtin.append_ #[23, 23] ty #[.slice L1.oo m.outs.length L1.oc, .slice (some ⟨w1.heap.size, 0, none⟩) 1 1]).run Try.prog (w1.alloc (.cells #[.int .i64 v] 3)) = .ok v' w2 ∧ (∃ o' c', v' = .slice o' (m.outs.length + 1) c') ∧ w2.cell? ⟨mb, 9, none⟩ = some (.slice L1.oo m.outs.length L1.oc) ∧ w2.frozen? ⟨mb, 9, none⟩ = false ∧ mb < w2.heap.size ∧ ∃ L', MX base mb co cc code (N + 1) ib x (w2.setCell ⟨mb, 9, none⟩ v') L' { m with outs := m.outs ++ [v] } ∧ Kf L1 L' w1 (w2.setCell ⟨mb, 9, none⟩ v')) := fun ty => run_out M1.out v hN ty rfl
    go_wp2_with (at_builtin; refine wp_runG 23 (v := .slice L1.oo m.outs.length L1.oc) (xv := .slice (some ⟨w1.heap.size, 0, none⟩) 1 1) (by rfl) (by rfl) (by rfl) (by rfl) (HR.out _) ?_; rintro v2 w2 ⟨⟨o2, c2, rfl⟩, hcc2, hff2, hll2, L2, M2, K2⟩; replace M2 : Hid _ := M2; replace K2 : Hid _ := K2)
    go_end0
    exact FIN.out _ _ _ HW.out M2.out (K1.trans K2.out)
  · have HW : Hid (m.fin y = m.ouM t x) := by show _ = _; unfold Mc.ouM; rw [Mc.rd_none hy]
    have HY : Hid (slotR (m.fr t) t x.a = (y, false)) := hy
    clear hy
    go_wp2_with (go_at_call 31; refine (rd_no M0.out HT.out HX.out.2.1 HY.out).mono ?_; rintro e w1 ⟨v, rfl, L1, M1, K1⟩; replace M1 : Hid _ := M1)
    go_end0
    exact FIN.out _ _ _ HW.out (M1.out.next M1.out.ms.mr (Kf.refl _ _) (M1.out.ms.ok.up (Nat.le_succ N) hN)) K1
end
end Go.Proofs.Ytflifialjdhenaa
