/- The document's machine: a thread ends. -/
import Derived.Deep.RegionHeld3
import Derived.Test.YtflifialjdhenaaMcw
namespace Go.Proofs.Ytflifialjdhenaa
open Go.RowKit
set_option linter.all false
def Mc.spM (m : Mc) (t : Nat) (th : Th) (x : Mi) : Mc := if x.d = 1 then match m.rd t x.a with
    | (none, m1) => m1
    | (some n, _) => { m with value := n }.setT t { th with over := true }
  else if x.d = 2 then { m with failed := true }.setT t { th with over := true } else m.setT t { th with over := true }
section
variable {base mb : Nat} {co : Option Addr} {cc : Nat} {code : List Mi} {N ib : Nat} {x : Mi} {w w' : World} {L L' : Ly} {m m' : Mc} {t : Nat} {th th' : Th}
theorem val_x (h : MX base mb co cc code N ib x w L m) (n : Int) : MX base mb co cc code N ib x (w.setCell ⟨mb, 7, none⟩ (.int .i64 n)) L { m with value := n } ∧ Kf L L w (w.setCell ⟨mb, 7, none⟩ (.int .i64 n)) := by
  have h1 := h.ms.mr.set (m' := { m with value := n }) 7 (.int .i64 n) rfl rfl rfl rfl rfl rfl
  exact ⟨h.next h1.1 h1.2 ⟨h.ms.ok.mem, h.ms.ok.th, h.ms.ok.outs, h.ms.ok.order, h.ms.ok.steps, h.ms.ok.big⟩, h1.2⟩
theorem fail_x (h : MX base mb co cc code N ib x w L m) : MX base mb co cc code N ib x (w.setCell ⟨mb, 4, none⟩ (.bool true)) L { m with failed := true } ∧ Kf L L w (w.setCell ⟨mb, 4, none⟩ (.bool true)) := by
  have h1 := h.ms.mr.set (m' := { m with failed := true }) 4 (.bool true) rfl rfl rfl rfl rfl rfl
  exact ⟨h.next h1.1 h1.2 ⟨h.ms.ok.mem, h.ms.ok.th, h.ms.ok.outs, h.ms.ok.order, h.ms.ok.steps, h.ms.ok.big⟩, h1.2⟩
theorem MX.own (h : MX base mb co cc code N ib x w L m) (ht : m.ths[t]? = some th) {g : Nat} (hg : L.to_ = some ⟨g, 0, none⟩) : mb ≠ g ∧ ib ≠ g ∧ ib ≠ mb ∧ w.cell? ⟨mb, 7, none⟩ = some (.int .i64 m.value) ∧ w.cell? ⟨mb, 4, none⟩ = some (.bool m.failed) ∧ ∀ o, w.frozen? ⟨mb, o, none⟩ = false := by
  have h1 := h.ms.mr.th.orow g (by rw [hg]; rfl)
  refine ⟨fun e => ?_, fun e => ?_, fun e => ?_, cell_of_row w _ 7 _ 45 (0, 0) h.ms.mr.blk, cell_of_row w _ 4 _ 45 (0, 0) h.ms.mr.blk, fun o => frozen_of_row w _ o _ 45 h.ms.mr.blk⟩
  · have h2 := h.ms.mr.omb
    rw [e, h1] at h2
    simp at h2
  · have h2 := h.ko
    rw [e, h1] at h2
    simp at h2
  · have h2 := h.ko
    rw [e, h.ms.mr.omb] at h2
    simp at h2
set_option maxRecDepth 100000 in
set_option maxHeartbeats 2000000 in
theorem thr_stop (h : MS base mb co cc code N w L m) (ht : m.ths[t]? = some th) (hx : x.ok) (hop : x.op = 19) : Calls Try.prog 36 #[.pointer (some ⟨mb, 0, none⟩), .int .i64 t, .agg (miC x)] w (MSP base mb co cc code N w L (m.spM t th x)) := by
  obtain ⟨M0, K0⟩ := MX.start h x
  have M0 : Hid (MX base mb co cc code N w.heap.size x (w.alloc (.cells #[.int .i64 x.op, .int .i64 x.a, .int .i64 x.b, .int .i64 x.c, .int .i64 x.d, .int .i64 x.e] 72)) L m) := M0
  have FIN : Hid (∀ w' L' m', m' = m.spM t th x → MX base mb co cc code N w.heap.size x w' L' m' → Kf L L' (w.alloc (.cells #[.int .i64 x.op, .int .i64 x.a, .int .i64 x.b, .int .i64 x.c, .int .i64 x.d, .int .i64 x.e] 72)) w' → MSP base mb co cc code N w L (m.spM t th x) (.returned (.tuple #[])) w') := fun w' L' m' e hm hk => ⟨rfl, L', e ▸ hm.ms, Kf.trans K0 hk⟩
  have HT : Hid (m.ths[t]? = some th) := ht
  have HX : Hid x.ok := hx
  have HM64 : Hid (∀ a, I64 (m.mem a)) := h.ok.mem
  have HS : Hid (MS base mb co cc code N w L m) := h
  have HOP : Hid (x.op = 19) := hop
  show Calls Try.prog 36 #[.pointer (some ⟨mb, 0, none⟩), .int .i64 t, .agg #[.int .i64 x.op, .int .i64 x.a, .int .i64 x.b, .int .i64 x.c, .int .i64 x.d, .int .i64 x.e]] w _
  clear h K0 ht hx hop
  go_enter Try.func36, Try.ntmps36
  go_upto_region 2 with fail
  obtain ⟨ib, hib⟩ : ∃ ib, ib = w.heap.size := ⟨_, rfl⟩
  rw [← hib] at M0 FIN ⊢
  generalize w.alloc (.cells #[.int .i64 x.op, .int .i64 x.a, .int .i64 x.b, .int .i64 x.c, .int .i64 x.d, .int .i64 x.e] 72) = wa at *
  obtain ⟨i0, i1, i2, i3, i4, i5, il⟩ := M0.out.cells
  clear hib
  have hop := HOP.out
  by_cases hd1 : x.d = 1
  · have hd1b : (x.d == 1) = true := by simpa using hd1
    have HD : Hid (x.d = 1) := hd1
    rcases slot_cases (m.fr t) t x.a with ⟨y, hy⟩ | ⟨y, hy⟩
    · obtain ⟨v, hv⟩ : ∃ v, v = m.mem y.toNat := ⟨_, rfl⟩
      have R1 := rd_yes M0.out HT.out HX.out.2.1 hy
      have hrd := Mc.rd_some hy
      rw [← hv] at R1 hrd
      have HW : Hid ({ m with value := v }.setT t { th with over := true } = m.spM t th x) := by show _ = _; unfold Mc.spM; rw [if_pos HD.out, hrd]
      clear hv hy hrd
      go_upto_region 18 with (go_at_call 31; refine (R1).mono ?_; rintro e w1 ⟨rfl, L1, M1, K1⟩; replace M1 : Hid _ := M1; obtain ⟨c10, c11, c12, c13, c14, c15, c1l⟩ := M1.out.cells)
      obtain ⟨g, hg, u3, ug, um, ui, v0, v1, v3, v4', v5, uf⟩ := M1.out.thr HT.out
      obtain ⟨nmg, nig, nim, m7, m4, mf⟩ := M1.out.own HT.out hg
      have ui0 : (0 : Int) ≤ (t : Int) := by omega
      have ngm : g ≠ mb := Ne.symm nmg
      have HFR : Hid ((stk t ≤ th.frame ∧ th.frame < stk (t + 1)) ∧ I64 th.pc) := ⟨HS.out.mr.th.fr t th HT.out, (HS.out.ok.th t th HT.out).1⟩
      have S1 := val_x M1.out v
      have S2 := setT_x S1.1 (t := t) (th := th) HT.out hg (o := 5) (u := .bool true) (th' := { th with over := true }) (by decide) rfl (fun r => rfl) HFR.out.1 HFR.out.2
      have SF : Hid (MX base mb co cc code N ib x ((w1.setCell ⟨mb, 7, none⟩ (.int .i64 v)).setCell ⟨g, t * 6 + 5, none⟩ (.bool true)) L1 ({ m with value := v }.setT t { th with over := true }) ∧ Kf L L1 wa ((w1.setCell ⟨mb, 7, none⟩ (.int .i64 v)).setCell ⟨g, t * 6 + 5, none⟩ (.bool true))) := ⟨S2.1, K1.trans (S1.2.trans S2.2)⟩
      clear S1 S2 hg
      go_wp2_with fail
      go_end0
      exact FIN.out _ _ _ HW.out SF.out.1 SF.out.2
    · have HW : Hid (m.fin y = m.spM t th x) := by show _ = _; unfold Mc.spM; rw [if_pos HD.out, Mc.rd_none hy]
      have HY : Hid (slotR (m.fr t) t x.a = (y, false)) := hy
      clear hy
      go_wp2_with (go_at_call 31; refine (rd_no M0.out HT.out HX.out.2.1 HY.out).mono ?_; rintro e w1 ⟨v, rfl, L1, M1, K1⟩; replace M1 : Hid _ := M1)
      go_end0
      exact FIN.out _ _ _ HW.out M1.out K1
  · have hd1b : (x.d == 1) = false := by simpa using hd1
    by_cases hd2 : x.d = 2
    · have hd2b : (x.d == 2) = true := by simpa using hd2
      have HW : Hid ({ m with failed := true }.setT t { th with over := true } = m.spM t th x) := by show _ = _; unfold Mc.spM; rw [if_neg hd1, if_pos hd2]
      obtain ⟨g, hg, u3, ug, um, ui, v0, v1, v3, v4', v5, uf⟩ := M0.out.thr HT.out
      obtain ⟨nmg, nig, nim, m7, m4, mf⟩ := M0.out.own HT.out hg
      have ui0 : (0 : Int) ≤ (t : Int) := by omega
      have ngm : g ≠ mb := Ne.symm nmg
      have HFR : Hid ((stk t ≤ th.frame ∧ th.frame < stk (t + 1)) ∧ I64 th.pc) := ⟨HS.out.mr.th.fr t th HT.out, (HS.out.ok.th t th HT.out).1⟩
      have S1 := fail_x M0.out
      have S2 := setT_x S1.1 (t := t) (th := th) HT.out hg (o := 5) (u := .bool true) (th' := { th with over := true }) (by decide) rfl (fun r => rfl) HFR.out.1 HFR.out.2
      have SF : Hid (MX base mb co cc code N ib x ((wa.setCell ⟨mb, 4, none⟩ (.bool true)).setCell ⟨g, t * 6 + 5, none⟩ (.bool true)) L ({ m with failed := true }.setT t { th with over := true }) ∧ Kf L L wa ((wa.setCell ⟨mb, 4, none⟩ (.bool true)).setCell ⟨g, t * 6 + 5, none⟩ (.bool true))) := ⟨S2.1, S1.2.trans S2.2⟩
      clear S1 S2 hg
      go_wp2_with fail
      go_end0
      exact FIN.out _ _ _ HW.out SF.out.1 SF.out.2
    · have hd2b : (x.d == 2) = false := by simpa using hd2
      have HW : Hid (m.setT t { th with over := true } = m.spM t th x) := by show _ = _; unfold Mc.spM; rw [if_neg hd1, if_neg hd2]
      obtain ⟨g, hg, u3, ug, um, ui, v0, v1, v3, v4', v5, uf⟩ := M0.out.thr HT.out
      obtain ⟨nmg, nig, nim, m7, m4, mf⟩ := M0.out.own HT.out hg
      have ui0 : (0 : Int) ≤ (t : Int) := by omega
      have ngm : g ≠ mb := Ne.symm nmg
      have HFR : Hid ((stk t ≤ th.frame ∧ th.frame < stk (t + 1)) ∧ I64 th.pc) := ⟨HS.out.mr.th.fr t th HT.out, (HS.out.ok.th t th HT.out).1⟩
      have S2 := setT_x M0.out (t := t) (th := th) HT.out hg (o := 5) (u := .bool true) (th' := { th with over := true }) (by decide) rfl (fun r => rfl) HFR.out.1 HFR.out.2
      have SF : Hid (MX base mb co cc code N ib x (wa.setCell ⟨g, t * 6 + 5, none⟩ (.bool true)) L (m.setT t { th with over := true }) ∧ Kf L L wa (wa.setCell ⟨g, t * 6 + 5, none⟩ (.bool true))) := S2
      clear S2 hg
      go_wp2_with fail
      go_end0
      exact FIN.out _ _ _ HW.out SF.out.1 SF.out.2
end
end Go.Proofs.Ytflifialjdhenaa
namespace Go.Proofs.Ytflifialjdhenaa
open Go.RowKit
set_option linter.all false
section
variable {P : Program} {md : Region.Mode} {ops : Array Oper} {Q : Exit → Act → World → Prop} {S : World → Prop} {fuel : Nat} {listed ls : Array Bool} {a b : Act} {w : World} {oi oj : Oper}
theorem rtk (i : Nat) {v : Value} (h : wpAnyH P md ops Q S fuel ls b w) (hi : ops[i]? = some oi := by simp only [List.getElem?_toArray, List.getElem?_cons_succ, List.getElem?_cons_zero]; rfl) (hs : Region.noSelect ops = true := by as_aux_lemma => kernel_rfl) (hf : Region.free md ops listed i = true := by as_aux_lemma => kernel_rfl) (hr : (Region.ready md ops listed).contains i = true := by as_aux_lemma => kernel_rfl) (hQ : ∀ c a w, Q (.panic c) (a.put oi.dst v) w → Q (.panic c) a w := by exact fun _ _ _ h => h) (hw : Region.wanted oi (yielded ops a.tmps) = true := by rfl) (hy : ∀ w, S w → (execOp a.eval oi).run P w = .ok (.value v) w := by (intro w hSw; (try dsimp only at hSw); go_simp <;> with_reducible rfl)) (hl : listed.setIfInBounds i true = ls := by first | (simp only [List.setIfInBounds_toArray, List.set_cons_zero, List.set_cons_succ]; rfl) | rfl) (hb : a.put oi.dst v = b := by first | (simp only [Act.put, List.setIfInBounds_toArray, List.set_cons_zero, List.set_cons_succ]; rfl) | rfl) (hS : S w := by assumption) : wpAnyH P md ops Q S (fuel + 1) listed a w := by
  subst hl hb
  exact wpAnyH_take hi hs hf hr hQ (Or.inl ⟨hw, hy⟩) hS h
theorem rr1 (i : Nat) (h : ∀ K : Act → World → Prop, Shut (∀ a w, S w → (S w → wpAnyH P md ops Q S fuel (listed.setIfInBounds i true) a w) → K a w) → if Region.wanted oi (yielded ops a.tmps) = true then Oper.wp P oi a w K Q else K (a.put oi.dst undef) w) (hi : ops[i]? = some oi := by simp only [List.getElem?_toArray, List.getElem?_cons_succ, List.getElem?_cons_zero]; rfl) (hr : Region.ready md ops listed = [i] := by as_aux_lemma => kernel_rfl) : wpAnyH P md ops Q S (fuel + 1) listed a w := wpAnyH_ready hr (by simp) (AllReadyH.cons hi h AllReadyH.nil)
theorem rr2 (i j : Nat) (h : ∀ K : Act → World → Prop, Shut (∀ a w, S w → (S w → wpAnyH P md ops Q S fuel (listed.setIfInBounds i true) a w) → K a w) → if Region.wanted oi (yielded ops a.tmps) = true then Oper.wp P oi a w K Q else K (a.put oi.dst undef) w) (h' : ∀ K : Act → World → Prop, Shut (∀ a w, S w → (S w → wpAnyH P md ops Q S fuel (listed.setIfInBounds j true) a w) → K a w) → if Region.wanted oj (yielded ops a.tmps) = true then Oper.wp P oj a w K Q else K (a.put oj.dst undef) w) (hi : ops[i]? = some oi := by simp only [List.getElem?_toArray, List.getElem?_cons_succ, List.getElem?_cons_zero]; rfl) (hj : ops[j]? = some oj := by simp only [List.getElem?_toArray, List.getElem?_cons_succ, List.getElem?_cons_zero]; rfl) (hr : Region.ready md ops listed = [i, j] := by as_aux_lemma => kernel_rfl) : wpAnyH P md ops Q S (fuel + 1) listed a w := wpAnyH_ready hr (by simp) (AllReadyH.cons hi h (AllReadyH.cons hj h' AllReadyH.nil))
theorem rgo {K : Act → World → Prop} (hK : Shut (∀ a w, S w → (S w → wpAnyH P md ops Q S fuel listed a w) → K a w)) (h : S w → wpAnyH P md ops Q S fuel ls b w) (hl : listed = ls := by first | (simp only [List.setIfInBounds_toArray, List.set_cons_zero, List.set_cons_succ]; rfl) | rfl) (hb : a = b := by first | (simp only [Act.put, List.setIfInBounds_toArray, List.set_cons_zero, List.set_cons_succ]; rfl) | rfl) (hS : S w := by first | trivial | ((try dsimp only); first | assumption | exact KB.out ((Below.refl _ _).drew) | exact KB.out ((al1 _ _).1.drew) | exact KS10 | exact KS11 | exact KB29.out | exact hS12 | exact hS13)) : K a w := by
  subst hl hb
  exact hK.out _ _ hS h
end
end Go.Proofs.Ytflifialjdhenaa
namespace Go.Proofs.Ytflifialjdhenaa
open Go.RowKit
set_option linter.all false
theorem inf77 : (Try.prog.info? 96).map (fun i => (i.zero, i.size, i.bytes)) = some (some (.agg #[.int .i64 0, .int .i64 0, .int .i64 0]), 3, 24) := by kernel_rfl
def Mc.caM (m : Mc) (t : Nat) (th : Th) (x : Mi) (to_ : Int) : Mc := match slotR (m.fr t) t x.b with
  | (y, true) => m.setT t { th with calls := th.calls ++ [(th.pc, x.e, th.frame)], frame := y, pc := to_ }
  | (y, false) => m.fin y
section
variable {base mb : Nat} {co : Option Addr} {cc : Nat} {code : List Mi} {N ib : Nat} {x : Mi} {w w' : World} {L L' : Ly} {m m' : Mc} {t : Nat} {th th' : Th}
theorem OKM.push (h : OKM N m) (ht : m.ths[t]? = some th) {c : Int × Int × Int} (hc : I64 c.1 ∧ I64 c.2.1 ∧ stk t ≤ c.2.2 ∧ c.2.2 < stk (t + 1)) (hp : I64 th'.pc) (hcs : th'.calls = th.calls ++ [c]) (hN : N + 1 ≤ 1000000) : OKM (N + 1) (m.setT t th') := ⟨h.mem, fun i y hy => by
  have hx2 : (m.ths.set t th')[i]? = some y := hy
  by_cases hi : i = t
  · subst hi
    rw [List.getElem?_set_self (List.getElem?_eq_some_iff.1 ht).1] at hx2
    obtain rfl := Option.some.inj hx2
    have h3 := h.th i th ht
    rw [hcs]
    refine ⟨hp, by simp; omega, fun q hq => ?_⟩
    rcases List.mem_append.1 hq with hq | hq
    · exact h3.2.2 q hq
    · simp at hq
      subst hq
      exact hc
  · rw [List.getElem?_set_ne (Ne.symm hi)] at hx2
    exact ⟨(h.th i y hx2).1, Nat.le_succ_of_le (h.th i y hx2).2.1, (h.th i y hx2).2.2⟩, Nat.le_succ_of_le h.outs, Nat.le_succ_of_le h.order, ⟨h.steps.1, by have := h.steps.2; show m.steps ≤ _; omega⟩, hN⟩
theorem run_push (h : MX base mb co cc code N ib x w L m) (ht : m.ths[t]? = some th) {g : Nat} (hg : L.to_ = some ⟨g, 0, none⟩) {r : Rq} (hr : L.cr[t]? = some r) {c : Int × Int × Int} (hc : I64 c.1 ∧ I64 c.2.1 ∧ stk t ≤ c.2.2 ∧ c.2.2 < stk (t + 1)) (hN : N + 1 ≤ 1000000) (ty : TypeId) {ad : Nat} (had : ad = w.heap.size) : ∃ v' w1, (Builtin.append_ #[39, 39] ty #[.slice r.o th.calls.length r.c, .slice (some ⟨ad, 0, none⟩) 1 1]).run Try.prog (w.alloc (.cells #[.int .i64 c.1, .int .i64 c.2.1, .int .i64 c.2.2] 96)) = .ok v' w1 ∧ ∃ o' c', v' = .slice o' (th.calls.length + 1) c' ∧ w1.heap[g]? = w.heap[g]? ∧ w1.heap[ib]? = w.heap[ib]? ∧ g < w1.heap.size ∧ (∀ o, w1.frozen? ⟨g, o, none⟩ = false) ∧ ∃ L', L'.to_ = L.to_ ∧ MX base mb co cc code (N + 1) ib x (w1.setCell ⟨g, t * 6 + 2, none⟩ (.slice o' (th.calls.length + 1) c')) L' (m.setT t { th with calls := th.calls ++ [c] }) ∧ Kf L L' w (w1.setCell ⟨g, t * 6 + 2, none⟩ (.slice o' (th.calls.length + 1) c')) := by
  obtain ⟨row, ro⟩ := h.ms.mr.th.calls t th r ht hr
  have h3 := h.ms.ok.th t th ht
  obtain ⟨v', w1, hr1, A⟩ := app1 (W := w) Try.underlying39 inf77 rfl (by decide) row (Nat.le_trans h.ms.mr.hbase (Nat.le_of_lt h.ms.mr.lt)) #[.int .i64 c.1, .int .i64 c.2.1, .int .i64 c.2.2] rfl (fun u hu => by simp at hu; rcases hu with rfl | rfl | rfl <;> rfl) (by unfold maxLen; omega) (by omega) ty had
  obtain ⟨o', c', rfl⟩ := A.shape
  have hW : Below w.heap.size w (w.alloc (.cells #[.int .i64 c.1, .int .i64 c.2.1, .int .i64 c.2.2] 96)) := (al1 w _).1
  have hWs : (w.alloc (.cells #[.int .i64 c.1, .int .i64 c.2.1, .int .i64 c.2.2] 96)).heap.size = w.heap.size + 1 := by simp
  obtain ⟨own', k1, k2, k3, k4, k5⟩ := grow_own h.ms.mr hW A (3, t + 1) (show (3 : Nat) ≠ 0 by decide) ro
  have hs : ∀ b, b < w.heap.size → L.own b ≠ some (3, t + 1) → w1.heap[b]? = w.heap[b]? := fun b hb hn => (A.grown.block b (by omega) (fun e => hn (ro b e.symm))).trans (hW.block b hb)
  have hog : L.own g = some (3, 0) := h.ms.mr.th.orow g (by rw [hg]; rfl)
  have hgl := (h.ms.mr.olt g (by rw [hog]; simp)).2
  have hil : ib < w.heap.size := (Array.getElem?_eq_some_iff.1 h.kb).1
  have e1 : (th.calls ++ [c]).length = th.calls.length + 1 := by simp
  have hgs := hs g hgl (by rw [hog]; simp)
  obtain ⟨cu, hcu⟩ := own_heap h.ms.mr.th.row (b := g) (by rw [hg]; rfl)
  obtain ⟨L', e, hm, kf⟩ := h.ms.mr.setCalls (w1 := w1) ht hr hg (cs := th.calls ++ [c]) (o' := o') (c' := c') (by
    rw [e1, List.map_append, List.flatten_append]
    exact A.row) (fun b hb hn => hs b (h.ms.mr.olt b hb).2 hn) (fun b hb hn => hs b hb (by rw [hn]; simp)) (Nat.le_trans hW.size A.grown.size) ⟨A.grown.os.trans hW.os, A.grown.tape.trans hW.tape, A.grown.output.trans hW.output⟩ k1 k2 k3 k4 (fun b hb => k5 b (own_len hb))
  rw [e1] at hm kf
  have hz := A.grown.size
  exact ⟨_, w1, hr1, o', c', rfl, hgs, hs ib hil (by rw [h.ko]; simp), by omega, fun o => frozen_of_row w1 g o _ 41 (hgs.trans hcu), L', e, h.next hm kf (h.ms.ok.push ht hc (h3.1) rfl hN), kf⟩
theorem slotR_in {fr : Int} {k y : Int} (h : slotR fr t k = (y, true)) (hf : stk t ≤ fr ∧ fr < stk (t + 1)) : stk t ≤ y ∧ y < stk (t + 1) := by
  unfold slotR at h
  split at h
  · cases h
  · split at h
    · cases h
    · simp at h
      omega
set_option maxRecDepth 100000 in
set_option maxHeartbeats 2000000 in
theorem ctl_call (h : MS base mb co cc code N w L m) (ht : m.ths[t]? = some th) (hx : x.ok) (hop : x.op = 8) (hN : N + 1 ≤ 1000000) : Calls Try.prog 35 #[.pointer (some ⟨mb, 0, none⟩), .int .i64 t, .agg (miC x)] w (MSP base mb co cc code (N + 1) w L (m.caM t th x x.a)) := by
  obtain ⟨M0, K0⟩ := MX.start h x
  have M0 : Hid (MX base mb co cc code N w.heap.size x (w.alloc (.cells #[.int .i64 x.op, .int .i64 x.a, .int .i64 x.b, .int .i64 x.c, .int .i64 x.d, .int .i64 x.e] 72)) L m) := M0
  have FIN : Hid (∀ w' L' m', m' = m.caM t th x x.a → MX base mb co cc code (N + 1) w.heap.size x w' L' m' → Kf L L' (w.alloc (.cells #[.int .i64 x.op, .int .i64 x.a, .int .i64 x.b, .int .i64 x.c, .int .i64 x.d, .int .i64 x.e] 72)) w' → MSP base mb co cc code (N + 1) w L (m.caM t th x x.a) (.returned (.tuple #[])) w') := fun w' L' m' e hm hk => ⟨rfl, L', e ▸ hm.ms, Kf.trans K0 hk⟩
  have HT : Hid (m.ths[t]? = some th) := ht
  have HX : Hid x.ok := hx
  have HM64 : Hid (∀ a, I64 (m.mem a)) := h.ok.mem
  have HS : Hid (MS base mb co cc code N w L m) := h
  have HOP : Hid (x.op = 8) := hop
  show Calls Try.prog 35 #[.pointer (some ⟨mb, 0, none⟩), .int .i64 t, .agg #[.int .i64 x.op, .int .i64 x.a, .int .i64 x.b, .int .i64 x.c, .int .i64 x.d, .int .i64 x.e]] w _
  clear h K0 ht hx hop
  go_enter Try.func35, Try.ntmps35
  go_upto_region 1 with fail
  obtain ⟨ib, hib⟩ : ∃ ib, ib = w.heap.size := ⟨_, rfl⟩
  rw [← hib] at M0 FIN ⊢
  generalize w.alloc (.cells #[.int .i64 x.op, .int .i64 x.a, .int .i64 x.b, .int .i64 x.c, .int .i64 x.d, .int .i64 x.e] 72) = wa at *
  obtain ⟨i0, i1, i2, i3, i4, i5, il⟩ := M0.out.cells
  clear hib
  have hop := HOP.out
  have HFR : Hid ((stk t ≤ th.frame ∧ th.frame < stk (t + 1)) ∧ I64 th.pc) := ⟨HS.out.mr.th.fr t th HT.out, (HS.out.ok.th t th HT.out).1⟩
  obtain ⟨g, hg, u3, ug, um, ui, v0, v1, v3, v4', v5, uf⟩ := M0.out.thr HT.out
  have ui0 : (0 : Int) ≤ (t : Int) := by omega
  rcases slot_cases (m.fr t) t x.b with ⟨y, hy⟩ | ⟨y, hy⟩
  · have R1 : Calls Try.prog 32 #[.pointer (some ⟨mb, 0, none⟩), .int .i64 t, .int .i64 x.b] wa (fun e w' => e = .returned (.tuple #[.int .i64 y, .bool true]) ∧ w' = wa) := slot_yes M0.out.ms.mr HT.out HX.out.2.2.1 (by rw [← fr_eq HT.out]; exact hy)
    have HW : Hid (m.setT t { th with calls := th.calls ++ [(th.pc, x.e, th.frame)], frame := y, pc := x.a } = m.caM t th x x.a) := by show _ = _; unfold Mc.caM; rw [hy]
    have HYB : Hid (stk t ≤ y ∧ y < stk (t + 1)) := by
      have h9 := hy
      rw [fr_eq HT.out] at h9
      exact slotR_in h9 HFR.out.1
    obtain ⟨r, hr, v2⟩ := M0.out.callsAt HT.out hg
    have AP : Hid (∀ ty, ∃ v' w1, (Builtin.append_ #[39, 39] ty #[.slice r.o th.calls.length r.c, .slice (some ⟨wa.heap.size, 0, none⟩) 1 1]).run Try.prog (wa.drew.alloc (.cells #[.int .i64 th.pc, .int .i64 x.e, .int .i64 th.frame] 96)) = .ok v' w1 ∧ ∃ o' c', v' = .slice o' (th.calls.length + 1) c' ∧ w1.heap[g]? = wa.drew.heap[g]? ∧ w1.heap[ib]? = wa.drew.heap[ib]? ∧ g < w1.heap.size ∧ (∀ o, w1.frozen? ⟨g, o, none⟩ = false) ∧ ∃ L', L'.to_ = L.to_ ∧ MX base mb co cc code (N + 1) ib x (w1.setCell ⟨g, t * 6 + 2, none⟩ (.slice o' (th.calls.length + 1) c')) L' (m.setT t { th with calls := th.calls ++ [(th.pc, x.e, th.frame)] }) ∧ Kf L L' wa.drew (w1.setCell ⟨g, t * 6 + 2, none⟩ (.slice o' (th.calls.length + 1) c'))) := fun ty => run_push M0.out.drew HT.out hg hr (c := (th.pc, x.e, th.frame)) ⟨HFR.out.2, HX.out.2.2.2.2.2, HFR.out.1⟩ hN ty rfl
    have HG : Hid (L.to_ = some ⟨g, 0, none⟩) := hg
    have SS0 : (fun W => W.cell? ⟨g, t * 6, none⟩ = some (.int .i64 th.pc) ∧ W.cell? ⟨g, t * 6 + 1, none⟩ = some (.int .i64 th.frame) ∧ W.cell? ⟨ib, 5, none⟩ = some (.int .i64 x.e)) wa.drew := ⟨v0, v1, i5⟩
    have SS1 : (fun W => W.cell? ⟨g, t * 6, none⟩ = some (.int .i64 th.pc) ∧ W.cell? ⟨g, t * 6 + 1, none⟩ = some (.int .i64 th.frame) ∧ W.cell? ⟨ib, 5, none⟩ = some (.int .i64 x.e)) (wa.drew.alloc (.cells #[.int .i64 th.pc, .int .i64 x.e, .int .i64 th.frame] 96)) := ⟨((al1 wa.drew _).1.cell (p := ⟨g, t * 6, none⟩) ug).trans v0, ((al1 wa.drew _).1.cell (p := ⟨g, t * 6 + 1, none⟩) ug).trans v1, ((al1 wa.drew _).1.cell (p := ⟨ib, 5, none⟩) il).trans i5⟩
    have SSX : Hid (∀ w8 : World, w8.heap[g]? = wa.drew.heap[g]? → w8.heap[ib]? = wa.drew.heap[ib]? → (fun W => W.cell? ⟨g, t * 6, none⟩ = some (.int .i64 th.pc) ∧ W.cell? ⟨g, t * 6 + 1, none⟩ = some (.int .i64 th.frame) ∧ W.cell? ⟨ib, 5, none⟩ = some (.int .i64 x.e)) w8) := fun w8 h1 h2 => ⟨(World.cell?_of_block (a := ⟨g, t * 6, none⟩) h1).trans v0, (World.cell?_of_block (a := ⟨g, t * 6 + 1, none⟩) h1).trans v1, (World.cell?_of_block (a := ⟨ib, 5, none⟩) h2).trans i5⟩
    have SSZ : Hid (∀ w8 : World, w8.heap[g]? = wa.drew.heap[g]? → w8.cell? ⟨g, t * 6 + 2, none⟩ = some (.slice r.o th.calls.length r.c)) := fun w8 h1 => (World.cell?_of_block (a := ⟨g, t * 6 + 2, none⟩) h1).trans v2
    have nig : ib ≠ g := (M0.out.own HT.out hg).2.1
    have SSY : Hid (∀ (w8 : World) (u : Value), w8.heap[g]? = wa.drew.heap[g]? → w8.heap[ib]? = wa.drew.heap[ib]? → (fun W => W.cell? ⟨g, t * 6, none⟩ = some (.int .i64 th.pc) ∧ W.cell? ⟨g, t * 6 + 1, none⟩ = some (.int .i64 th.frame) ∧ W.cell? ⟨ib, 5, none⟩ = some (.int .i64 x.e)) (w8.setCell ⟨g, t * 6 + 2, none⟩ u)) := fun w8 u h1 h2 => by
      obtain ⟨a1, a2, a3⟩ := SSX.out w8 h1 h2
      exact ⟨(World.cell?_setCell_other w8 ⟨g, t * 6 + 2, none⟩ ⟨g, t * 6, none⟩ u (by simp)).trans a1, (World.cell?_setCell_other w8 ⟨g, t * 6 + 2, none⟩ ⟨g, t * 6 + 1, none⟩ u (by simp)).trans a2, (World.cell?_setCell_other w8 ⟨g, t * 6 + 2, none⟩ ⟨ib, 5, none⟩ u (by simp)).trans a3⟩
    clear hy hr hg
    go_upto_region 12 with (go_at_call 32; refine R1.mono ?_; rintro e wx ⟨rfl, hwx⟩; replace hwx := hwx.symm; subst hwx)
    refine wp_region_noPanic ?_
    refine wp_region_held_drew (S := fun W => W.cell? ⟨g, t * 6, none⟩ = some (.int .i64 th.pc) ∧ W.cell? ⟨g, t * 6 + 1, none⟩ = some (.int .i64 th.frame) ∧ W.cell? ⟨ib, 5, none⟩ = some (.int .i64 x.e)) (by as_aux_lemma => kernel_rfl) SS0 (fun hHeld => ?_)
    refine rtk 0 ?_
    refine rtk 1 ?_
    refine rtk 2 ?_
    refine rtk 3 ?_
    refine rtk 5 ?_
    refine rtk 6 ?_
    refine rtk 7 ?_
    refine rtk 8 ?_
    refine rtk 9 ?_
    refine rtk 10 ?_
    refine rtk 11 ?_
    refine rtk 12 ?_
    refine rtk 13 ?_
    refine rtk 14 ?_
    refine rtk 15 ?_
    refine rr2 4 16 (fun K hK => ?_) (fun K hK => ?_)
    · go_simp
      refine rgo hK ?_ (hS := by first | exact SS0 | exact SS1 | exact SS2 | exact SS3)
      clear hK K hHeld
      intro hHeld
      refine rr1 16 (fun K hK => ?_)
      go_simp
      refine rgo hK ?_ (hS := by first | exact SS0 | exact SS1 | exact SS2 | exact SS3)
      clear hK K hHeld
      intro hHeld
      refine rr1 17 (fun K hK => ?_)
      (refine step_runG 39 (by rfl) (by rfl) (by rfl) (by rfl) (AP.out _) ?_; rintro v8 w8 ⟨o8, c8, rfl, hq1, hq2, hq3, hq4, L8, e8, M8, K8⟩; have SS2 := SSX.out _ hq1 hq2; have SS3 := SSY.out _ (.slice o8 (th.calls.length + 1) c8) hq1 hq2; have c82 : w8.cell? ⟨g, t * 6 + 2, none⟩ = some (.slice r.o th.calls.length r.c) := SSZ.out _ hq1; replace M8 : Hid _ := M8; replace K8 : Hid _ := K8; replace e8 : Hid _ := e8; clear hq1 hq2)
      refine rgo hK ?_ (hS := by first | exact SS0 | exact SS1 | exact SS2 | exact SS3)
      clear hK K hHeld
      intro hHeld
      refine rtk 18 ?_
      refine rtk 19 ?_
      refine rr1 20 (fun K hK => ?_)
      go_simp
      refine rgo hK ?_ (hS := by first | exact SS0 | exact SS1 | exact SS2 | exact SS3)
      clear hK K hHeld
      intro hHeld
      refine wpAnyH_done (by as_aux_lemma => kernel_rfl) ?_ _
      refine NoPanic.normal ?_
      have hg8 := e8.out.trans HG.out
      have S1 := setT_x M8.out (setT_at HT.out) hg8 (o := 1) (u := .int .i64 y) (th' := { th with calls := th.calls ++ [(th.pc, x.e, th.frame)], frame := y }) (by decide) rfl (fun r => rfl) HYB.out HFR.out.2
      have S2 := setT_x S1.1 (setT_at (setT_at HT.out)) hg8 (o := 0) (u := .int .i64 x.a) (th' := { th with calls := th.calls ++ [(th.pc, x.e, th.frame)], frame := y, pc := x.a }) (by decide) rfl (fun r => rfl) HYB.out HX.out.2.1
      rw [Nat.add_zero] at S2
      have K9 := ((Kf.refl L wa).drewN 1).trans (K8.out.trans (S1.2.trans S2.2))
      have M9 := S2.1
      rw [setT_set, setT_set] at M9
      replace M9 : Hid _ := M9
      replace K9 : Hid _ := K9
      obtain ⟨s1, s2, s3⟩ := SS3
      clear S1 S2 hg8 SS0 SS1 SS2
      go_wp2_with fail
      go_end0
      exact FIN.out _ _ _ HW.out M9.out K9.out
    · go_simp
      refine rgo hK ?_ (hS := by first | exact SS0 | exact SS1 | exact SS2 | exact SS3)
      clear hK K hHeld
      intro hHeld
      refine rr1 4 (fun K hK => ?_)
      go_simp
      refine rgo hK ?_ (hS := by first | exact SS0 | exact SS1 | exact SS2 | exact SS3)
      clear hK K hHeld
      intro hHeld
      refine rr1 17 (fun K hK => ?_)
      (refine step_runG 39 (by rfl) (by rfl) (by rfl) (by rfl) (AP.out _) ?_; rintro v8 w8 ⟨o8, c8, rfl, hq1, hq2, hq3, hq4, L8, e8, M8, K8⟩; have SS2 := SSX.out _ hq1 hq2; have SS3 := SSY.out _ (.slice o8 (th.calls.length + 1) c8) hq1 hq2; have c82 : w8.cell? ⟨g, t * 6 + 2, none⟩ = some (.slice r.o th.calls.length r.c) := SSZ.out _ hq1; replace M8 : Hid _ := M8; replace K8 : Hid _ := K8; replace e8 : Hid _ := e8; clear hq1 hq2)
      refine rgo hK ?_ (hS := by first | exact SS0 | exact SS1 | exact SS2 | exact SS3)
      clear hK K hHeld
      intro hHeld
      refine rtk 18 ?_
      refine rtk 19 ?_
      refine rr1 20 (fun K hK => ?_)
      go_simp
      refine rgo hK ?_ (hS := by first | exact SS0 | exact SS1 | exact SS2 | exact SS3)
      clear hK K hHeld
      intro hHeld
      refine wpAnyH_done (by as_aux_lemma => kernel_rfl) ?_ _
      refine NoPanic.normal ?_
      have hg8 := e8.out.trans HG.out
      have S1 := setT_x M8.out (setT_at HT.out) hg8 (o := 1) (u := .int .i64 y) (th' := { th with calls := th.calls ++ [(th.pc, x.e, th.frame)], frame := y }) (by decide) rfl (fun r => rfl) HYB.out HFR.out.2
      have S2 := setT_x S1.1 (setT_at (setT_at HT.out)) hg8 (o := 0) (u := .int .i64 x.a) (th' := { th with calls := th.calls ++ [(th.pc, x.e, th.frame)], frame := y, pc := x.a }) (by decide) rfl (fun r => rfl) HYB.out HX.out.2.1
      rw [Nat.add_zero] at S2
      have K9 := ((Kf.refl L wa).drewN 1).trans (K8.out.trans (S1.2.trans S2.2))
      have M9 := S2.1
      rw [setT_set, setT_set] at M9
      replace M9 : Hid _ := M9
      replace K9 : Hid _ := K9
      obtain ⟨s1, s2, s3⟩ := SS3
      clear S1 S2 hg8 SS0 SS1 SS2
      go_wp2_with fail
      go_end0
      exact FIN.out _ _ _ HW.out M9.out K9.out
  · have HW : Hid (m.fin y = m.caM t th x x.a) := by show _ = _; unfold Mc.caM; rw [hy]
    have HY : Hid (slotR (m.fr t) t x.b = (y, false)) := hy
    clear hy hg
    go_wp2_with (go_at_call 32; refine (sl_no M0.out HT.out HX.out.2.2.1 HY.out).mono ?_; rintro e w1 ⟨rfl, L1, M1, K1⟩; replace M1 : Hid _ := M1)
    go_end0
    exact FIN.out _ _ _ HW.out (M1.out.next M1.out.ms.mr (Kf.refl _ _) (M1.out.ms.ok.up (Nat.le_succ N) hN)) K1
end
end Go.Proofs.Ytflifialjdhenaa
