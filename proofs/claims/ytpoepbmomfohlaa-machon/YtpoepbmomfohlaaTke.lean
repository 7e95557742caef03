/- Steps through a region that draws, short. -/
import Derived.Deep.RegionHeld3
import Derived.Test.YtpoepbmomfohlaaMcv
namespace Go.Proofs.Ytpoepbmomfohlaa
open Go.RowKit
set_option linter.all false
section
variable {P : Program} {md : Region.Mode} {ops : Array Oper} {Q : Exit → Act → World → Prop} {S : World → Prop} {fuel : Nat} {listed ls : Array Bool} {a b : Act} {w : World} {oi oj : Oper}
theorem rtk (i : Nat) {v : Value} (h : wpAnyH P md ops Q S fuel ls b w) (hi : ops[i]? = some oi := by simp only [List.getElem?_toArray, List.getElem?_cons_succ, List.getElem?_cons_zero]; rfl) (hs : Region.noSelect ops = true := by as_aux_lemma => kernel_rfl) (hf : Region.free md ops listed i = true := by as_aux_lemma => kernel_rfl) (hr : (Region.ready md ops listed).contains i = true := by as_aux_lemma => kernel_rfl) (hQ : ∀ c a w, Q (.panic c) (a.put oi.dst v) w → Q (.panic c) a w := by exact fun _ _ _ h => h) (hw : Region.wanted oi (yielded ops a.tmps) = true := by rfl) (hy : ∀ w, S w → (execOp a.eval oi).run P w = .ok (.value v) w := by (intro w hSw; (try dsimp only at hSw); go_simp <;> with_reducible rfl)) (hl : listed.setIfInBounds i true = ls := by first | (simp only [List.setIfInBounds_toArray, List.set_cons_zero, List.set_cons_succ]; rfl) | rfl) (hb : a.put oi.dst v = b := by first | (simp only [Act.put, List.setIfInBounds_toArray, List.set_cons_zero, List.set_cons_succ]; rfl) | rfl) (hS : S w := by assumption) : wpAnyH P md ops Q S (fuel + 1) listed a w := by
  subst hl hb
  exact wpAnyH_take hi hs hf hr hQ (Or.inl ⟨hw, hy⟩) hS h
theorem rr1 (i : Nat) (h : ∀ K : Act → World → Prop, Shut (∀ a w, S w → (S w → wpAnyH P md ops Q S fuel (listed.setIfInBounds i true) a w) → K a w) → if Region.wanted oi (yielded ops a.tmps) = true then Oper.wp P oi a w K Q else K (a.put oi.dst undef) w) (hi : ops[i]? = some oi := by simp only [List.getElem?_toArray, List.getElem?_cons_succ, List.getElem?_cons_zero]; rfl) (hr : Region.ready md ops listed = [i] := by as_aux_lemma => kernel_rfl) : wpAnyH P md ops Q S (fuel + 1) listed a w := wpAnyH_ready hr (by simp) (AllReadyH.cons hi h AllReadyH.nil)
theorem rr2 (i j : Nat) (h : ∀ K : Act → World → Prop, Shut (∀ a w, S w → (S w → wpAnyH P md ops Q S fuel (listed.setIfInBounds i true) a w) → K a w) → if Region.wanted oi (yielded ops a.tmps) = true then Oper.wp P oi a w K Q else K (a.put oi.dst undef) w) (h' : ∀ K : Act → World → Prop, Shut (∀ a w, S w → (S w → wpAnyH P md ops Q S fuel (listed.setIfInBounds j true) a w) → K a w) → if Region.wanted oj (yielded ops a.tmps) = true then Oper.wp P oj a w K Q else K (a.put oj.dst undef) w) (hi : ops[i]? = some oi := by simp only [List.getElem?_toArray, List.getElem?_cons_succ, List.getElem?_cons_zero]; rfl) (hj : ops[j]? = some oj := by simp only [List.getElem?_toArray, List.getElem?_cons_succ, List.getElem?_cons_zero]; rfl) (hr : Region.ready md ops listed = [i, j] := by as_aux_lemma => kernel_rfl) : wpAnyH P md ops Q S (fuel + 1) listed a w := wpAnyH_ready hr (by simp) (AllReadyH.cons hi h (AllReadyH.cons hj h' AllReadyH.nil))
theorem rgo {K : Act → World → Prop} (hK : Shut (∀ a w, S w → (S w → wpAnyH P md ops Q S fuel listed a w) → K a w)) (h : S w → wpAnyH P md ops Q S fuel ls b w) (hl : listed = ls := by first | (simp only [List.setIfInBounds_toArray, List.set_cons_zero, List.set_cons_succ]; rfl) | rfl) (hb : a = b := by first | (simp only [Act.put, List.setIfInBounds_toArray, List.set_cons_zero, List.set_cons_succ]; rfl) | rfl) (hS : S w := by first | trivial | ((try dsimp only); first | assumption | exact KB.out ((Below.refl _ _).drew) | exact KB.out ((al1 _ _).1.drew) | exact KS10 | exact KS11 | exact KB29.out | exact hS12 | exact hS13)) : K a w := by
  subst hl hb
  exact hK.out _ _ hS h
end
end Go.Proofs.Ytpoepbmomfohlaa
namespace Go.Proofs.Ytpoepbmomfohlaa
open Go.RowKit
set_option linter.all false
def Mc.caM (m : Mc) (t : Nat) (th : Th) (x : Mi) (to_ : Int) : Mc := match slotR (m.fr t) t x.b with
  | (y, true) => m.setT t { th with calls := th.calls ++ [(th.pc, x.e, th.frame)], frame := y, pc := to_ }
  | (y, false) => m.fin y
section
variable {base mb : Nat} {co : Option Addr} {cc : Nat} {code : List Mi} {N ib : Nat} {x : Mi} {w w' : World} {L L' : Ly} {m m' : Mc} {t : Nat} {th th' : Th}
theorem OKM.push (h : OKM N m) (ht : m.ths[t]? = some th) {c : Int × Int × Int} (hc : I64 c.1 ∧ I64 c.2.1 ∧ stk t ≤ c.2.2 ∧ c.2.2 < stk (t + 1)) (hp : I64 th'.pc) (hcs : th'.calls = th.calls ++ [c]) (hN : N + 1 ≤ 1000000) : OKM (N + 1) (m.setT t th') := ⟨h.mem, fun i y hy => by
  have hx2 : (m.ths.set t th')[i]? = some y := hy
  by_cases hi : i = t
  · subst hi
    rw [List.getElem?_set_self (List.getElem?_eq_some_iff.1 ht).1] at hx2
    obtain rfl := Option.some.inj hx2
    have h3 := h.th i th ht
    rw [hcs]
    refine ⟨hp, by simp; omega, fun q hq => ?_⟩
    rcases List.mem_append.1 hq with hq | hq
    · exact h3.2.2 q hq
    · simp at hq
      subst hq
      exact hc
  · rw [List.getElem?_set_ne (Ne.symm hi)] at hx2
    exact ⟨(h.th i y hx2).1, Nat.le_succ_of_le (h.th i y hx2).2.1, (h.th i y hx2).2.2⟩, Nat.le_succ_of_le h.outs, Nat.le_succ_of_le h.order, ⟨h.steps.1, by have := h.steps.2; show m.steps ≤ _; omega⟩, hN⟩
theorem slotR_in {fr : Int} {k y : Int} (h : slotR fr t k = (y, true)) (hf : stk t ≤ fr ∧ fr < stk (t + 1)) : stk t ≤ y ∧ y < stk (t + 1) := by
  unfold slotR at h
  split at h
  · cases h
  · split at h
    · cases h
    · simp at h
      omega
end
end Go.Proofs.Ytpoepbmomfohlaa
namespace Go.Proofs.Ytpoepbmomfohlaa
open Go.RowKit
set_option linter.all false
def Mc.catM (m : Mc) (t : Nat) (th : Th) (x : Mi) : Mc := match m.rd t x.a with
  | (none, m1) => m1
  | (some n, _) => m.caM t th x n
section
variable {base mb : Nat} {co : Option Addr} {cc : Nat} {code : List Mi} {N ib : Nat} {x : Mi} {w w' : World} {L L' : Ly} {m m' : Mc} {t : Nat} {th th' : Th}
end
end Go.Proofs.Ytpoepbmomfohlaa
namespace Go.Proofs.Ytpoepbmomfohlaa
open Go.RowKit
set_option linter.all false
def Th.new (pc fr : Int) : Th := ⟨pc, fr, [], false, false, false⟩
def thN (pc fr : Int) : Array Value := #[.int .i64 pc, .int .i64 fr, .slice none 0 0, .bool false, .bool false, .bool false]
section
variable {w w1 : World} {base mb : Nat} {cv : Value} {L : Ly} {m : Mc}
end
section
variable {base mb : Nat} {co : Option Addr} {cc : Nat} {code : List Mi} {N ib : Nat} {x : Mi} {w w' : World} {L L' : Ly} {m m' : Mc} {t : Nat} {th th' : Th}
theorem OKM.spawn (h : OKM N m) {pc fr : Int} (hp : I64 pc) : OKM N { m with ths := m.ths ++ [Th.new pc fr] } := ⟨h.mem, fun i y hy => by
  have hy2 : (m.ths ++ [Th.new pc fr])[i]? = some y := hy
  by_cases hi : i < m.ths.length
  · rw [List.getElem?_append_left hi] at hy2
    exact h.th i y hy2
  · rw [List.getElem?_append_right (by omega)] at hy2
    have := (List.getElem?_eq_some_iff.1 hy2).1
    simp at this
    have e : i - m.ths.length = 0 := by omega
    rw [e] at hy2
    simp at hy2
    subst hy2
    exact ⟨hp, Nat.zero_le _, fun c hc => by simp [Th.new] at hc⟩, h.outs, h.order, h.steps, h.big⟩
end
end Go.Proofs.Ytpoepbmomfohlaa
