/- The model: a shorter run is the beginning of a longer one. -/
import Derived.Test.YtpoepbmomfohlaaPob
namespace Go.Proofs.Ytpoepbmomfohlaa
open Go.RowKit
set_option linter.all false
section
variable {m m' : Mc} {t : Nat} {th th' : Th}
theorem fin_order (m : Mc) (k : Int) : (m.fin k).order = m.order := by unfold Mc.fin; split <;> rfl
theorem wr_order (m : Mc) (t : Nat) (k n : Int) : (m.wr t k n).1.order = m.order := by unfold Mc.wr; split; rfl; exact fin_order _ _
theorem goto_order (m : Mc) (t : Nat) (k : Int) : (m.goto t k).order = m.order := by unfold Mc.goto; split <;> rfl
theorem rd_order {m m1 : Mc} {t : Nat} {k : Int} (h : m.rd t k = (none, m1)) : m1.order = m.order := by
  unfold Mc.rd at h
  split at h
  · simp at h
  · have := (Prod.mk.inj h).2
    rw [← this]
    exact fin_order _ _
theorem op2_order (m : Mc) (t : Nat) (x : Mi) (a c : Int) : (m.op2 t x a c).order = m.order := by
  unfold Mc.op2
  split
  · exact fin_order _ _
  · split
    · exact wr_order _ _ _ _
    · exact goto_order _ _ _
theorem caM_order (m : Mc) (t : Nat) (th : Th) (x : Mi) (a : Int) : (m.caM t th x a).order = m.order := by
  unfold Mc.caM
  split
  · rfl
  · exact fin_order _ _
theorem exec_order (m : Mc) (t : Nat) (th : Th) (x : Mi) : (m.exec t th x).order = m.order := by
  by_cases h : x.op < 0 ∨ 19 < x.op
  · rw [ex_bad h, fin_order]
  · have hh : x.op = 0 ∨ x.op = 1 ∨ x.op = 2 ∨ x.op = 3 ∨ x.op = 4 ∨ x.op = 5 ∨ x.op = 6 ∨ x.op = 7 ∨ x.op = 8 ∨ x.op = 9 ∨ x.op = 10 ∨ x.op = 11 ∨ x.op = 12 ∨ x.op = 13 ∨ x.op = 14 ∨ x.op = 15 ∨ x.op = 16 ∨ x.op = 17 ∨ x.op = 18 ∨ x.op = 19 := by omega
    rcases hh with h | h | h | h | h | h | h | h | h | h | h | h | h | h | h | h | h | h | h | h
    · rw [ex_0 h, wr_order]
    · rw [ex_1 h]
      split
      · exact rd_order ‹_›
      · exact wr_order _ _ _ _
    · rw [ex_2 h]
      split
      · exact wr_order _ _ _ _
      · exact fin_order _ _
    · rw [ex_3 h]
      unfold Mc.ldM
      split
      · exact rd_order ‹_›
      · split
        · exact wr_order _ _ _ _
        · exact fin_order _ _
    · rw [ex_4 h]
      unfold Mc.stM
      split
      · exact rd_order ‹_›
      · split
        · exact rd_order ‹_›
        · split
          · rfl
          · exact fin_order _ _
    · rw [ex_5 h]
      unfold Mc.opM
      split
      · exact rd_order ‹_›
      · split
        · exact op2_order _ _ _ _ _
        · split
          · exact rd_order ‹_›
          · exact op2_order _ _ _ _ _
    · rw [ex_6 h, goto_order]
    · rw [ex_7 h]
      split
      · exact rd_order ‹_›
      · split
        · exact goto_order _ _ _
        · rfl
    · rw [ex_8 h, caM_order]
    · rw [ex_9 h]
      unfold Mc.catM
      split
      · exact rd_order ‹_›
      · exact caM_order _ _ _ _ _
    · rw [ex_10 h]
      unfold Mc.reM
      split
      · exact fin_order _ _
      · rfl
    · rw [ex_11 h]
      unfold Mc.paM
      split <;> rfl
    · rw [ex_12 h]
      unfold Mc.reM
      split
      · exact fin_order _ _
      · rfl
    · rw [ex_13 h]
      unfold Mc.alM
      split
      · exact rd_order ‹_›
      · split
        · exact fin_order _ _
        · split
          · exact fin_order _ _
          · exact wr_order _ _ _ _
    · rw [ex_14 h]
      unfold Mc.frM
      split
      · exact rd_order ‹_›
      · split
        · exact fin_order _ _
        · rfl
    · rw [ex_15 h]
      unfold Mc.swM
      split
      · exact rd_order ‹_›
      · split
        · exact fin_order _ _
        · rfl
    · rw [ex_16 h]
    · rw [ex_17 h]
      unfold Mc.waM
      split
      · exact rd_order ‹_›
      · split
        · rfl
        · exact fin_order _ _
    · rw [ex_18 h]
      unfold Mc.ouM
      split
      · exact rd_order ‹_›
      · rfl
    · rw [ex_19 h]
      unfold Mc.spM
      split
      · split
        · exact rd_order ‹_›
        · rfl
      · split <;> rfl
theorem fin_outs (m : Mc) (k : Int) : (m.fin k).outs = m.outs := by unfold Mc.fin; split <;> rfl
theorem wr_outs (m : Mc) (t : Nat) (k n : Int) : (m.wr t k n).1.outs = m.outs := by unfold Mc.wr; split; rfl; exact fin_outs _ _
theorem goto_outs (m : Mc) (t : Nat) (k : Int) : (m.goto t k).outs = m.outs := by unfold Mc.goto; split <;> rfl
theorem rd_outs {m m1 : Mc} {t : Nat} {k : Int} (h : m.rd t k = (none, m1)) : m1.outs = m.outs := by
  unfold Mc.rd at h
  split at h
  · simp at h
  · have := (Prod.mk.inj h).2
    rw [← this]
    exact fin_outs _ _
theorem op2_outs (m : Mc) (t : Nat) (x : Mi) (a c : Int) : (m.op2 t x a c).outs = m.outs := by
  unfold Mc.op2
  split
  · exact fin_outs _ _
  · split
    · exact wr_outs _ _ _ _
    · exact goto_outs _ _ _
theorem caM_outs (m : Mc) (t : Nat) (th : Th) (x : Mi) (a : Int) : (m.caM t th x a).outs = m.outs := by
  unfold Mc.caM
  split
  · rfl
  · exact fin_outs _ _
theorem exec_outs (m : Mc) (t : Nat) (th : Th) (x : Mi) (hne : x.op ≠ 18) : (m.exec t th x).outs = m.outs := by
  by_cases h : x.op < 0 ∨ 19 < x.op
  · rw [ex_bad h, fin_outs]
  · have hh : x.op = 0 ∨ x.op = 1 ∨ x.op = 2 ∨ x.op = 3 ∨ x.op = 4 ∨ x.op = 5 ∨ x.op = 6 ∨ x.op = 7 ∨ x.op = 8 ∨ x.op = 9 ∨ x.op = 10 ∨ x.op = 11 ∨ x.op = 12 ∨ x.op = 13 ∨ x.op = 14 ∨ x.op = 15 ∨ x.op = 16 ∨ x.op = 17 ∨ x.op = 18 ∨ x.op = 19 := by omega
    rcases hh with h | h | h | h | h | h | h | h | h | h | h | h | h | h | h | h | h | h | h | h
    · rw [ex_0 h, wr_outs]
    · rw [ex_1 h]
      split
      · exact rd_outs ‹_›
      · exact wr_outs _ _ _ _
    · rw [ex_2 h]
      split
      · exact wr_outs _ _ _ _
      · exact fin_outs _ _
    · rw [ex_3 h]
      unfold Mc.ldM
      split
      · exact rd_outs ‹_›
      · split
        · exact wr_outs _ _ _ _
        · exact fin_outs _ _
    · rw [ex_4 h]
      unfold Mc.stM
      split
      · exact rd_outs ‹_›
      · split
        · exact rd_outs ‹_›
        · split
          · rfl
          · exact fin_outs _ _
    · rw [ex_5 h]
      unfold Mc.opM
      split
      · exact rd_outs ‹_›
      · split
        · exact op2_outs _ _ _ _ _
        · split
          · exact rd_outs ‹_›
          · exact op2_outs _ _ _ _ _
    · rw [ex_6 h, goto_outs]
    · rw [ex_7 h]
      split
      · exact rd_outs ‹_›
      · split
        · exact goto_outs _ _ _
        · rfl
    · rw [ex_8 h, caM_outs]
    · rw [ex_9 h]
      unfold Mc.catM
      split
      · exact rd_outs ‹_›
      · exact caM_outs _ _ _ _ _
    · rw [ex_10 h]
      unfold Mc.reM
      split
      · exact fin_outs _ _
      · rfl
    · rw [ex_11 h]
      unfold Mc.paM
      split <;> rfl
    · rw [ex_12 h]
      unfold Mc.reM
      split
      · exact fin_outs _ _
      · rfl
    · rw [ex_13 h]
      unfold Mc.alM
      split
      · exact rd_outs ‹_›
      · split
        · exact fin_outs _ _
        · split
          · exact fin_outs _ _
          · exact wr_outs _ _ _ _
    · rw [ex_14 h]
      unfold Mc.frM
      split
      · exact rd_outs ‹_›
      · split
        · exact fin_outs _ _
        · rfl
    · rw [ex_15 h]
      unfold Mc.swM
      split
      · exact rd_outs ‹_›
      · split
        · exact fin_outs _ _
        · rfl
    · rw [ex_16 h]
    · rw [ex_17 h]
      unfold Mc.waM
      split
      · exact rd_outs ‹_›
      · split
        · rfl
        · exact fin_outs _ _
    · exact absurd h hne
    · rw [ex_19 h]
      unfold Mc.spM
      split
      · split
        · exact rd_outs ‹_›
        · rfl
      · split <;> rfl
theorem exec_pre (m : Mc) (t : Nat) (th : Th) (x : Mi) : m.outs <+: (m.exec t th x).outs := by
  by_cases h : x.op = 18
  · rw [ex_18 h]
    unfold Mc.ouM
    split
    · rename_i heq
      rw [rd_outs heq]
      exact List.prefix_refl _
    · exact List.prefix_append _ _
  · rw [exec_outs m t th x h]
    exact List.prefix_refl _
theorem stepX_pre (m : Mc) (code : List Mi) (t : Nat) (th : Th) : m.outs <+: (m.stepX code t th).outs ∧ (m.stepX code t th).order = m.order := by
  unfold Mc.stepX
  split
  · rw [fin_outs, fin_order]
    exact ⟨List.prefix_refl _, rfl⟩
  · split
    · exact ⟨exec_pre (m.setT t _) t _ _, exec_order _ _ _ _⟩
    · rw [fin_outs, fin_order]
      exact ⟨List.prefix_refl _, rfl⟩
theorem stepM_pre (m : Mc) (code : List Mi) (t : Nat) (th : Th) : m.outs <+: (m.stepM code t th).outs ∧ m.order <+: (m.stepM code t th).order := by
  rw [stepM_eq]
  have h := stepX_pre ({ m with steps := m.steps + 1 }.met code t th) code t th
  have e1 : ({ m with steps := m.steps + 1 }.met code t th).outs = m.outs := by unfold Mc.met; split <;> rfl
  have e2 : m.order <+: ({ m with steps := m.steps + 1 }.met code t th).order := by
    unfold Mc.met
    split
    · exact List.prefix_append _ _
    · exact List.prefix_refl _
  rw [e1] at h
  exact ⟨h.1, by rw [h.2]; exact e2⟩
theorem finM_keeps (m : Mc) : m.finM.outs = m.outs ∧ m.finM.order = m.order ∧ m.finM.steps = m.steps := by
  unfold Mc.finM Mc.fin
  split <;> split <;> exact ⟨rfl, rfl, rfl⟩
/-- Which way a run goes on. -/
theorem run_ways (m : Mc) (code : List Mi) (picks : List Int) (k : Nat) : m.how ≠ 0 ∨ (m.how = 0 ∧ ∃ (t : Nat) (th : Th), m.ths[t]? = some th ∧ (aloneI m code 0 m.ths = (t : Int) ∨ (aloneI m code 0 m.ths = -1 ∧ chooseI m code ((picks[k]?).getD 0) 0 (-1) m.ths = (t : Int)))) ∨ (m.how = 0 ∧ aloneI m code 0 m.ths = -1 ∧ chooseI m code ((picks[k]?).getD 0) 0 (-1) m.ths < 0) := by
  by_cases h0 : m.how = 0
  · refine .inr ?_
    rcases alone_spec m code m.ths 0 with ⟨ha, -⟩ | ⟨t, th, ha, ht, -⟩
    · rcases choose_spec m code ((picks[k]?).getD 0) m.ths 0 (-1) with hc | ⟨t, th, hc, ht, -⟩
      · exact .inr ⟨h0, ha, by rw [hc]; decide⟩
      · rw [Nat.zero_add] at hc
        exact .inl ⟨h0, t, th, ht, .inr ⟨ha, hc⟩⟩
    · rw [Nat.zero_add] at ha
      exact .inl ⟨h0, t, th, ht, .inl ha⟩
  · exact .inl h0
theorem runM_grow (code : List Mi) (picks : List Int) (F : Int) : ∀ (n k : Nat) (m : Mc), m.outs <+: (runM code picks F n k m).outs ∧ m.order <+: (runM code picks F n k m).order ∧ m.steps ≤ (runM code picks F n k m).steps := by
  intro n
  induction n with
  | zero => intro k m; exact ⟨List.prefix_refl _, List.prefix_refl _, Int.le_refl _⟩
  | succ n ih =>
    intro k m
    rcases run_ways m code picks k with h | ⟨h0, t, th, ht, hw⟩ | ⟨h0, ha, hc⟩
    · rw [run_how h]
      exact ⟨List.prefix_refl _, List.prefix_refl _, Int.le_refl _⟩
    · by_cases hs : F ≤ m.steps
      · rw [run_full h0 hs (by rcases hw with h | ⟨-, h⟩ <;> rw [h]; exact .inl (by omega); exact .inr (by omega))]
        exact ⟨List.prefix_refl _, List.prefix_refl _, Int.le_refl _⟩
      · have key : ∀ j, m.outs <+: (runM code picks F n j (m.stepM code t th)).outs ∧ m.order <+: (runM code picks F n j (m.stepM code t th)).order ∧ m.steps ≤ (runM code picks F n j (m.stepM code t th)).steps := fun j => by
          obtain ⟨p1, p2, p3⟩ := ih j (m.stepM code t th)
          obtain ⟨q1, q2⟩ := stepM_pre m code t th
          have := stepM_steps m code t th
          exact ⟨q1.trans p1, q2.trans p2, by omega⟩
        rcases hw with h | ⟨h, h2⟩
        · rw [run_alone h0 hs h ht]
          exact key _
        · rw [run_meet h0 hs h h2 ht]
          exact key _
    · rw [run_end h0 ha hc]
      obtain ⟨e1, e2, e3⟩ := finM_keeps m
      rw [e1, e2, e3]
      exact ⟨List.prefix_refl _, List.prefix_refl _, Int.le_refl _⟩
/-- A SHORTER RUN IS THE BEGINNING OF A LONGER ONE. -/
theorem runM_on (code : List Mi) (picks : List Int) {F F' : Int} (hF : F ≤ F') : ∀ (n k n' : Nat) (m : Mc), m.steps ≤ F → n = (F - m.steps).toNat + 1 → n' = (F' - m.steps).toNat + 1 → ((runM code picks F n k m).how ≠ 0 ∧ runM code picks F' n' k m = runM code picks F n k m ∧ (runM code picks F n k m).steps ≤ F) ∨ ((runM code picks F n k m).how = 0 ∧ (runM code picks F n k m).steps = F ∧ F ≤ (runM code picks F' n' k m).steps ∧ (runM code picks F n k m).outs <+: (runM code picks F' n' k m).outs ∧ (runM code picks F n k m).order <+: (runM code picks F' n' k m).order) := by
  intro n
  induction n with
  | zero => intro k n' m _ h; omega
  | succ n ih =>
    intro k n' m hm hn hn'
    obtain ⟨n1, rfl⟩ : ∃ n1, n' = n1 + 1 := ⟨_, hn'⟩
    rcases run_ways m code picks k with h | ⟨h0, t, th, ht, hw⟩ | ⟨h0, ha, hc⟩
    · rw [run_how h, run_how h]
      exact .inl ⟨h, rfl, hm⟩
    · by_cases hs : F ≤ m.steps
      · have g := runM_grow code picks F' (n1 + 1) k m
        rw [run_full (F := F) h0 hs (by rcases hw with h | ⟨-, h⟩ <;> rw [h]; exact .inl (by omega); exact .inr (by omega))]
        exact .inr ⟨h0, by omega, by omega, g.1, g.2.1⟩
      · have hs' : ¬ F' ≤ m.steps := by omega
        have e := stepM_steps m code t th
        have key := fun j => ih j n1 (m.stepM code t th) (by omega) (by omega) (by omega)
        rcases hw with h | ⟨h, h2⟩
        · rw [run_alone h0 hs h ht, run_alone h0 hs' h ht]
          exact key _
        · rw [run_meet h0 hs h h2 ht, run_meet h0 hs' h h2 ht]
          exact key _
    · rw [run_end h0 ha hc, run_end h0 ha hc]
      exact .inl ⟨by rw [finM_how h0]; split <;> (try split) <;> decide, rfl, by rw [(finM_keeps m).2.2]; exact hm⟩
end
end Go.Proofs.Ytpoepbmomfohlaa
