/- What a run tells of its blocks. -/
import Derived.Test.YtpoepbmomfohlaaPob
import Derived.Test.YtpoepbmomfohlaaPoe
namespace Go.Proofs.Ytpoepbmomfohlaa
open Go.RowKit
set_option linter.all false
section
variable {C : Ct} {N N' : Nat} {K : Nat → Obj → Prop} {w w' w1 : World} {ps : List Int} {tb tb' : List Nat} {m m' : Mc} {t b : Nat} {th th' : Th}
/-- What a step leaves of Left and How. -/
def Qx (m m' : Mc) : Prop := m'.left = m.left ∧ (m.how = 0 → m'.how = 0 ∨ 4 ≤ m'.how)
theorem Qx.refl : Qx m m := ⟨rfl, fun h => .inl h⟩
theorem Qx.same (h1 : m'.left = m.left) (h2 : m'.how = m.how) : Qx m m' := ⟨h1, fun h => .inl (h2.trans h)⟩
theorem fin_q {k : Int} (hk : 4 ≤ k) : Qx m (m.fin k) := by
  unfold Mc.fin
  split
  · exact ⟨rfl, fun _ => .inr hk⟩
  · exact Qx.refl
theorem sl_4 {fr k y : Int} (h : slotR fr t k = (y, false)) : 4 ≤ y := by rcases slotR_false h with ⟨-, rfl⟩ | ⟨-, -, rfl⟩ <;> decide
theorem fin_y {fr k y : Int} (h : slotR fr t k = (y, false)) : Qx m (m.fin y) := fin_q (sl_4 h)
theorem wr_q {k n : Int} : Qx m (m.wr t k n).1 := by
  unfold Mc.wr
  rcases slot_cases (m.fr t) t k with ⟨y, hy⟩ | ⟨y, hy⟩
  · rw [hy]
    exact Qx.same rfl rfl
  · rw [hy]
    exact fin_y hy
theorem goto_q {k : Int} : Qx m (m.goto t k) := by unfold Mc.goto; split <;> exact Qx.same rfl rfl
theorem rd_q {m1 : Mc} {k : Int} (h : m.rd t k = (none, m1)) : Qx m m1 := by
  unfold Mc.rd at h
  rcases slot_cases (m.fr t) t k with ⟨y, hy⟩ | ⟨y, hy⟩
  · rw [hy] at h
    simp at h
  · rw [hy] at h
    have := (Prod.mk.inj h).2
    rw [← this]
    exact fin_y hy
theorem op2_q (m : Mc) (t : Nat) (x : Mi) (a c : Int) : Qx m (m.op2 t x a c) := by
  unfold Mc.op2
  split
  · exact fin_q (by decide)
  · split
    · exact wr_q
    · exact goto_q
theorem caM_q (m : Mc) (t : Nat) (th : Th) (x : Mi) (a : Int) : Qx m (m.caM t th x a) := by
  unfold Mc.caM
  split
  · exact Qx.same rfl rfl
  · exact fin_y (by assumption)
theorem exec_q (m : Mc) (t : Nat) (th : Th) (x : Mi) : Qx m (m.exec t th x) := by
  by_cases h : x.op < 0 ∨ 19 < x.op
  · rw [ex_bad h]; exact fin_q (by decide)
  · have hh : x.op = 0 ∨ x.op = 1 ∨ x.op = 2 ∨ x.op = 3 ∨ x.op = 4 ∨ x.op = 5 ∨ x.op = 6 ∨ x.op = 7 ∨ x.op = 8 ∨ x.op = 9 ∨ x.op = 10 ∨ x.op = 11 ∨ x.op = 12 ∨ x.op = 13 ∨ x.op = 14 ∨ x.op = 15 ∨ x.op = 16 ∨ x.op = 17 ∨ x.op = 18 ∨ x.op = 19 := by omega
    rcases hh with h | h | h | h | h | h | h | h | h | h | h | h | h | h | h | h | h | h | h | h
    · rw [ex_0 h]; exact wr_q
    · rw [ex_1 h]
      split
      · exact rd_q ‹_›
      · exact wr_q
    · rw [ex_2 h]
      split
      · exact wr_q
      · exact fin_y (by assumption)
    · rw [ex_3 h]
      unfold Mc.ldM
      split
      · exact rd_q ‹_›
      · split
        · exact wr_q
        · exact fin_q (by decide)
    · rw [ex_4 h]
      unfold Mc.stM
      split
      · exact rd_q ‹_›
      · split
        · exact rd_q ‹_›
        · split
          · exact Qx.same rfl rfl
          · exact fin_q (by decide)
    · rw [ex_5 h]
      unfold Mc.opM
      split
      · exact rd_q ‹_›
      · split
        · exact op2_q _ _ _ _ _
        · split
          · exact rd_q ‹_›
          · exact op2_q _ _ _ _ _
    · rw [ex_6 h]; exact goto_q
    · rw [ex_7 h]
      split
      · exact rd_q ‹_›
      · split
        · exact goto_q
        · exact Qx.same rfl rfl
    · rw [ex_8 h]; exact caM_q _ _ _ _ _
    · rw [ex_9 h]
      unfold Mc.catM
      split
      · exact rd_q ‹_›
      · exact caM_q _ _ _ _ _
    · rw [ex_10 h]
      unfold Mc.reM
      split
      · exact fin_q (by decide)
      · exact Qx.same rfl rfl
    · rw [ex_11 h]
      unfold Mc.paM
      split <;> exact Qx.same rfl rfl
    · rw [ex_12 h]
      unfold Mc.reM
      split
      · exact fin_q (by decide)
      · exact Qx.same rfl rfl
    · rw [ex_13 h]
      unfold Mc.alM
      split
      · exact rd_q ‹_›
      · split
        · exact fin_q (by decide)
        · split
          · exact fin_q (by decide)
          · exact wr_q
    · rw [ex_14 h]
      unfold Mc.frM
      split
      · exact rd_q ‹_›
      · split
        · exact fin_q (by decide)
        · exact Qx.same rfl rfl
    · rw [ex_15 h]
      unfold Mc.swM
      split
      · exact rd_q ‹_›
      · split
        · exact fin_q (by decide)
        · exact Qx.same rfl rfl
    · rw [ex_16 h]; exact Qx.refl
    · rw [ex_17 h]
      unfold Mc.waM
      split
      · exact rd_q ‹_›
      · split
        · exact Qx.same rfl rfl
        · exact fin_q (by decide)
    · rw [ex_18 h]
      unfold Mc.ouM
      split
      · exact rd_q ‹_›
      · exact Qx.same rfl rfl
    · rw [ex_19 h]
      unfold Mc.spM
      split
      · split
        · exact rd_q ‹_›
        · exact Qx.same rfl rfl
      · split <;> exact Qx.same rfl rfl
theorem stepM_q (code : List Mi) : Qx m (m.stepM code t th) := by
  rw [stepM_eq]
  have h1 : Qx m ({ m with steps := m.steps + 1 }.met code t th) := by unfold Mc.met; split <;> exact Qx.same rfl rfl
  have h2 : Qx ({ m with steps := m.steps + 1 }.met code t th) (({ m with steps := m.steps + 1 }.met code t th).stepX code t th) := by
    unfold Mc.stepX
    split
    · exact fin_q (by decide)
    · split
      · obtain ⟨q1, q2⟩ := exec_q (({ m with steps := m.steps + 1 }.met code t th).setT t { th with pc := th.pc + 1 }) t { th with pc := th.pc + 1 } (insAt code th.pc).1
        exact ⟨q1, q2⟩
      · exact fin_q (by decide)
  have h3 : ({ m with steps := m.steps + 1 }.met code t th).how = m.how := by unfold Mc.met; split <;> rfl
  exact ⟨h2.1.trans h1.1, fun h => h2.2 (h3.trans h)⟩
/-- Left is told for Done and Failed alone. -/
theorem run_left (code : List Mi) (picks : List Int) (F : Int) : ∀ (n k : Nat) (m : Mc), m.left = 0 → (m.how = 0 ∨ 4 ≤ m.how) → (runM code picks F n k m).left = if (runM code picks F n k m).how = 1 ∨ (runM code picks F n k m).how = 2 then ((runM code picks F n k m).hp.length : Int) else 0
  | 0, k, m, h1, h2 => by
    show m.left = if m.how = 1 ∨ m.how = 2 then (m.hp.length : Int) else 0
    rw [h1, if_neg (by omega)]
  | n + 1, k, m, h1, h2 => by
    by_cases h0 : m.how = 0
    · have st : ∀ t th, (m.stepM code t th).left = 0 ∧ ((m.stepM code t th).how = 0 ∨ 4 ≤ (m.stepM code t th).how) := fun t th => ⟨(stepM_q code).1.trans h1, (stepM_q code).2 h0⟩
      have me : m.left = if m.how = 1 ∨ m.how = 2 then (m.hp.length : Int) else 0 := by rw [h1, if_neg (by omega)]
      rcases alone_spec m code m.ths 0 with ⟨ha, -⟩ | ⟨t, th, ha, ht, -⟩
      · rcases choose_spec m code ((picks[k]?).getD 0) m.ths 0 (-1) with hc | ⟨t, th, hc, ht, -⟩
        · rw [run_end h0 ha (by rw [hc]; decide)]
          have hh := finM_how h0
          unfold Mc.finM at hh ⊢
          by_cases hall : (m.ths.all fun th => th.over) = true
          · rw [if_pos hall] at hh ⊢
            rw [if_pos hall] at hh
            have e : ({ m.fin (if m.failed then 2 else 1) with left := m.hp.length } : Mc).how = 1 ∨ ({ m.fin (if m.failed then 2 else 1) with left := m.hp.length } : Mc).how = 2 := by
              rw [hh]
              cases m.failed
              · exact .inl rfl
              · exact .inr rfl
            rw [if_pos e]
            show (m.hp.length : Int) = ((m.fin (if m.failed then 2 else 1)).hp.length : Int)
            rw [fin_hp]
          · rw [if_neg hall] at hh ⊢
            rw [if_neg hall] at hh
            rw [hh, if_neg (by decide)]
            have : (m.fin 3).left = m.left := by unfold Mc.fin; split <;> rfl
            rw [this, h1]
        · rw [Nat.zero_add] at hc
          by_cases hs : F ≤ m.steps
          · rw [run_full h0 hs (.inr (by rw [hc]; omega))]
            exact me
          · rw [run_meet h0 hs ha hc ht]
            exact run_left code picks F n (k + 1) _ (st t th).1 (st t th).2
      · rw [Nat.zero_add] at ha
        by_cases hs : F ≤ m.steps
        · rw [run_full h0 hs (.inl (by rw [ha]; omega))]
          exact me
        · rw [run_alone h0 hs ha ht]
          exact run_left code picks F n k _ (st t th).1 (st t th).2
    · rw [run_how h0, h1, if_neg (by omega)]
end
end Go.Proofs.Ytpoepbmomfohlaa
namespace Go.Proofs.Ytpoepbmomfohlaa
open Go.RowKit
set_option linter.all false
section
variable {C : Ct} {N N' : Nat} {K : Nat → Obj → Prop} {w w' w1 : World} {ps : List Int} {tb tb' : List Nat} {m m' : Mc} {t b : Nat} {th th' : Th}
theorem CD.up {w w' : World} {base base' : Nat} {co : Option Addr} {code : List Mi} (h : CD w base co code) (hb : Below base w w') (hbb : base ≤ base') : CD w' base' co code := by
  have h2 := h.below hb
  exact ⟨fun i x hx => by
    obtain ⟨b, f, e, hl, r⟩ := h2.at_ i x hx
    exact ⟨b, f, e, Nat.lt_of_lt_of_le hl hbb, r⟩, h2.few⟩
theorem PK.up {w w' : World} {base base' : Nat} {pv : Value} {picks : List Int} (h : PK w base pv picks) (hb : Below base w w') (hbb : base ≤ base') : PK w' base' pv picks := by
  obtain ⟨o, c, e, h1, h2, h3⟩ := (h.below hb).ex
  exact ⟨o, c, e, h1, h2, fun i x hx => by
    obtain ⟨hi, b, f, e1, hl, hc⟩ := h3 i x hx
    exact ⟨hi, b, f, e1, Nat.lt_of_lt_of_le hl hbb, hc⟩⟩
theorem row8 {W : World} {base ib : Nat} {v : Value} {n : Nat} {xs : List Value} (h : W.ownsRow base 3 1 v n xs) (hi : ib < base) (c0 c1 c2 c3 c4 c5 c6 c7 : Value) : ((((((((W.setCell ⟨ib, 0, none⟩ c0).setCell ⟨ib, 1, none⟩ c1).setCell ⟨ib, 2, none⟩ c2).setCell ⟨ib, 3, none⟩ c3).setCell ⟨ib, 4, none⟩ c4).setCell ⟨ib, 5, none⟩ c5).setCell ⟨ib, 6, none⟩ c6).setCell ⟨ib, 7, none⟩ c7).ownsRow ib 3 1 v n xs := by
  refine ownsRow_mono (ownsRow_same h (fun b hb hl => ?_)) (Nat.le_of_lt hi)
  have hne : b ≠ ib := by have := (h.lt b hb).1; omega
  rw [Below.heap_setCell _ _ _ _ hne, Below.heap_setCell _ _ _ _ hne, Below.heap_setCell _ _ _ _ hne, Below.heap_setCell _ _ _ _ hne, Below.heap_setCell _ _ _ _ hne, Below.heap_setCell _ _ _ _ hne, Below.heap_setCell _ _ _ _ hne, Below.heap_setCell _ _ _ _ hne]
set_option maxRecDepth 100000 in
set_option maxHeartbeats 1000000 in
theorem run5_neg {co : Option Addr} {cc : Nat} {code : List Mi} {po : Option Addr} {pl pc : Nat} {picks : List Int} {arg fuel : Int} (harg : I64 arg) (hf : fuel < 0) (cd : CD w w.heap.size co code) (c64 : ∀ x ∈ code, x.ok) (pk : PK w w.heap.size (.slice po pl pc) picks) : Calls Try.prog 4 #[.slice co code.length cc, .int .i64 arg, .int .i64 fuel, .slice po pl pc] w (RunP w (runM code picks 0 ((0 : Int).toNat + 1) 0 (Mc.init arg))) := by
  have BA := al1 w (.cells #[.int .i64 0, .int .i64 0, .int .i64 0, .int .i64 0, .slice none 0 0, .slice none 0 0, .int .i64 0, .int .i64 0] 25)
  have hz : (w.alloc (.cells #[.int .i64 0, .int .i64 0, .int .i64 0, .int .i64 0, .slice none 0 0, .slice none 0 0, .int .i64 0, .int .i64 0] 25)).heap.size = w.heap.size + 1 := by simp
  have N8 := new8 (W0 := w.alloc (.cells #[.int .i64 0, .int .i64 0, .int .i64 0, .int .i64 0, .slice none 0 0, .slice none 0 0, .int .i64 0, .int .i64 0] 25)) (cc := cc) harg (cd.up BA.1 (by omega)) c64 (pk.up BA.1 (by omega))
  have hf2 : ¬ 0 ≤ fuel := by omega
  obtain ⟨R, hR⟩ : ∃ R, R = runM code picks 0 ((0 : Int).toNat + 1) 0 (Mc.init arg) := ⟨_, rfl⟩
  have HL : Hid (R.left = if R.how = 1 ∨ R.how = 2 then (R.hp.length : Int) else 0) := by show _ = _; rw [hR]; exact run_left code picks _ _ _ _ rfl (.inl rfl)
  have G9 : Hid (∀ {w2 : World} {mb hb : Nat} {tb : List Nat}, PS ⟨w.alloc (.cells #[.int .i64 0, .int .i64 0, .int .i64 0, .int .i64 0, .slice none 0 0, .slice none 0 0, .int .i64 0, .int .i64 0] 25), (w.alloc (.cells #[.int .i64 0, .int .i64 0, .int .i64 0, .int .i64 0, .slice none 0 0, .slice none 0 0, .int .i64 0, .int .i64 0] 25)).heap.size, mb, hb, co, cc, code⟩ 0 K0 w2 picks tb (Mc.init arg) → Calls Try.prog 7 #[ptr mb, .int .i64 0] w2 (fun e w' => ∃ N ps tb, e = .returned (.int .i64 R.how) ∧ PS ⟨w.alloc (.cells #[.int .i64 0, .int .i64 0, .int .i64 0, .int .i64 0, .slice none 0 0, .slice none 0 0, .int .i64 0, .int .i64 0] 25), (w.alloc (.cells #[.int .i64 0, .int .i64 0, .int .i64 0, .int .i64 0, .slice none 0 0, .slice none 0 0, .int .i64 0, .int .i64 0] 25)).heap.size, mb, hb, co, cc, code⟩ N K0 w' ps tb R)) := fun h => by rw [hR]; exact goon_c h rfl rfl (by omega) (by omega)
  rw [← hR]
  have HBA : Hid (Below w.heap.size w (w.alloc (.cells #[.int .i64 0, .int .i64 0, .int .i64 0, .int .i64 0, .slice none 0 0, .slice none 0 0, .int .i64 0, .int .i64 0] 25)) ∧ (w.alloc (.cells #[.int .i64 0, .int .i64 0, .int .i64 0, .int .i64 0, .slice none 0 0, .slice none 0 0, .int .i64 0, .int .i64 0] 25)).heap[w.heap.size]? = some (.cells #[.int .i64 0, .int .i64 0, .int .i64 0, .int .i64 0, .slice none 0 0, .slice none 0 0, .int .i64 0, .int .i64 0] 25 (0, 0)) ∧ (w.alloc (.cells #[.int .i64 0, .int .i64 0, .int .i64 0, .int .i64 0, .slice none 0 0, .slice none 0 0, .int .i64 0, .int .i64 0] 25)).heap.size = w.heap.size + 1) := ⟨BA.1, BA.2, hz⟩
  clear cd c64 pk harg BA hR hz
  obtain ⟨ib, hib⟩ : ∃ ib, ib = w.heap.size := ⟨_, rfl⟩
  have HIB : Hid (ib = w.heap.size) := hib
  clear hib
  go_enter Try.func4, Try.ntmps4
  go_upto_region 1 with fail
  rw [← HIB.out] at HBA ⊢
  generalize w.alloc (.cells #[.int .i64 0, .int .i64 0, .int .i64 0, .int .i64 0, .slice none 0 0, .slice none 0 0, .int .i64 0, .int .i64 0] 25) = W0 at *
  go_wp2_with (first | (go_at_call 8; refine (out10 h3 HL.out).mono ?_; rintro e w4 ⟨o, c, o2, c2, rfl, r1, r2, hb4⟩; have b4 := (hb4.block ib (Nat.lt_of_lt_of_le (Nat.lt_of_lt_of_le (by rw [HBA.out.2.2]; exact Nat.lt_succ_self _) h3.bl.size) (Nat.le_refl _))).trans ((h3.bl.block ib (by show ib < W0.heap.size; rw [HBA.out.2.2]; exact Nat.lt_succ_self _)).trans HBA.out.2.1); have i0 := fun o => cell_of_row w4 ib o _ 25 (0, 0) b4; have j0 := fun o => frozen_of_row w4 ib o _ 25 b4; have li := (Array.getElem?_eq_some_iff.1 b4).1) | (go_at_call 7; refine (G9.out h2).mono ?_; rintro e w3 ⟨N3, ps3, tb3, rfl, h3⟩) | (go_at_call 6; refine N8.mono ?_; rintro e w2 ⟨mb, hb, tb, rfl, h2⟩))
  have hlt : ib < W0.heap.size := by rw [HBA.out.2.2]; exact Nat.lt_succ_self _
  have hbl0 : Below ib w w4 := HBA.out.1.trans (Below.trans ((h3.bl).mono (Nat.le_of_lt hlt)) (hb4.mono (Nat.le_trans (Nat.le_of_lt hlt) h3.bl.size)))
  have hbl : Below w.heap.size w w4 := by rw [← HIB.out]; exact hbl0
  have BL := bel8 hbl (by rw [HIB.out]; exact Nat.le_refl _ : w.heap.size ≤ ib) (.int .i64 R.how) (.int .i64 0) (.int .i64 R.value) (.int .i64 R.steps) (.slice o R.outs.length c) (.slice o2 R.order.length c2) (.int .i64 R.left) (.int .i64 0)
  refine bodyPost_ret (res26 Try.results4 rfl (set8 b4)) rfl ⟨o, c, o2, c2, rfl, ?_, ?_, BL, Nat.le_trans h3.ok.outs h3.ok.big, Nat.le_trans h3.ok.order h3.ok.big⟩
  · rw [← HIB.out]
    exact row8 r1 hlt _ _ _ _ _ _ _ _
  · rw [← HIB.out]
    exact row8 r2 hlt _ _ _ _ _ _ _ _
set_option maxRecDepth 100000 in
set_option maxHeartbeats 1000000 in
theorem run5_pos {co : Option Addr} {cc : Nat} {code : List Mi} {po : Option Addr} {pl pc : Nat} {picks : List Int} {arg fuel : Int} (harg : I64 arg) (hf : 0 < fuel) (hf3 : fuel ≤ 100000) (cd : CD w w.heap.size co code) (c64 : ∀ x ∈ code, x.ok) (pk : PK w w.heap.size (.slice po pl pc) picks) : Calls Try.prog 4 #[.slice co code.length cc, .int .i64 arg, .int .i64 fuel, .slice po pl pc] w (RunP w (runM code picks fuel ((fuel : Int).toNat + 1) 0 (Mc.init arg))) := by
  have BA := al1 w (.cells #[.int .i64 0, .int .i64 0, .int .i64 0, .int .i64 0, .slice none 0 0, .slice none 0 0, .int .i64 0, .int .i64 0] 25)
  have hz : (w.alloc (.cells #[.int .i64 0, .int .i64 0, .int .i64 0, .int .i64 0, .slice none 0 0, .slice none 0 0, .int .i64 0, .int .i64 0] 25)).heap.size = w.heap.size + 1 := by simp
  have N8 := new8 (W0 := w.alloc (.cells #[.int .i64 0, .int .i64 0, .int .i64 0, .int .i64 0, .slice none 0 0, .slice none 0 0, .int .i64 0, .int .i64 0] 25)) (cc := cc) harg (cd.up BA.1 (by omega)) c64 (pk.up BA.1 (by omega))
  have hf2 : ¬ fuel < 0 := by omega
  have hf4 : fuel < 4000000 := by omega
  have hf5 : ¬ fuel ≤ 0 := by omega
  obtain ⟨R, hR⟩ : ∃ R, R = runM code picks fuel ((fuel : Int).toNat + 1) 0 (Mc.init arg) := ⟨_, rfl⟩
  have HL : Hid (R.left = if R.how = 1 ∨ R.how = 2 then (R.hp.length : Int) else 0) := by show _ = _; rw [hR]; exact run_left code picks _ _ _ _ rfl (.inl rfl)
  have G9 : Hid (∀ {w2 : World} {mb hb : Nat} {tb : List Nat}, PS ⟨w.alloc (.cells #[.int .i64 0, .int .i64 0, .int .i64 0, .int .i64 0, .slice none 0 0, .slice none 0 0, .int .i64 0, .int .i64 0] 25), (w.alloc (.cells #[.int .i64 0, .int .i64 0, .int .i64 0, .int .i64 0, .slice none 0 0, .slice none 0 0, .int .i64 0, .int .i64 0] 25)).heap.size, mb, hb, co, cc, code⟩ 0 K0 w2 picks tb (Mc.init arg) → Calls Try.prog 7 #[ptr mb, .int .i64 fuel] w2 (fun e w' => ∃ N ps tb, e = .returned (.int .i64 R.how) ∧ PS ⟨w.alloc (.cells #[.int .i64 0, .int .i64 0, .int .i64 0, .int .i64 0, .slice none 0 0, .slice none 0 0, .int .i64 0, .int .i64 0] 25), (w.alloc (.cells #[.int .i64 0, .int .i64 0, .int .i64 0, .int .i64 0, .slice none 0 0, .slice none 0 0, .int .i64 0, .int .i64 0] 25)).heap.size, mb, hb, co, cc, code⟩ N K0 w' ps tb R)) := fun h => by rw [hR]; exact goon_c h rfl rfl (by omega) (by omega)
  rw [← hR]
  have HBA : Hid (Below w.heap.size w (w.alloc (.cells #[.int .i64 0, .int .i64 0, .int .i64 0, .int .i64 0, .slice none 0 0, .slice none 0 0, .int .i64 0, .int .i64 0] 25)) ∧ (w.alloc (.cells #[.int .i64 0, .int .i64 0, .int .i64 0, .int .i64 0, .slice none 0 0, .slice none 0 0, .int .i64 0, .int .i64 0] 25)).heap[w.heap.size]? = some (.cells #[.int .i64 0, .int .i64 0, .int .i64 0, .int .i64 0, .slice none 0 0, .slice none 0 0, .int .i64 0, .int .i64 0] 25 (0, 0)) ∧ (w.alloc (.cells #[.int .i64 0, .int .i64 0, .int .i64 0, .int .i64 0, .slice none 0 0, .slice none 0 0, .int .i64 0, .int .i64 0] 25)).heap.size = w.heap.size + 1) := ⟨BA.1, BA.2, hz⟩
  clear cd c64 pk harg BA hR hz
  obtain ⟨ib, hib⟩ : ∃ ib, ib = w.heap.size := ⟨_, rfl⟩
  have HIB : Hid (ib = w.heap.size) := hib
  clear hib
  go_enter Try.func4, Try.ntmps4
  go_upto_region 1 with fail
  rw [← HIB.out] at HBA ⊢
  generalize w.alloc (.cells #[.int .i64 0, .int .i64 0, .int .i64 0, .int .i64 0, .slice none 0 0, .slice none 0 0, .int .i64 0, .int .i64 0] 25) = W0 at *
  go_wp2_with (first | (go_at_call 8; refine (out10 h3 HL.out).mono ?_; rintro e w4 ⟨o, c, o2, c2, rfl, r1, r2, hb4⟩; have b4 := (hb4.block ib (Nat.lt_of_lt_of_le (Nat.lt_of_lt_of_le (by rw [HBA.out.2.2]; exact Nat.lt_succ_self _) h3.bl.size) (Nat.le_refl _))).trans ((h3.bl.block ib (by show ib < W0.heap.size; rw [HBA.out.2.2]; exact Nat.lt_succ_self _)).trans HBA.out.2.1); have i0 := fun o => cell_of_row w4 ib o _ 25 (0, 0) b4; have j0 := fun o => frozen_of_row w4 ib o _ 25 b4; have li := (Array.getElem?_eq_some_iff.1 b4).1) | (go_at_call 7; refine (G9.out h2).mono ?_; rintro e w3 ⟨N3, ps3, tb3, rfl, h3⟩) | (go_at_call 6; refine N8.mono ?_; rintro e w2 ⟨mb, hb, tb, rfl, h2⟩))
  have hlt : ib < W0.heap.size := by rw [HBA.out.2.2]; exact Nat.lt_succ_self _
  have hbl0 : Below ib w w4 := HBA.out.1.trans (Below.trans ((h3.bl).mono (Nat.le_of_lt hlt)) (hb4.mono (Nat.le_trans (Nat.le_of_lt hlt) h3.bl.size)))
  have hbl : Below w.heap.size w w4 := by rw [← HIB.out]; exact hbl0
  have BL := bel8 hbl (by rw [HIB.out]; exact Nat.le_refl _ : w.heap.size ≤ ib) (.int .i64 R.how) (.int .i64 0) (.int .i64 R.value) (.int .i64 R.steps) (.slice o R.outs.length c) (.slice o2 R.order.length c2) (.int .i64 R.left) (.int .i64 0)
  refine bodyPost_ret (res26 Try.results4 rfl (set8 b4)) rfl ⟨o, c, o2, c2, rfl, ?_, ?_, BL, Nat.le_trans h3.ok.outs h3.ok.big, Nat.le_trans h3.ok.order h3.ok.big⟩
  · rw [← HIB.out]
    exact row8 r1 hlt _ _ _ _ _ _ _ _
  · rw [← HIB.out]
    exact row8 r2 hlt _ _ _ _ _ _ _ _
set_option maxRecDepth 100000 in
set_option maxHeartbeats 1000000 in
theorem run5_zero {co : Option Addr} {cc : Nat} {code : List Mi} {po : Option Addr} {pl pc : Nat} {picks : List Int} {arg fuel : Int} (harg : I64 arg) (hf : fuel = 0) (cd : CD w w.heap.size co code) (c64 : ∀ x ∈ code, x.ok) (pk : PK w w.heap.size (.slice po pl pc) picks) : Calls Try.prog 4 #[.slice co code.length cc, .int .i64 arg, .int .i64 fuel, .slice po pl pc] w (RunP w (runM code picks 0 ((0 : Int).toNat + 1) 0 (Mc.init arg))) := by
  have BA := al1 w (.cells #[.int .i64 0, .int .i64 0, .int .i64 0, .int .i64 0, .slice none 0 0, .slice none 0 0, .int .i64 0, .int .i64 0] 25)
  have hz : (w.alloc (.cells #[.int .i64 0, .int .i64 0, .int .i64 0, .int .i64 0, .slice none 0 0, .slice none 0 0, .int .i64 0, .int .i64 0] 25)).heap.size = w.heap.size + 1 := by simp
  have N8 := new8 (W0 := w.alloc (.cells #[.int .i64 0, .int .i64 0, .int .i64 0, .int .i64 0, .slice none 0 0, .slice none 0 0, .int .i64 0, .int .i64 0] 25)) (cc := cc) harg (cd.up BA.1 (by omega)) c64 (pk.up BA.1 (by omega))
  subst hf
  obtain ⟨R, hR⟩ : ∃ R, R = runM code picks 0 ((0 : Int).toNat + 1) 0 (Mc.init arg) := ⟨_, rfl⟩
  have HL : Hid (R.left = if R.how = 1 ∨ R.how = 2 then (R.hp.length : Int) else 0) := by show _ = _; rw [hR]; exact run_left code picks _ _ _ _ rfl (.inl rfl)
  have G9 : Hid (∀ {w2 : World} {mb hb : Nat} {tb : List Nat}, PS ⟨w.alloc (.cells #[.int .i64 0, .int .i64 0, .int .i64 0, .int .i64 0, .slice none 0 0, .slice none 0 0, .int .i64 0, .int .i64 0] 25), (w.alloc (.cells #[.int .i64 0, .int .i64 0, .int .i64 0, .int .i64 0, .slice none 0 0, .slice none 0 0, .int .i64 0, .int .i64 0] 25)).heap.size, mb, hb, co, cc, code⟩ 0 K0 w2 picks tb (Mc.init arg) → Calls Try.prog 7 #[ptr mb, .int .i64 0] w2 (fun e w' => ∃ N ps tb, e = .returned (.int .i64 R.how) ∧ PS ⟨w.alloc (.cells #[.int .i64 0, .int .i64 0, .int .i64 0, .int .i64 0, .slice none 0 0, .slice none 0 0, .int .i64 0, .int .i64 0] 25), (w.alloc (.cells #[.int .i64 0, .int .i64 0, .int .i64 0, .int .i64 0, .slice none 0 0, .slice none 0 0, .int .i64 0, .int .i64 0] 25)).heap.size, mb, hb, co, cc, code⟩ N K0 w' ps tb R)) := fun h => by rw [hR]; exact goon_c h rfl rfl (by omega) (by omega)
  rw [← hR]
  have HBA : Hid (Below w.heap.size w (w.alloc (.cells #[.int .i64 0, .int .i64 0, .int .i64 0, .int .i64 0, .slice none 0 0, .slice none 0 0, .int .i64 0, .int .i64 0] 25)) ∧ (w.alloc (.cells #[.int .i64 0, .int .i64 0, .int .i64 0, .int .i64 0, .slice none 0 0, .slice none 0 0, .int .i64 0, .int .i64 0] 25)).heap[w.heap.size]? = some (.cells #[.int .i64 0, .int .i64 0, .int .i64 0, .int .i64 0, .slice none 0 0, .slice none 0 0, .int .i64 0, .int .i64 0] 25 (0, 0)) ∧ (w.alloc (.cells #[.int .i64 0, .int .i64 0, .int .i64 0, .int .i64 0, .slice none 0 0, .slice none 0 0, .int .i64 0, .int .i64 0] 25)).heap.size = w.heap.size + 1) := ⟨BA.1, BA.2, hz⟩
  clear cd c64 pk harg BA hR hz
  obtain ⟨ib, hib⟩ : ∃ ib, ib = w.heap.size := ⟨_, rfl⟩
  have HIB : Hid (ib = w.heap.size) := hib
  clear hib
  go_enter Try.func4, Try.ntmps4
  go_upto_region 1 with fail
  rw [← HIB.out] at HBA ⊢
  generalize w.alloc (.cells #[.int .i64 0, .int .i64 0, .int .i64 0, .int .i64 0, .slice none 0 0, .slice none 0 0, .int .i64 0, .int .i64 0] 25) = W0 at *
  go_wp2_with (first | (go_at_call 8; refine (out10 h3 HL.out).mono ?_; rintro e w4 ⟨o, c, o2, c2, rfl, r1, r2, hb4⟩; have b4 := (hb4.block ib (Nat.lt_of_lt_of_le (Nat.lt_of_lt_of_le (by rw [HBA.out.2.2]; exact Nat.lt_succ_self _) h3.bl.size) (Nat.le_refl _))).trans ((h3.bl.block ib (by show ib < W0.heap.size; rw [HBA.out.2.2]; exact Nat.lt_succ_self _)).trans HBA.out.2.1); have i0 := fun o => cell_of_row w4 ib o _ 25 (0, 0) b4; have j0 := fun o => frozen_of_row w4 ib o _ 25 b4; have li := (Array.getElem?_eq_some_iff.1 b4).1) | (go_at_call 7; refine (G9.out h2).mono ?_; rintro e w3 ⟨N3, ps3, tb3, rfl, h3⟩) | (go_at_call 6; refine N8.mono ?_; rintro e w2 ⟨mb, hb, tb, rfl, h2⟩))
  have hlt : ib < W0.heap.size := by rw [HBA.out.2.2]; exact Nat.lt_succ_self _
  have hbl0 : Below ib w w4 := HBA.out.1.trans (Below.trans ((h3.bl).mono (Nat.le_of_lt hlt)) (hb4.mono (Nat.le_trans (Nat.le_of_lt hlt) h3.bl.size)))
  have hbl : Below w.heap.size w w4 := by rw [← HIB.out]; exact hbl0
  have BL := bel8 hbl (by rw [HIB.out]; exact Nat.le_refl _ : w.heap.size ≤ ib) (.int .i64 R.how) (.int .i64 0) (.int .i64 R.value) (.int .i64 R.steps) (.slice o R.outs.length c) (.slice o2 R.order.length c2) (.int .i64 R.left) (.int .i64 0)
  refine bodyPost_ret (res26 Try.results4 rfl (set8 b4)) rfl ⟨o, c, o2, c2, rfl, ?_, ?_, BL, Nat.le_trans h3.ok.outs h3.ok.big, Nat.le_trans h3.ok.order h3.ok.big⟩
  · rw [← HIB.out]
    exact row8 r1 hlt _ _ _ _ _ _ _ _
  · rw [← HIB.out]
    exact row8 r2 hlt _ _ _ _ _ _ _ _
end
end Go.Proofs.Ytpoepbmomfohlaa
