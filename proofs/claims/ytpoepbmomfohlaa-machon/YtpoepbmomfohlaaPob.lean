/- The project's machine: how a round goes on. -/
import Derived.Test.YtpoepbmomfohlaaPnw
import Derived.Test.YtpoepbmomfohlaaPoa
import Derived.Test.YtpoepbmomfohlaaTke
namespace Go.Proofs.Ytpoepbmomfohlaa
open Go.RowKit
set_option linter.all false
section
variable {C : Ct} {N N' : Nat} {K : Nat → Obj → Prop} {w w' w1 : World} {ps : List Int} {tb tb' : List Nat} {m m' : Mc} {t b : Nat} {th th' : Th}
abbrev K0 : Nat → Obj → Prop := fun _ _ => False
/-- The block of a named result. -/
abbrev KH (hk : Nat) (v : Int) : Nat → Obj → Prop := fun b o => b = hk ∧ o = .cells #[.int .i64 v] 31 (0, 0)
theorem PS.addK (h : PS C N K0 w ps tb m) (v : Int) : PS C N (KH w.heap.size v) (w.alloc (.cells #[.int .i64 v] 31)) ps tb m := by
  have h2 := h.below (al1 w (.cells #[.int .i64 v] 31)).1
  obtain ⟨pv, own, L, hp, hk⟩ := h.pr
  have k : CG own own (fun _ => False) C.base w (w.alloc (.cells #[.int .i64 v] 31)) := CG.below hp.ow (al1 w _).1
  have hp2 := hp.cg k
  have kb := k.bel hp.ow
  refine ⟨⟨pv, own, L, ⟨hp2.ow, hp2.blk, hp2.omb, hp2.hm, hp2.wd, hp2.tr, hp2.otr, hp2.tl, hp2.th, hp2.few, hp2.ou, hp2.or_, hp2.hz, ?_⟩, hk.below kb⟩, h2.cd, h2.ok, h2.c64, h2.bl⟩
  rintro b o ⟨rfl, rfl⟩
  exact ⟨hp.ow.free (Nat.le_refl _), (al1 w _).2, _, _, _, rfl, by decide, by decide⟩
theorem PS.kh {hk : Nat} {v : Int} (h : PS C N (KH hk v) w ps tb m) : w.cell? ⟨hk, 0, none⟩ = some (.int .i64 v) ∧ w.frozen? ⟨hk, 0, none⟩ = false ∧ hk < w.heap.size := by
  obtain ⟨pv, own, L, hp, -⟩ := h.pr
  obtain ⟨-, e, -⟩ := hp.kk hk _ ⟨rfl, rfl⟩
  exact ⟨cell_of_row w _ 0 _ 31 (0, 0) e, frozen_of_row w _ 0 _ 31 e, (Array.getElem?_eq_some_iff.1 e).1⟩
/-- The named result is written. -/
theorem PS.setK {hk : Nat} {v : Int} (h : PS C N (KH hk v) w ps tb m) (hkb : C.base ≤ hk) (u : Int) : PS C N K0 (w.setCell ⟨hk, 0, none⟩ (.int .i64 u)) ps tb m := by
  obtain ⟨pv, own, L, hp, hpk⟩ := h.pr
  obtain ⟨e0, e1, -⟩ := hp.kk hk _ ⟨rfl, rfl⟩
  have hs : ∀ b t, own b = some t → (w.setCell ⟨hk, 0, none⟩ (.int .i64 u)).heap[b]? = w.heap[b]? := fun b t e => Below.heap_setCell _ _ _ _ (fun e2 => by
    have e3 : b = hk := e2
    rw [e3, e0] at e
    cases e)
  have hb : Below C.base w (w.setCell ⟨hk, 0, none⟩ (.int .i64 u)) := (Below.refl _ _).setCell (p := ⟨hk, 0, none⟩) hkb _
  have hno : OW own C.base (w.setCell ⟨hk, 0, none⟩ (.int .i64 u)) := ⟨fun b hn => by simpa using hp.ow.olt b hn, fun b hn => by
    obtain ⟨c, t, hc, n⟩ := hp.ow.nh b hn
    obtain ⟨t', ht'⟩ : ∃ t', own b = some t' := Option.ne_none_iff_exists'.1 hn
    exact ⟨c, t, (hs b t' ht').trans hc, n⟩, by simpa using hp.ow.bs⟩
  have hm : HM (w.setCell ⟨hk, 0, none⟩ (.int .i64 u)) C.base C.hb 4194303 m.hp := hp.hm.kt ((KT.set e1 0 _).mono (fun t ht => by rcases ht with rfl | rfl <;> decide))
  refine ⟨⟨pv, own, L, ⟨hno, (hs _ _ hp.omb).trans hp.blk, hp.omb, hm, hp.wd.same (fun b s e => ⟨hs b _ e, e⟩), ownsRow_same hp.tr (fun b hb _ => hs b _ (hp.otr b hb)), hp.otr, hp.tl, fun t b x hx hb => ?_, hp.few, ⟨ownsRow_same hp.ou.row (fun b hb _ => hs b _ (hp.ou.orow b hb)), hp.ou.orow⟩, ⟨ownsRow_same hp.or_.row (fun b hb _ => hs b _ (hp.or_.orow b hb)), hp.or_.orow⟩, hp.hz, fun b o hb => hb.elim⟩, hpk.below hb⟩, h.cd.below hb, h.ok, h.c64, h.bl.trans hb⟩
  obtain ⟨l, T⟩ := hp.th t b x hx hb
  exact ⟨l, (hs _ _ T.otb).trans T.blk, T.otb, T.pg.same (fun b s e => ⟨hs b _ e, e⟩), ownsRow_same T.row (fun b hb _ => hs b _ (T.orow b hb)), T.orow, T.cok, T.at_, T.fr⟩
/-- How a round of the run goes on. -/
theorem run_end {code : List Mi} {picks : List Int} {F : Int} {n k : Nat} (h0 : m.how = 0) (ha : aloneI m code 0 m.ths = -1) (hc : chooseI m code ((picks[k]?).getD 0) 0 (-1) m.ths < 0) : runM code picks F (n + 1) k m = m.finM := by
  show (if m.how ≠ 0 then m else if 0 ≤ aloneI m code 0 m.ths then _ else if chooseI m code ((picks[k]?).getD 0) 0 (-1) m.ths < 0 then m.finM else _) = _
  rw [if_neg (by simp [h0]), if_neg (by rw [ha]; decide), if_pos hc]
theorem run_full {code : List Mi} {picks : List Int} {F : Int} {n k : Nat} (h0 : m.how = 0) (hs : F ≤ m.steps) (hg : 0 ≤ aloneI m code 0 m.ths ∨ ¬ chooseI m code ((picks[k]?).getD 0) 0 (-1) m.ths < 0) : runM code picks F (n + 1) k m = m := by
  show (if m.how ≠ 0 then m else if 0 ≤ aloneI m code 0 m.ths then (if F ≤ m.steps then m else _) else if chooseI m code ((picks[k]?).getD 0) 0 (-1) m.ths < 0 then m.finM else if F ≤ m.steps then m else _) = _
  rw [if_neg (by simp [h0])]
  by_cases ha : 0 ≤ aloneI m code 0 m.ths
  · rw [if_pos ha, if_pos hs]
  · rw [if_neg ha, if_neg (by rcases hg with h | h; exact absurd h ha; exact h), if_pos hs]
theorem run_alone {code : List Mi} {picks : List Int} {F : Int} {n k t : Nat} {th : Th} (h0 : m.how = 0) (hs : ¬ F ≤ m.steps) (ha : aloneI m code 0 m.ths = (t : Int)) (ht : m.ths[t]? = some th) : runM code picks F (n + 1) k m = runM code picks F n k (m.stepM code t th) := by
  show (if m.how ≠ 0 then m else if 0 ≤ aloneI m code 0 m.ths then (if F ≤ m.steps then m else match m.ths[(aloneI m code 0 m.ths).toNat]? with | some th => runM code picks F n k (m.stepM code (aloneI m code 0 m.ths).toNat th) | none => m) else _) = _
  rw [if_neg (by simp [h0]), if_pos (by rw [ha]; omega), if_neg hs, ha, Int.toNat_natCast, ht]
theorem run_meet {code : List Mi} {picks : List Int} {F : Int} {n k t : Nat} {th : Th} (h0 : m.how = 0) (hs : ¬ F ≤ m.steps) (ha : aloneI m code 0 m.ths = -1) (hc : chooseI m code ((picks[k]?).getD 0) 0 (-1) m.ths = (t : Int)) (ht : m.ths[t]? = some th) : runM code picks F (n + 1) k m = runM code picks F n (k + 1) (m.stepM code t th) := by
  show (if m.how ≠ 0 then m else if 0 ≤ aloneI m code 0 m.ths then _ else if chooseI m code ((picks[k]?).getD 0) 0 (-1) m.ths < 0 then m.finM else if F ≤ m.steps then m else match m.ths[(chooseI m code ((picks[k]?).getD 0) 0 (-1) m.ths).toNat]? with | some th => runM code picks F n (k + 1) (m.stepM code (chooseI m code ((picks[k]?).getD 0) 0 (-1) m.ths).toNat th) | none => m) = _
  rw [if_neg (by simp [h0]), if_neg (by rw [ha]; decide), if_neg (by rw [hc]; omega), if_neg hs, hc, Int.toNat_natCast, ht]
theorem run_how {code : List Mi} {picks : List Int} {F : Int} {n k : Nat} (h0 : m.how ≠ 0) : runM code picks F n k m = m := by
  cases n with
  | zero => rfl
  | succ n =>
    show (if m.how ≠ 0 then m else _) = _
    rw [if_pos h0]
theorem finM_how (h0 : m.how = 0) : m.finM.how = (if m.ths.all (fun th => th.over) then (if m.failed then 2 else 1) else 3) := by
  unfold Mc.finM Mc.fin
  rw [if_pos h0]
  split <;> simp
end
end Go.Proofs.Ytpoepbmomfohlaa
namespace Go.Proofs.Ytpoepbmomfohlaa
open Go.RowKit
set_option linter.all false
section
variable {C : Ct} {N N' : Nat} {K : Nat → Obj → Prop} {w w' w1 : World} {ps : List Int} {picks : List Int} {tb tb' : List Nat} {m m' : Mc} {t b : Nat} {th th' : Th}
/-- What the run leaves. -/
theorem PS.finM (h : PS C N K w ps tb m) (h0 : m.how = 0) : PS C N K w ps tb m.finM := by
  unfold Mc.finM
  split
  · have := (h.fin (if m.failed then 2 else 1)).how (m.fin (if m.failed then 2 else 1)).how m.hp.length
    exact this
  · exact h.fin 3
def GoP (C : Ct) (picks : List Int) (F : Int) (m0 : Mc) (e : Ending) (w' : World) : Prop := ∃ N ps tb, e = .returned (.int .i64 (runM C.code picks F (F.toNat + 1) 0 m0).how) ∧ PS C N K0 w' ps tb (runM C.code picks F (F.toNat + 1) 0 m0)
theorem PS.khs {hk : Nat} {v : Int} (h : PS C N (KH hk v) w ps tb m) (u : Value) : (w.setCell ⟨hk, 0, none⟩ u).cell? ⟨hk, 0, none⟩ = some u := by
  obtain ⟨pv, own, L, hp, -⟩ := h.pr
  obtain ⟨-, e, -⟩ := hp.kk hk _ ⟨rfl, rfl⟩
  exact cell_of_row _ hk 0 _ 31 (0, 0) (heap_setCell_same w hk 0 _ 31 u e)
theorem PS.neb (h : PS C N K w ps tb m) (ht : m.ths[t]? = some th) (hb : tb[t]? = some b) : b ≠ C.mb := fun e => by
  obtain ⟨pv, own, L, hp, hk⟩ := h.pr
  obtain ⟨l, T⟩ := hp.th t b th ht hb
  have := T.otb
  rw [e, hp.omb] at this
  simp at this
theorem fin_steps (m : Mc) (k : Int) : (m.fin k).steps = m.steps := by unfold Mc.fin; split <;> rfl
theorem wr_steps (m : Mc) (t : Nat) (k n : Int) : (m.wr t k n).1.steps = m.steps := by unfold Mc.wr; split; rfl; exact fin_steps _ _
theorem goto_steps (m : Mc) (t : Nat) (k : Int) : (m.goto t k).steps = m.steps := by unfold Mc.goto; split <;> rfl
theorem rd_steps {m m1 : Mc} {t : Nat} {k : Int} (h : m.rd t k = (none, m1)) : m1.steps = m.steps := by
  unfold Mc.rd at h
  split at h
  · simp at h
  · have := (Prod.mk.inj h).2
    rw [← this]
    exact fin_steps _ _
theorem op2_steps (m : Mc) (t : Nat) (x : Mi) (a c : Int) : (m.op2 t x a c).steps = m.steps := by
  unfold Mc.op2
  split
  · exact fin_steps _ _
  · split
    · exact wr_steps _ _ _ _
    · exact goto_steps _ _ _
theorem caM_steps (m : Mc) (t : Nat) (th : Th) (x : Mi) (a : Int) : (m.caM t th x a).steps = m.steps := by
  unfold Mc.caM
  split
  · rfl
  · exact fin_steps _ _
theorem exec_steps (m : Mc) (t : Nat) (th : Th) (x : Mi) : (m.exec t th x).steps = m.steps := by
  by_cases h : x.op < 0 ∨ 19 < x.op
  · rw [ex_bad h, fin_steps]
  · have hh : x.op = 0 ∨ x.op = 1 ∨ x.op = 2 ∨ x.op = 3 ∨ x.op = 4 ∨ x.op = 5 ∨ x.op = 6 ∨ x.op = 7 ∨ x.op = 8 ∨ x.op = 9 ∨ x.op = 10 ∨ x.op = 11 ∨ x.op = 12 ∨ x.op = 13 ∨ x.op = 14 ∨ x.op = 15 ∨ x.op = 16 ∨ x.op = 17 ∨ x.op = 18 ∨ x.op = 19 := by omega
    rcases hh with h | h | h | h | h | h | h | h | h | h | h | h | h | h | h | h | h | h | h | h
    · rw [ex_0 h, wr_steps]
    · rw [ex_1 h]
      split
      · exact rd_steps ‹_›
      · exact wr_steps _ _ _ _
    · rw [ex_2 h]
      split
      · exact wr_steps _ _ _ _
      · exact fin_steps _ _
    · rw [ex_3 h]
      unfold Mc.ldM
      split
      · exact rd_steps ‹_›
      · split
        · exact wr_steps _ _ _ _
        · exact fin_steps _ _
    · rw [ex_4 h]
      unfold Mc.stM
      split
      · exact rd_steps ‹_›
      · split
        · exact rd_steps ‹_›
        · split
          · rfl
          · exact fin_steps _ _
    · rw [ex_5 h]
      unfold Mc.opM
      split
      · exact rd_steps ‹_›
      · split
        · exact op2_steps _ _ _ _ _
        · split
          · exact rd_steps ‹_›
          · exact op2_steps _ _ _ _ _
    · rw [ex_6 h, goto_steps]
    · rw [ex_7 h]
      split
      · exact rd_steps ‹_›
      · split
        · exact goto_steps _ _ _
        · rfl
    · rw [ex_8 h, caM_steps]
    · rw [ex_9 h]
      unfold Mc.catM
      split
      · exact rd_steps ‹_›
      · exact caM_steps _ _ _ _ _
    · rw [ex_10 h]
      unfold Mc.reM
      split
      · exact fin_steps _ _
      · rfl
    · rw [ex_11 h]
      unfold Mc.paM
      split <;> rfl
    · rw [ex_12 h]
      unfold Mc.reM
      split
      · exact fin_steps _ _
      · rfl
    · rw [ex_13 h]
      unfold Mc.alM
      split
      · exact rd_steps ‹_›
      · split
        · exact fin_steps _ _
        · split
          · exact fin_steps _ _
          · exact wr_steps _ _ _ _
    · rw [ex_14 h]
      unfold Mc.frM
      split
      · exact rd_steps ‹_›
      · split
        · exact fin_steps _ _
        · rfl
    · rw [ex_15 h]
      unfold Mc.swM
      split
      · exact rd_steps ‹_›
      · split
        · exact fin_steps _ _
        · rfl
    · rw [ex_16 h]
    · rw [ex_17 h]
      unfold Mc.waM
      split
      · exact rd_steps ‹_›
      · split
        · rfl
        · exact fin_steps _ _
    · rw [ex_18 h]
      unfold Mc.ouM
      split
      · exact rd_steps ‹_›
      · rfl
    · rw [ex_19 h]
      unfold Mc.spM
      split
      · split
        · exact rd_steps ‹_›
        · rfl
      · split <;> rfl
theorem met_steps (m : Mc) (code : List Mi) (t : Nat) (th : Th) : (m.met code t th).steps = m.steps := by unfold Mc.met; split <;> rfl
theorem stepM_steps (m : Mc) (code : List Mi) (t : Nat) (th : Th) : (m.stepM code t th).steps = m.steps + 1 := by
  rw [stepM_eq]
  unfold Mc.stepX
  split
  · rw [fin_steps, met_steps]
  · split
    · rw [exec_steps]
      exact met_steps _ _ _ _
    · rw [fin_steps, met_steps]
theorem met_T {code : List Mi} (h : (meetB m code t th).1 = true) : { m with steps := m.steps + 1 }.met code t th = { m with steps := m.steps + 1, order := m.order ++ [(t : Int)] } := by
  unfold Mc.met
  have e : (meetB { m with steps := m.steps + 1 } code t th).1 = true := h
  rw [if_pos e]
theorem met_F {code : List Mi} (h : (meetB m code t th).1 = false) : { m with steps := m.steps + 1 }.met code t th = { m with steps := m.steps + 1 } := by
  unfold Mc.met
  have e : ¬ (meetB { m with steps := m.steps + 1 } code t th).1 = true := by rw [show (meetB { m with steps := m.steps + 1 } code t th).1 = (meetB m code t th).1 from rfl, h]; simp
  rw [if_neg e]
set_option maxRecDepth 100000 in
set_option maxHeartbeats 1000000 in
theorem goon_c (h : PS C 0 K0 w picks tb m) (h0 : m.how = 0) (hs0 : m.steps = 0) {F : Int} (hF0 : 0 ≤ F) (hF1 : F ≤ 100000) : Calls Try.prog 7 #[ptr C.mb, .int .i64 F] w (GoP C picks F m) := by
  have hmf : ∀ (fn : Fn) (first cap : Array Value) (w : World), (Instr.makeFunc fn first cap).run Try.prog w = .ok (.func fn first cap) w := fun _ _ _ _ => rfl
  have P0 : Hid (PS C 0 (KH w.heap.size 0) (w.alloc (.cells #[.int .i64 0] 31)) picks tb m) := h.addK 0
  have HBS : Hid (C.base ≤ w.heap.size) := by
    obtain ⟨pv, own, L, hp, -⟩ := h.pr
    exact hp.ow.bs
  have H0 : Hid (m.how = 0 ∧ m.steps = 0) := ⟨h0, hs0⟩
  clear h h0 hs0
  go_enter_defers Try.func7, Try.ntmps7
  go_wp2_with fail
  obtain ⟨hk, hhk⟩ : ∃ hk, hk = w.heap.size := ⟨_, rfl⟩
  rw [← hhk] at P0 HBS ⊢
  generalize w.alloc (.cells #[.int .i64 0] 31) = wa at *
  clear hhk
  go_loopg [8] (F.toNat + 1) (fun gg _ wr => ∃ (m1 : Mc) (ps1 : List Int) (tb1 : List Nat) (k : Nat) (s : Nat), gg = F.toNat + 1 - s ∧ Hid (m1.how = 0) ∧ Hid (m1.steps = (s : Int)) ∧ Hid (s ≤ F.toNat) ∧ Hid (ps1 = picks.drop k) ∧ Hid (runM C.code picks F (F.toNat + 1) 0 m = runM C.code picks F gg k m1) ∧ Hid (PS C (2 * s) (KH hk 0) wr ps1 tb1 m1))
  case atStart => exact ⟨m, picks, tb, 0, 0, rfl, H0.out.1, H0.out.2, Nat.zero_le _, by show picks = _; simp, rfl, P0.out⟩
  case round =>
    obtain ⟨m1, ps1, tb1, k, s, hgk, HM0, HMS, HSF, HPS, HR, HP⟩ := hrel
    have HG : Hid (gk = F.toNat + 1 - s) := hgk
    clear hgk
    have hFs : Hid (s ≤ F.toNat ∧ 0 ≤ F ∧ F ≤ 100000) := ⟨HSF.out, hF0, hF1⟩
    obtain ⟨y0, yz, yl⟩ := HP.out.kh
    have NX := next_c HP.out
    have HPK : Hid ((ps1[0]?).getD 0 = (picks[k]?).getD 0) := by show _ = _; rw [HPS.out, List.getElem?_drop, Nat.add_zero]
    obtain ⟨n, hn⟩ : ∃ n, gk = n + 1 := ⟨F.toNat - s, by rw [HG.out]; have := HSF.out; omega⟩
    have HN1 : Hid (gk = n + 1) := hn
    clear hn
    rcases alone_spec m1 C.code m1.ths 0 with ⟨ha, hall⟩ | ⟨t, th, ha, ht, ho, hme⟩
    · have HAM : Hid (∀ (t : Nat) (th : Th), m1.ths[t]? = some th → th.over = false → (meetB m1 C.code t th).1 = true) := fun t th h1 h2 => by have := hall t th h1 h2; rwa [Nat.zero_add] at this
      rcases choose_spec m1 C.code ((ps1[0]?).getD 0) m1.ths 0 (-1) with hc | ⟨t, th, hc, ht, ho⟩
      · have N2 := NX.mono (R' := fun e w' => e = .returned (.tuple #[.pointer none, .bool true]) ∧ PS C (2 * s) (KH hk 0) w' ps1.tail tb1 m1) (fun e w' hh => by
          rcases hh with ⟨t, b, h1, -⟩ | ⟨p, h1, h2, h3⟩
          · have := h1.out.1
            rw [ha] at this
            omega
          · have := h1.out.2
            rw [hc] at this
            obtain rfl := this.eq (.inl ⟨by decide, rfl⟩)
            exact ⟨h2, h3⟩)
        have HE : Hid (runM C.code picks F (F.toNat + 1) 0 m = m1.finM) := by show _ = _; rw [HR.out, HN1.out]; exact run_end HM0.out ha (by rw [← HPK.out, hc]; decide)
        clear NX hall ha hc
        go_upto_region 4 with (go_at_call 12; refine N2.mono ?_; rintro e w2 ⟨rfl, h2⟩)
        have OV := over_c h2
        rw [← finM_how HM0.out] at OV
        go_wp2_with (go_at_call 13; refine OV.mono ?_; rintro e w3 ⟨rfl, hb3⟩; obtain ⟨x0, xz, xl⟩ := (h2.below hb3).kh)
        refine door_r rfl ((h2.below hb3).khs _) ?_
        exact ⟨_, _, _, by rw [HE.out], by rw [HE.out]; exact ((h2.below hb3).setK HBS.out _).finM HM0.out⟩
      · rw [Nat.zero_add] at hc
        obtain ⟨b, hb⟩ : ∃ b, tb1[t]? = some b := ⟨_, List.getElem?_eq_getElem (by rw [HP.out.tl]; exact (List.getElem?_eq_some_iff.1 ht).1)⟩
        have N2 := NX.mono (R' := fun e w' => e = .returned (.tuple #[ptr b, .bool true]) ∧ PS C (2 * s) (KH hk 0) w' ps1.tail tb1 m1) (fun e w' hh => by
          rcases hh with ⟨t', b', h1, -⟩ | ⟨p, h1, h2, h3⟩
          · have := h1.out.1
            rw [ha] at this
            omega
          · have := h1.out.2
            rw [hc] at this
            obtain rfl := this.eq (.inr ⟨t, b, rfl, hb, rfl⟩)
            exact ⟨h2, h3⟩)
        have HT : Hid (m1.ths[t]? = some th ∧ tb1[t]? = some b ∧ aloneI m1 C.code 0 m1.ths = -1 ∧ (meetB m1 C.code t th).1 = true ∧ chooseI m1 C.code ((picks[k]?).getD 0) 0 (-1) m1.ths = (t : Int)) := ⟨ht, hb, ha, HAM.out t th ht ho, by rw [← HPK.out]; exact hc⟩
        have HPT : Hid (ps1.tail = picks.drop (k + 1)) := by show _ = _; rw [HPS.out, List.tail_drop]
        clear NX hall ha hc ht hb ho
        by_cases hsF : (s : Int) = F
        · have HE : Hid (runM C.code picks F (F.toNat + 1) 0 m = m1) := by show _ = _; rw [HR.out, HN1.out]; exact run_full HM0.out (by rw [HMS.out]; omega) (.inr (by rw [HT.out.2.2.2.2]; omega))
          go_upto_region 5 with (go_at_call 12; refine N2.mono ?_; rintro e w2 ⟨rfl, h2⟩)
          obtain ⟨-, -, -, -, k7, lm, -⟩ := h2.mch
          rw [HMS.out] at k7
          obtain ⟨x0, xz, xl⟩ := h2.kh
          subst hsF
          go_wp2_with fail
          refine door_r rfl (h2.khs _) ?_
          exact ⟨_, _, _, by rw [HE.out, HM0.out], by rw [HE.out]; exact h2.setK HBS.out _⟩
        · have HLT : Hid ((s : Int) < F) := by have := hFs.out; show (s : Int) < F; omega
          go_upto_region 5 with (go_at_call 12; refine N2.mono ?_; rintro e w2 ⟨rfl, h2⟩)
          obtain ⟨-, -, -, -, k7, lm, fzm⟩ := h2.mch
          rw [HMS.out] at k7
          have fz7 := fzm 7
          have hs1 : Hid (PS C (2 * s + 1) (KH hk 0) (w2.setCell ⟨C.mb, 7, none⟩ (.int .i64 ((s : Int) + 1))) ps1.tail tb1 { m1 with steps := m1.steps + 1 }) := by
            have q := h2.steps (by have := hFs.out; omega)
            rw [HMS.out] at q ⊢
            exact q
          have hws : wrap64 ((s : Int) + 1) = (s : Int) + 1 := wrap_id (by omega) (by have := hFs.out; omega)
          have hsb : ((s : Int) == F) = false := by simp; have := HLT.out; omega
          clear fzm
          go_upto_region 8 with fail
          generalize w2.setCell ⟨C.mb, 7, none⟩ (.int .i64 ((s : Int) + 1)) = w4 at *
          have hol := hs1.out.ok.order
          have hol2 := h2.ok.order
          obtain ⟨o9, c9, k9', hap⟩ := hs1.out.drew.ord (t : Int) (by show m1.order.length + 1 ≤ 2 * s + 1; omega)
          have k9 : w4.cell? ⟨C.mb, 9, none⟩ = some (.slice o9 m1.order.length c9) := k9'
          have APw : Hid _ := hap
          clear k9'
          obtain ⟨at_, hat, d0, d1, d3, d5, d6, d7, d8, lb, -⟩ := hs1.out.thr (th := th) HT.out.1 HT.out.2.1
          have lm4 := hs1.out.size
          have HSM : Hid ({ m1 with steps := m1.steps + 1, order := m1.order ++ [(t : Int)] }.stepX C.code t th = m1.stepM C.code t th) := by show _ = _; rw [stepM_eq, met_T HT.out.2.2.2.1]
          have HRS : Hid (runM C.code picks F (F.toNat + 1) 0 m = runM C.code picks F n (k + 1) (m1.stepM C.code t th)) := by show _ = _; rw [HR.out, HN1.out]; exact run_meet HM0.out (by rw [HMS.out]; have := HLT.out; omega) HT.out.2.2.1 HT.out.2.2.2.2 HT.out.1
          have HSS : Hid ((m1.stepM C.code t th).steps = ((s + 1 : Nat) : Int)) := by show _ = _; rw [stepM_steps, HMS.out]; rfl
          clear k7 lm fz7 hws hap hol hol2 hat d0 d3 d5 d6 d7 d8
          have HNE : b ≠ C.mb := hs1.out.neb (th := th) HT.out.1 HT.out.2.1
          have SOF : Hid (∀ {N : Nat} {W : World} {m' : Mc}, PS C N (KH hk 0) W ps1.tail tb1 { m1 with steps := m1.steps + 1, order := m'.order } → (fun W => W.cell? ⟨b, 1, none⟩ = some (.int .i64 (t : Int)) ∧ b < W.heap.size ∧ C.mb < W.heap.size) W) := fun {N W m'} h => by
            obtain ⟨at_, hat, d0, d1, d3, d5, d6, d7, d8, lb, -⟩ := h.thr (th := th) HT.out.1 HT.out.2.1
            exact ⟨d1, lb, h.size⟩
          have SS0 : (fun W => W.cell? ⟨b, 1, none⟩ = some (.int .i64 (t : Int)) ∧ b < W.heap.size ∧ C.mb < W.heap.size) w4.drew := ⟨d1, lb, lm4⟩
          have SS1 : (fun W => W.cell? ⟨b, 1, none⟩ = some (.int .i64 (t : Int)) ∧ b < W.heap.size ∧ C.mb < W.heap.size) (w4.drew.alloc (.cells #[.int .i64 (t : Int)] 3)) := ⟨((al1 w4.drew _).1.cell (p := ⟨b, 1, none⟩) lb).trans d1, Nat.lt_of_lt_of_le lb (al1 w4.drew _).1.size, Nat.lt_of_lt_of_le lm4 (al1 w4.drew _).1.size⟩
          have SSB : Hid (∀ {W : World} {u : Value}, (fun W => W.cell? ⟨b, 1, none⟩ = some (.int .i64 (t : Int)) ∧ b < W.heap.size ∧ C.mb < W.heap.size) (W.setCell ⟨C.mb, 9, none⟩ u) → (fun W => W.cell? ⟨b, 1, none⟩ = some (.int .i64 (t : Int)) ∧ b < W.heap.size ∧ C.mb < W.heap.size) W) := fun {W u} h => ⟨(World.cell?_of_block (a := ⟨b, 1, none⟩) (Below.heap_setCell _ ⟨C.mb, 9, none⟩ _ _ HNE)).symm.trans h.1, by simpa using h.2.1, by simpa using h.2.2⟩
          clear HNE
          go_upto_region 9 with fail
          refine wp_region_noPanic ?_
          refine wp_region_held_drew (S := fun W => W.cell? ⟨b, 1, none⟩ = some (.int .i64 (t : Int)) ∧ b < W.heap.size ∧ C.mb < W.heap.size) (by as_aux_lemma => kernel_rfl) SS0 (fun hHeld => ?_)
          refine rtk 0 ?_
          refine rtk 1 ?_
          refine rtk 2 ?_
          refine rtk 3 ?_
          refine rtk 5 ?_
          refine rtk 6 ?_
          refine rtk 7 ?_
          refine rtk 8 ?_
          refine rr2 4 9 (fun K hK => ?_) (fun K hK => ?_)
          · go_simp
            refine rgo hK ?_ (hS := by first | exact SS0 | exact SS1 | exact SS2 | exact SS3)
            clear hK K hHeld
            intro hHeld
            refine rr1 9 (fun K hK => ?_)
            go_simp
            refine rgo hK ?_ (hS := by first | exact SS0 | exact SS1 | exact SS2 | exact SS3)
            clear hK K hHeld
            intro hHeld
            refine rr1 10 (fun K hK => ?_)
            refine step_runG 23 (by rfl) (by rfl) (by rfl) (by rfl) (APw.out _ rfl) ?_
            rintro v5 w6 ⟨⟨o5, c5, rfl⟩, ⟨u5_, z9⟩, f9, l9, h9⟩
            have SS3 := SOF.out (m' := { m1 with order := m1.order ++ [(t : Int)] }) h9
            have SS2 := SSB.out SS3
            refine rgo hK ?_ (hS := by first | exact SS0 | exact SS1 | exact SS2 | exact SS3)
            clear hK K hHeld
            intro hHeld
            refine rtk 11 ?_
            refine rtk 12 ?_
            refine rr1 13 (fun K hK => ?_)
            go_simp
            refine rgo hK ?_ (hS := by first | exact SS0 | exact SS1 | exact SS2 | exact SS3)
            clear hK K hHeld
            intro hHeld
            refine wpAnyH_done (by as_aux_lemma => kernel_rfl) ?_ _
            refine NoPanic.normal ?_
            generalize w6.setCell ⟨C.mb, 9, none⟩ (.slice o5 (m1.order.length + 1) c5) = w7 at *
            have SC := step_c h9 (t := t) (th := th) HT.out.1 HT.out.2.1 HM0.out (by have := hFs.out; omega)
            rw [HSM.out] at SC
            go_wp2_with (go_at_call 14; refine SC.mono ?_; rintro e w5 ⟨tb2, h5, (⟨hh, rfl⟩ | ⟨hh, rfl⟩)⟩; rotate_left; (obtain ⟨x0, xz, xl⟩ := h5.kh; exact door_p rfl x0 xz ⟨_, _, _, by rw [HRS.out, run_how hh], by rw [HRS.out, run_how hh]; exact h5.setK HBS.out _⟩))
            go_roundg n
            case measure => rw [HN1.out]; exact Nat.lt_succ_self n
            case rel => exact ⟨_, ps1.tail, tb2, k + 1, s + 1, by have := HN1.out; have := HG.out; have := hFs.out; omega, hh, HSS.out, by show s + 1 ≤ F.toNat; have := hFs.out; have := HLT.out; omega, HPT.out, HRS.out, h5⟩
          · go_simp
            refine rgo hK ?_ (hS := by first | exact SS0 | exact SS1 | exact SS2 | exact SS3)
            clear hK K hHeld
            intro hHeld
            refine rr1 4 (fun K hK => ?_)
            go_simp
            refine rgo hK ?_ (hS := by first | exact SS0 | exact SS1 | exact SS2 | exact SS3)
            clear hK K hHeld
            intro hHeld
            refine rr1 10 (fun K hK => ?_)
            refine step_runG 23 (by rfl) (by rfl) (by rfl) (by rfl) (APw.out _ rfl) ?_
            rintro v5 w6 ⟨⟨o5, c5, rfl⟩, ⟨u5_, z9⟩, f9, l9, h9⟩
            have SS3 := SOF.out (m' := { m1 with order := m1.order ++ [(t : Int)] }) h9
            have SS2 := SSB.out SS3
            refine rgo hK ?_ (hS := by first | exact SS0 | exact SS1 | exact SS2 | exact SS3)
            clear hK K hHeld
            intro hHeld
            refine rtk 11 ?_
            refine rtk 12 ?_
            refine rr1 13 (fun K hK => ?_)
            go_simp
            refine rgo hK ?_ (hS := by first | exact SS0 | exact SS1 | exact SS2 | exact SS3)
            clear hK K hHeld
            intro hHeld
            refine wpAnyH_done (by as_aux_lemma => kernel_rfl) ?_ _
            refine NoPanic.normal ?_
            generalize w6.setCell ⟨C.mb, 9, none⟩ (.slice o5 (m1.order.length + 1) c5) = w7 at *
            have SC := step_c h9 (t := t) (th := th) HT.out.1 HT.out.2.1 HM0.out (by have := hFs.out; omega)
            rw [HSM.out] at SC
            go_wp2_with (go_at_call 14; refine SC.mono ?_; rintro e w5 ⟨tb2, h5, (⟨hh, rfl⟩ | ⟨hh, rfl⟩)⟩; rotate_left; (obtain ⟨x0, xz, xl⟩ := h5.kh; exact door_p rfl x0 xz ⟨_, _, _, by rw [HRS.out, run_how hh], by rw [HRS.out, run_how hh]; exact h5.setK HBS.out _⟩))
            go_roundg n
            case measure => rw [HN1.out]; exact Nat.lt_succ_self n
            case rel => exact ⟨_, ps1.tail, tb2, k + 1, s + 1, by have := HN1.out; have := HG.out; have := hFs.out; omega, hh, HSS.out, by show s + 1 ≤ F.toNat; have := hFs.out; have := HLT.out; omega, HPT.out, HRS.out, h5⟩
    · rw [Nat.zero_add] at ha hme
      obtain ⟨b, hb⟩ : ∃ b, tb1[t]? = some b := ⟨_, List.getElem?_eq_getElem (by rw [HP.out.tl]; exact (List.getElem?_eq_some_iff.1 ht).1)⟩
      have N2 := NX.mono (R' := fun e w' => e = .returned (.tuple #[ptr b, .bool false]) ∧ PS C (2 * s) (KH hk 0) w' ps1 tb1 m1) (fun e w' hh => by
        rcases hh with ⟨t', b', h1, h2, h3⟩ | ⟨p, h1, -⟩
        · obtain ⟨h4, h5⟩ := h1.out
          rw [ha] at h4
          obtain rfl : t = t' := by omega
          rw [hb] at h5
          obtain rfl := Option.some.inj h5
          exact ⟨h2, h3⟩
        · have := h1.out.1
          rw [ha] at this
          omega)
      have HT : Hid (m1.ths[t]? = some th ∧ tb1[t]? = some b ∧ aloneI m1 C.code 0 m1.ths = (t : Int) ∧ (meetB m1 C.code t th).1 = false) := ⟨ht, hb, ha, hme⟩
      clear NX ha ht hb ho hme
      by_cases hsF : (s : Int) = F
      · have HE : Hid (runM C.code picks F (F.toNat + 1) 0 m = m1) := by show _ = _; rw [HR.out, HN1.out]; exact run_full HM0.out (by rw [HMS.out]; omega) (.inl (by rw [HT.out.2.2.1]; omega))
        go_upto_region 5 with (go_at_call 12; refine N2.mono ?_; rintro e w2 ⟨rfl, h2⟩)
        obtain ⟨-, -, -, -, k7, lm, -⟩ := h2.mch
        rw [HMS.out] at k7
        obtain ⟨x0, xz, xl⟩ := h2.kh
        subst hsF
        go_wp2_with fail
        refine door_r rfl (h2.khs _) ?_
        exact ⟨_, _, _, by rw [HE.out, HM0.out], by rw [HE.out]; exact h2.setK HBS.out _⟩
      · have HLT : Hid ((s : Int) < F) := by have := hFs.out; show (s : Int) < F; omega
        go_upto_region 5 with (go_at_call 12; refine N2.mono ?_; rintro e w2 ⟨rfl, h2⟩)
        obtain ⟨-, -, -, -, k7, lm, fzm⟩ := h2.mch
        rw [HMS.out] at k7
        have fz7 := fzm 7
        have hs1 : Hid (PS C (2 * s + 1) (KH hk 0) (w2.setCell ⟨C.mb, 7, none⟩ (.int .i64 ((s : Int) + 1))) ps1 tb1 { m1 with steps := m1.steps + 1 }) := by
          have q := h2.steps (by have := hFs.out; omega)
          rw [HMS.out] at q ⊢
          exact q
        have hws : wrap64 ((s : Int) + 1) = (s : Int) + 1 := wrap_id (by omega) (by have := hFs.out; omega)
        have hsb : ((s : Int) == F) = false := by simp; have := HLT.out; omega
        clear fzm
        go_upto_region 8 with fail
        generalize w2.setCell ⟨C.mb, 7, none⟩ (.int .i64 ((s : Int) + 1)) = w4 at *
        have SC := step_c hs1.out (t := t) (th := th) HT.out.1 HT.out.2.1 HM0.out (by have := hFs.out; omega)
        have HSM : Hid ({ m1 with steps := m1.steps + 1 }.stepX C.code t th = m1.stepM C.code t th) := by show _ = _; rw [stepM_eq, met_F HT.out.2.2.2]
        rw [HSM.out] at SC
        have HRS : Hid (runM C.code picks F (F.toNat + 1) 0 m = runM C.code picks F n k (m1.stepM C.code t th)) := by show _ = _; rw [HR.out, HN1.out]; exact run_alone HM0.out (by rw [HMS.out]; have := HLT.out; omega) HT.out.2.2.1 HT.out.1
        have HSS : Hid ((m1.stepM C.code t th).steps = ((s + 1 : Nat) : Int)) := by show _ = _; rw [stepM_steps, HMS.out]; rfl
        clear k7 lm fz7 hws
        go_wp2_with (go_at_call 14; refine SC.mono ?_; rintro e w5 ⟨tb2, h5, (⟨hh, rfl⟩ | ⟨hh, rfl⟩)⟩; rotate_left; (obtain ⟨x0, xz, xl⟩ := h5.kh; exact door_p rfl x0 xz ⟨_, _, _, by rw [HRS.out, run_how hh], by rw [HRS.out, run_how hh]; exact h5.setK HBS.out _⟩))
        go_roundg n
        case measure => rw [HN1.out]; exact Nat.lt_succ_self n
        case rel => exact ⟨_, ps1, tb2, k, s + 1, by have := HN1.out; have := HG.out; have := hFs.out; omega, hh, HSS.out, by show s + 1 ≤ F.toNat; have := hFs.out; have := HLT.out; omega, HPS.out, HRS.out, h5⟩
end
end Go.Proofs.Ytpoepbmomfohlaa
namespace Go.Proofs.Ytpoepbmomfohlaa
open Go.RowKit
set_option linter.all false
section
variable {C : Ct} {N N' : Nat} {K : Nat → Obj → Prop} {w w' w1 : World} {ps : List Int} {tb tb' : List Nat} {m m' : Mc} {t b : Nat} {th th' : Th}
def m00 : Mc := { Mc.zero with ths := [] }
theorem init_eq (arg : Int) : { m00 with ths := m00.ths ++ [Th.new 0 (stk m00.ths.length)], mem := upd m00.mem ((m00.ths.length + 1) * 4194304) arg } = Mc.init arg := by
  unfold m00 Mc.init Mc.zero stk
  simp
theorem okm00 : OKM 0 m00 := ⟨fun _ => I64_0, fun i t ht => by simp [m00] at ht, Nat.le_refl _, Nat.le_refl _, ⟨Int.le_refl _, Int.le_refl _⟩, by decide⟩
theorem PS.init {W0 w1 : World} {hb : Nat} {co : Option Addr} {cc : Nat} {code : List Mi} {pv : Value} {picks : List Int} (hm : HM w1 W0.heap.size hb 4194303 []) (hb1 : Below W0.heap.size W0 w1) (cd : CD W0 W0.heap.size co code) (c64 : ∀ x ∈ code, x.ok) (pk : PK W0 W0.heap.size pv picks) : PS ⟨W0, W0.heap.size, w1.heap.size, hb, co, cc, code⟩ 0 K0 (w1.alloc (.cells #[.slice co code.length cc, pv, ptr hb, .slice none 0 0, .slice none 0 0, .bool false, .int .i64 0, .int .i64 0, .slice none 0 0, .slice none 0 0] 41)) picks [] m00 := by
  have hA := al1 w1 (.cells #[.slice co code.length cc, pv, ptr hb, .slice none 0 0, .slice none 0 0, .bool false, .int .i64 0, .int .i64 0, .slice none 0 0, .slice none 0 0] 41)
  have kb : Below W0.heap.size W0 (w1.alloc (.cells #[.slice co code.length cc, pv, ptr hb, .slice none 0 0, .slice none 0 0, .bool false, .int .i64 0, .int .i64 0, .slice none 0 0, .slice none 0 0] 41)) := hb1.trans (hA.1.mono hb1.size)
  have hz : (w1.alloc (.cells #[.slice co code.length cc, pv, ptr hb, .slice none 0 0, .slice none 0 0, .bool false, .int .i64 0, .int .i64 0, .slice none 0 0, .slice none 0 0] 41)).heap.size = w1.heap.size + 1 := by simp
  have hs := hb1.size
  have ow : ∀ b, own1 (fun _ => none) w1.heap.size (0, 0) b ≠ none → b = w1.heap.size := fun b hn => Classical.byContradiction fun h => hn (by rw [own1_ne h])
  refine ⟨⟨pv, own1 (fun _ => none) w1.heap.size (0, 0), ⟨none, 0, [], none, 0, none, 0, none, 0⟩, ⟨⟨fun b hn => ?_, fun b hn => ?_, by show W0.heap.size ≤ _; omega⟩, hA.2, own1_at, hm.kt (KT.below hA.1), ⟨World.ownsRow_nil _ _ _ _, fun b e => by simp [Value.ownBlock] at e, fun i q hq => by simp at hq, fun _ _ _ => rfl, Nat.zero_le _⟩, World.ownsRow_nil _ _ _ _, fun b e => by simp [Value.ownBlock, m00] at e, rfl, fun t b x hx => by simp [m00] at hx, by decide, ⟨World.ownsRow_nil _ _ _ _, fun b e => by simp [Value.ownBlock, m00, Mc.zero] at e⟩, ⟨World.ownsRow_nil _ _ _ _, fun b e => by simp [Value.ownBlock, m00, Mc.zero] at e⟩, fun _ _ => rfl, fun b o h => h.elim⟩, pk.below kb⟩, cd.below kb, okm00, c64, kb⟩
  · rw [ow b hn]
    show W0.heap.size ≤ _ ∧ _
    omega
  · rw [ow b hn]
    exact ⟨_, 41, hA.2, by decide, by decide⟩
set_option maxRecDepth 100000 in
set_option maxHeartbeats 1000000 in
theorem new8 {W0 : World} {co : Option Addr} {cc : Nat} {code : List Mi} {po : Option Addr} {pl pc : Nat} {picks : List Int} {arg : Int} (harg : I64 arg) (cd : CD W0 W0.heap.size co code) (c64 : ∀ x ∈ code, x.ok) (pk : PK W0 W0.heap.size (.slice po pl pc) picks) : Calls Try.prog 6 #[.slice co code.length cc, .int .i64 arg, .slice po pl pc] W0 (fun e w' => ∃ mb hb tb, e = .returned (ptr mb) ∧ PS ⟨W0, W0.heap.size, mb, hb, co, cc, code⟩ 0 K0 w' picks tb (Mc.init arg)) := by
  have N8 := new4 (w := W0) (size := 4194303) (by decide) (by decide)
  have HI : Hid (∀ {w1 : World} {hb : Nat}, HM w1 W0.heap.size hb 4194303 [] → Below W0.heap.size W0 w1 → PS ⟨W0, W0.heap.size, w1.heap.size, hb, co, cc, code⟩ 0 K0 (w1.alloc (.cells #[.slice co code.length cc, .slice po pl pc, ptr hb, .slice none 0 0, .slice none 0 0, .bool false, .int .i64 0, .int .i64 0, .slice none 0 0, .slice none 0 0] 41)) picks [] m00) := fun h1 h2 => PS.init h1 h2 cd c64 pk
  have HA : Hid (I64 arg) := harg
  clear cd c64 pk harg
  go_enter Try.func6, Try.ntmps6
  go_upto_region 2 with (go_at_call 9; refine N8.mono ?_; rintro e w2 ⟨hb, rfl, h1, h2⟩)
  have P1 := HI.out h1 h2
  have B1 := begin_c P1 (by decide) I64_0 HA.out
  rw [init_eq] at B1
  go_wp2_with (go_at_call 10; refine B1.mono ?_; rintro e w3 ⟨rfl, b, h3⟩)
  go_ret
  exact ⟨_, hb, _, rfl, h3⟩
end
end Go.Proofs.Ytpoepbmomfohlaa
