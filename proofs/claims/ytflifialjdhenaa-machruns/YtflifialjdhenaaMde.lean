/- The document's machine: a step. -/
import Derived.Test.YtflifialjdhenaaMda
namespace Go.Proofs.Ytflifialjdhenaa
open Go.RowKit
set_option linter.all false
/-- What an instruction does, behind the thread's way on. -/
def Mc.exec (m : Mc) (t : Nat) (th : Th) (x : Mi) : Mc :=
  if x.op = 0 then (m.wr t x.a x.b).1
  else if x.op = 1 then (match m.rd t x.b with
    | (none, m1) => m1
    | (some n, _) => (m.wr t x.a n).1)
  else if x.op = 2 then (match slotR (m.fr t) t x.b with
    | (y, true) => (m.wr t x.a y).1
    | (y, false) => m.fin y)
  else if x.op = 3 then m.ldM t x else if x.op = 4 then m.stM t x else if x.op = 5 then m.opM t x
  else if x.op = 6 then m.goto t x.e
  else if x.op = 7 then (match m.rd t x.a with
    | (none, m1) => m1
    | (some n, _) => if n = 0 then m.goto t x.e else m)
  else if x.op = 8 then m.caM t th x x.a else if x.op = 9 then m.catM t th x else if x.op = 10 then m.reM t th false else if x.op = 11 then m.paM t th x else if x.op = 12 then m.reM t th true
  else if x.op = 13 then m.alM t x else if x.op = 14 then m.frM t x else if x.op = 15 then m.swM t x else if x.op = 16 then m else if x.op = 17 then m.waM t x else if x.op = 18 then m.ouM t x else if x.op = 19 then m.spM t th x
  else m.fin 9
def Mc.met (m : Mc) (code : List Mi) (t : Nat) (th : Th) : Mc := if (meetB m code t th).1 then { m with order := m.order ++ [(t : Int)] } else m
def Mc.stepM (m : Mc) (code : List Mi) (t : Nat) (th : Th) : Mc :=
  if th.abo then ({ m with steps := m.steps + 1 }.met code t th).fin 4
  else if (insAt code th.pc).2 then (({ m with steps := m.steps + 1 }.met code t th).setT t { th with pc := th.pc + 1 }).exec t { th with pc := th.pc + 1 } (insAt code th.pc).1
  else ({ m with steps := m.steps + 1 }.met code t th).fin 9
section
variable {base mb : Nat} {co : Option Addr} {cc : Nat} {code : List Mi} {N ib : Nat} {x : Mi} {w w' : World} {L L' : Ly} {m m' : Mc} {t : Nat} {th th' : Th}
theorem met_ths (m : Mc) (code : List Mi) (t : Nat) (th : Th) : (m.met code t th).ths = m.ths := by unfold Mc.met; split <;> rfl
theorem insAt_true {pc : Int} (h : (insAt code pc).2 = true) : 0 ≤ pc ∧ pc < (code.length : Int) := by
  unfold insAt at h
  split at h
  · cases h
  · split at h
    · rename_i y hy
      have := (List.getElem?_eq_some_iff.1 hy).1
      omega
    · cases h
theorem en_s (h : MS base mb co cc code N w L m) (k : Int) : Calls Try.prog 27 #[.pointer (some ⟨mb, 0, none⟩), .int .i64 k] w (fun e w' => e = .returned (.tuple #[]) ∧ MS base mb co cc code N w' L (m.fin k) ∧ Kf L L w w') := by
  refine (end36 h.mr k).mono ?_
  rintro e w' ⟨rfl, hm, kf⟩
  exact ⟨rfl, h.next hm kf (h.ok.fin _), kf⟩
set_option maxRecDepth 100000 in
set_option maxHeartbeats 4000000 in
theorem step23 (h : MS base mb co cc code N w L m) (ht : m.ths[t]? = some th) (hN : N + 2 ≤ 1000000) : Calls Try.prog 18 #[.pointer (some ⟨mb, 0, none⟩), .int .i64 t] w (MSP base mb co cc code (N + 2) w L (m.stepM code t th)) := by
  have FIN : Hid (∀ w' L' m' N', m' = m.stepM code t th → N' ≤ N + 2 → MS base mb co cc code N' w' L' m' → Kf L L' w w' → MSP base mb co cc code (N + 2) w L (m.stepM code t th) (.returned (.tuple #[])) w') := fun w' L' m' N' e hn hm hk => ⟨rfl, L', e ▸ hm.next hm.mr (Kf.refl _ _) (hm.ok.up hn hN), hk⟩
  obtain ⟨m1, hm1⟩ : ∃ m1 : Mc, m1 = { m with steps := m.steps + 1 } := ⟨_, rfl⟩
  have S0 := step_x h (by omega)
  have hst := h.ok.steps
  have c8 : w.cell? ⟨mb, 8, none⟩ = some (.int .i64 m.steps) := by rw [cell_of_row w _ 8 _ 45 (0, 0) h.mr.blk]; rfl
  have f8 := fun o => frozen_of_row w _ o _ 45 h.mr.blk
  have l8 := h.mr.lt
  have hw8 : wrap64 (m.steps + 1) = m.steps + 1 := by unfold wrap64; omega
  have HST : Hid (m.stepM code t th = if th.abo then (m1.met code t th).fin 4 else if (insAt code th.pc).2 then ((m1.met code t th).setT t { th with pc := th.pc + 1 }).exec t { th with pc := th.pc + 1 } (insAt code th.pc).1 else (m1.met code t th).fin 9) := by show _ = _; rw [hm1]; rfl
  have HT1 : Hid (m1.ths[t]? = some th) := by show _ = _; rw [hm1]; exact ht
  rw [← hm1] at S0
  have HO1 : Hid (m1.order.length + 1 ≤ N + 1) := by show _ ≤ _; rw [hm1]; have := h.ok.order; show m.order.length + 1 ≤ _; omega
  have M1 : Hid (MS base mb co cc code (N + 1) (w.setCell ⟨mb, 8, none⟩ (.int .i64 (m.steps + 1))) L m1 ∧ Kf L L w (w.setCell ⟨mb, 8, none⟩ (.int .i64 (m.steps + 1)))) := S0
  clear S0 h ht hm1 hst
  go_enter Try.func18, Try.ntmps18
  go_upto_region 1 with fail
  generalize w.setCell ⟨mb, 8, none⟩ (.int .i64 (m.steps + 1)) = wa at *
  clear c8 f8 l8 hw8
  have MT := meet_any M1.out.1 HT1.out
  obtain ⟨bm, hbm⟩ : ∃ bm, bm = (meetB m1 code t th).1 := ⟨_, rfl⟩
  obtain ⟨bn, hbn⟩ : ∃ bn, bn = (meetB m1 code t th).2 := ⟨_, rfl⟩
  rw [← hbm, ← hbn] at MT
  have HBM : Hid (bm = (meetB m1 code t th).1) := hbm
  clear hbm hbn
  go_upto_region 2 with (go_at_call 26; refine MT.mono ?_; rintro e wb ⟨rfl, hb⟩)
  have M2 : Hid (MS base mb co cc code (N + 1) wb L m1 ∧ Kf L L w wb) := ⟨(M1.out.1.below hb).1, M1.out.2.trans (M1.out.1.below hb).2⟩
  clear MT M1 hb
  obtain ⟨m2, hm2⟩ : ∃ m2, m2 = m1.met code t th := ⟨_, rfl⟩
  have HM2 : Hid (m2 = m1.met code t th) := hm2
  rw [← hm2] at HST
  have HT2 : Hid (m2.ths[t]? = some th) := by show _ = _; rw [hm2, met_ths]; exact HT1.out
  clear hm2
  cases bm
  case' true =>
    have c10 : wb.cell? ⟨mb, 10, none⟩ = some (.slice L.ro_ m1.order.length L.rc) := by rw [cell_of_row wb _ 10 _ 45 (0, 0) M2.out.1.mr.blk]; rfl
    have l10 := M2.out.1.mr.lt
    have HR : Hid (∀ ty, ∃ v' w2, (Builtin.append_ #[23, 23] ty #[.slice L.ro_ m1.order.length L.rc, .slice (some ⟨wb.heap.size, 0, none⟩) 1 1]).run Try.prog (wb.alloc (.cells #[.int .i64 t] 3)) = .ok v' w2 ∧ (∃ o' c', v' = .slice o' (m1.order.length + 1) c') ∧ w2.cell? ⟨mb, 10, none⟩ = some (.slice L.ro_ m1.order.length L.rc) ∧ w2.frozen? ⟨mb, 10, none⟩ = false ∧ mb < w2.heap.size ∧ ∃ L', MS base mb co cc code (N + 1) (w2.setCell ⟨mb, 10, none⟩ v') L' { m1 with order := m1.order ++ [(t : Int)] } ∧ Kf L L' wb (w2.setCell ⟨mb, 10, none⟩ v')) := fun ty => run_order M2.out.1 t HO1.out ty rfl
    go_upto_region 4 with (at_builtin; refine wp_runG 23 (v := .slice L.ro_ m1.order.length L.rc) (xv := .slice (some ⟨wb.heap.size, 0, none⟩) 1 1) (by rfl) (by rfl) (by rfl) (by rfl) (HR.out _) ?_; rintro v2 w2 ⟨⟨o2, c2, rfl⟩, hcc2, hff2, hll2, L3, M3, K3⟩; replace M3 : Hid _ := M3; replace K3 : Hid _ := K3)
    have h8 : m2 = { m1 with order := m1.order ++ [(t : Int)] } := by rw [HM2.out]; unfold Mc.met; rw [← HBM.out]; rfl
    have M4 : Hid (MS base mb co cc code (N + 1) (w2.setCell ⟨mb, 10, none⟩ (.slice o2 (m1.order.length + 1) c2)) L3 m2 ∧ Kf L L3 w (w2.setCell ⟨mb, 10, none⟩ (.slice o2 (m1.order.length + 1) c2))) := ⟨by rw [h8]; exact M3.out, M2.out.2.trans K3.out⟩
    clear h8
    generalize w2.setCell ⟨mb, 10, none⟩ (.slice o2 (m1.order.length + 1) c2) = w3 at *
    clear M3 K3 hcc2 hff2 hll2 c10 l10 HR
  case' false =>
    obtain ⟨L3, hL3⟩ : ∃ L3, L3 = L := ⟨_, rfl⟩
    have h8 : m2 = m1 := by rw [HM2.out]; unfold Mc.met; rw [← HBM.out]; rfl
    have M4 : Hid (MS base mb co cc code (N + 1) wb L3 m2 ∧ Kf L L3 w wb) := ⟨by rw [h8, hL3]; exact M2.out.1, by rw [hL3]; exact M2.out.2⟩
    clear h8
    clear hL3
    go_upto_region 4 with fail
    generalize wb = w3 at *
  all_goals
    clear M2 HBM HM2 HO1 HT1
    obtain ⟨g, hg, u3, ug, um, ui, v0, v4⟩ := M4.out.1.thr HT2.out
    have ui0 : (0 : Int) ≤ (t : Int) := by omega
    cases hab : th.abo with
    | true =>
      rw [hab] at v4
      have HW : Hid (m2.fin 4 = m.stepM code t th) := by show _ = _; rw [HST.out, hab]; rfl
      go_wp2_with (go_at_call 27; refine (en_s M4.out.1 4).mono ?_; rintro e w5 ⟨rfl, M5, K5⟩)
      go_end0
      exact FIN.out _ _ _ _ HW.out (by omega) M5 (M4.out.2.trans K5)
    | false =>
      rw [hab] at v4
      have IN := ins38 M4.out.1.mr M4.out.1.cd HT2.out (M4.out.1.ok.th t th HT2.out).1
      have HXO : Hid (insAt code th.pc).1.ok := insAt_ok M4.out.1.c64 th.pc
      have HTR : Hid ((insAt code th.pc).2 = true → 0 ≤ th.pc ∧ th.pc < (code.length : Int)) := insAt_true
      have HCL : Hid (code.length ≤ 9223372036854775807) := M4.out.1.cd.few
      have hst2 := HST.out
      rw [if_neg (by rw [hab]; decide)] at hst2
      obtain ⟨x, hx⟩ : ∃ x, x = (insAt code th.pc).1 := ⟨_, rfl⟩
      obtain ⟨bk, hbk⟩ : ∃ bk, bk = (insAt code th.pc).2 := ⟨_, rfl⟩
      rw [← hx, ← hbk] at IN hst2
      rw [← hx] at HXO
      rw [← hbk] at HTR
      have IN2 : Hid (Calls Try.prog 29 #[.pointer (some ⟨mb, 0, none⟩), .int .i64 t] w3 (fun e w' => e = .returned (.tuple #[.agg #[.int .i64 x.op, .int .i64 x.a, .int .i64 x.b, .int .i64 x.c, .int .i64 x.d, .int .i64 x.e], .bool bk]) ∧ Below w3.heap.size w3 w')) := IN
      have H2 : Hid (m.stepM code t th = if bk then (m2.setT t { th with pc := th.pc + 1 }).exec t { th with pc := th.pc + 1 } x else m2.fin 9) := hst2
      have M5X : Hid (∀ wc, Below w3.heap.size w3 wc → MX base mb co cc code (N + 1) wc.heap.size x (wc.alloc (.cells #[.int .i64 x.op, .int .i64 x.a, .int .i64 x.b, .int .i64 x.c, .int .i64 x.d, .int .i64 x.e] 72)) L3 m2 ∧ Kf L L3 w (wc.alloc (.cells #[.int .i64 x.op, .int .i64 x.a, .int .i64 x.b, .int .i64 x.c, .int .i64 x.d, .int .i64 x.e] 72))) := fun wc hbc => by
        have q1 := M4.out.1.below hbc
        have q2 := MX.start q1.1 x
        exact ⟨q2.1, M4.out.2.trans (q1.2.trans q2.2)⟩
      clear hst2 IN hx hbk hg HST
      cases bk with
      | false =>
        have HW : Hid (m2.fin 9 = m.stepM code t th) := by show _ = _; rw [H2.out]; rfl
        go_wp2_with (first
          | (go_at_call 27; refine (en_x M5.out.1 9).mono ?_; rintro e w6 ⟨rfl, L6, M6, K6⟩)
          | (go_at_call 29; refine IN2.out.mono ?_; rintro e wc ⟨rfl, hbc⟩; have M5 : Hid _ := M5X.out wc hbc))
        go_end0
        exact FIN.out _ _ _ _ HW.out (by omega) M6.ms (M5.out.2.trans K6)
      | true =>
        have HW : Hid (((m2.setT t { th with pc := th.pc + 1 }).exec t { th with pc := th.pc + 1 } x) = m.stepM code t th) := by show _ = _; rw [H2.out]; rfl
        have htr := HTR.out rfl
        have hcl := HCL.out
        have hwp : wrap64 (th.pc + 1) = th.pc + 1 := by unfold wrap64; omega
        have HP1 : Hid (I64 (th.pc + 1)) := ⟨by omega, by omega⟩
        clear htr hcl HTR
        go_upto_region 9 with (go_at_call 29; refine IN2.out.mono ?_; rintro e wc ⟨rfl, hbc⟩)
        have M5 : Hid _ := M5X.out wc hbc
        obtain ⟨ib, hib⟩ : ∃ ib, ib = wc.heap.size := ⟨_, rfl⟩
        rw [← hib] at M5 ⊢
        generalize wc.alloc (.cells #[.int .i64 x.op, .int .i64 x.a, .int .i64 x.b, .int .i64 x.c, .int .i64 x.d, .int .i64 x.e] 72) = wd at *
        clear hib u3 ug um ui v0 v4 IN2 M5X hbc
        obtain ⟨g', hg, u3, ug, um, ui, v0, v1, v3, v4', v5, uf⟩ := M5.out.1.thr HT2.out
        have G1 := setT_x M5.out.1 HT2.out hg (o := 0) (u := .int .i64 (th.pc + 1)) (th' := { th with pc := th.pc + 1 }) (by decide) rfl (fun r => rfl) (M5.out.1.ms.mr.th.fr t th HT2.out) HP1.out
        rw [Nat.add_zero] at G1
        have M6 : Hid (MX base mb co cc code (N + 1) ib x (wd.setCell ⟨g', t * 6, none⟩ (.int .i64 (th.pc + 1))) L3 (m2.setT t { th with pc := th.pc + 1 }) ∧ Kf L L3 w (wd.setCell ⟨g', t * 6, none⟩ (.int .i64 (th.pc + 1)))) := ⟨G1.1, M5.out.2.trans G1.2⟩
        go_upto_region 10 with fail
        generalize wd.setCell ⟨g', t * 6, none⟩ (.int .i64 (th.pc + 1)) = we at *
        clear G1 hg u3 ug um ui v0 v1 v3 v4' v5 uf M5 M4 hwp
        have HT3 : Hid ((m2.setT t { th with pc := th.pc + 1 }).ths[t]? = some { th with pc := th.pc + 1 }) := setT_at HT2.out
        generalize m2.setT t { th with pc := th.pc + 1 } = m3 at *
        generalize { th with pc := th.pc + 1 } = th3 at *
        obtain ⟨i0, i1, i2, i3, i4, i5, il⟩ := M6.out.1.cells
        have hopc : x.op = 0 ∨ x.op = 1 ∨ x.op = 2 ∨ x.op = 3 ∨ x.op = 4 ∨ x.op = 5 ∨ x.op = 6 ∨ x.op = 7 ∨ x.op = 8 ∨ x.op = 9 ∨ x.op = 10 ∨ x.op = 11 ∨ x.op = 12 ∨ x.op = 13 ∨ x.op = 14 ∨ x.op = 15 ∨ x.op = 16 ∨ x.op = 17 ∨ x.op = 18 ∨ x.op = 19 ∨ (x.op < 0 ∨ 19 < x.op) := by omega
        rcases hopc with hop | hop | hop | hop | hop | hop | hop | hop | hop | hop | hop | hop | hop | hop | hop | hop | hop | hop | hop | hop | hop
        · have HE : Hid ((m3.wr t x.a x.b).1 = m.stepM code t th) := by show _ = _; rw [← HW.out]; simp [Mc.exec, hop]
          go_wp2_with (go_at_call 30; refine (wr_x M6.out.1 HT3.out HXO.out.2.1 HXO.out.2.2.1).mono ?_; rintro e w7 ⟨rfl, L7, M7, K7⟩)
          go_end0
          exact FIN.out _ _ _ _ HE.out (by omega) M7.ms (M6.out.2.trans K7)
        · have HM64 : Hid (∀ a, I64 (m3.mem a)) := M6.out.1.ms.ok.mem
          rcases slot_cases (m3.fr t) t x.b with ⟨y, hy⟩ | ⟨y, hy⟩
          · have hrd := Mc.rd_some hy
            have R1 := rd_yes M6.out.1 HT3.out HXO.out.2.2.1 hy
            obtain ⟨v, hv⟩ : ∃ v, v = m3.mem y.toNat := ⟨_, rfl⟩
            have HV64 : Hid (I64 v) := by rw [hv]; exact HM64.out _
            rw [← hv] at R1 hrd
            clear hv hy
            have HE : Hid ((m3.wr t x.a v).1 = m.stepM code t th) := by show _ = _; rw [← HW.out]; simp [Mc.exec, hop, hrd]
            clear hrd
            go_wp2_with (first
              | (go_at_call 30; refine (wr_x M7.out HT3.out HXO.out.2.1 HV64.out).mono ?_; rintro e w8 ⟨rfl, L8, M8, K8⟩)
              | (go_at_call 31; refine R1.mono ?_; rintro e w7 ⟨rfl, L7, M7, K7⟩; replace M7 : Hid _ := M7; obtain ⟨j0, j1, j2, j3, j4, j5, jl⟩ := M7.out.cells))
            go_end0
            exact FIN.out _ _ _ _ HE.out (by omega) M8.ms (M6.out.2.trans (K7.trans K8))
          · have hrd := Mc.rd_none hy
            have HE : Hid (m3.fin y = m.stepM code t th) := by show _ = _; rw [← HW.out]; simp [Mc.exec, hop, hrd]
            have HY : Hid (slotR (m3.fr t) t x.b = (y, false)) := hy
            clear hy hrd
            go_wp2_with (go_at_call 31; refine (rd_no M6.out.1 HT3.out HXO.out.2.2.1 HY.out).mono ?_; rintro e w7 ⟨v, rfl, L7, M7, K7⟩)
            go_end0
            exact FIN.out _ _ _ _ HE.out (by omega) M7.ms (M6.out.2.trans K7)
        · rcases slot_cases (m3.fr t) t x.b with ⟨y, hy⟩ | ⟨y, hy⟩
          · have HE : Hid ((m3.wr t x.a y).1 = m.stepM code t th) := by show _ = _; rw [← HW.out]; simp [Mc.exec, hop, hy]
            have R1 := sl_yes M6.out.1 HT3.out HXO.out.2.2.1 hy
            have HY64 : Hid (I64 y) := by
              have h9 := hy
              rw [fr_eq HT3.out] at h9
              have h8 := slotR_ok h9 (M6.out.1.ms.mr.th.fr t th3 HT3.out).1 (by have := (List.getElem?_eq_some_iff.1 HT3.out).1; have := M6.out.1.ms.mr.th.few; omega)
              exact ⟨by omega, by omega⟩
            clear hy
            go_wp2_with (first
              | (go_at_call 30; refine (wr_x M7.out HT3.out HXO.out.2.1 HY64.out).mono ?_; rintro e w8 ⟨rfl, L8, M8, K8⟩)
              | (go_at_call 32; refine R1.mono ?_; rintro e w7 ⟨rfl, L7, M7, K7⟩; replace M7 : Hid _ := M7; obtain ⟨j0, j1, j2, j3, j4, j5, jl⟩ := M7.out.cells))
            go_end0
            exact FIN.out _ _ _ _ HE.out (by omega) M8.ms (M6.out.2.trans (K7.trans K8))
          · have HE : Hid (m3.fin y = m.stepM code t th) := by show _ = _; rw [← HW.out]; simp [Mc.exec, hop, hy]
            have HY : Hid (slotR (m3.fr t) t x.b = (y, false)) := hy
            clear hy
            go_wp2_with (go_at_call 32; refine (sl_no M6.out.1 HT3.out HXO.out.2.2.1 HY.out).mono ?_; rintro e w7 ⟨rfl, L7, M7, K7⟩)
            go_end0
            exact FIN.out _ _ _ _ HE.out (by omega) M7.ms (M6.out.2.trans K7)
        · have HE : Hid (m3.ldM t x = m.stepM code t th) := by show _ = _; rw [← HW.out]; simp [Mc.exec, hop]
          have e : miC x = #[.int .i64 3, .int .i64 x.a, .int .i64 x.b, .int .i64 x.c, .int .i64 x.d, .int .i64 x.e] := by unfold miC; rw [hop]
          have C := mem_ld M6.out.1.ms HT3.out HXO.out hop
          rw [e] at C
          clear e
          go_wp2_with (go_at_call 33; refine C.mono ?_; rintro e w7 ⟨rfl, L7, M7, K7⟩)
          go_end0
          exact FIN.out _ _ _ _ HE.out (by omega) M7 (M6.out.2.trans K7)
        · have HE : Hid (m3.stM t x = m.stepM code t th) := by show _ = _; rw [← HW.out]; simp [Mc.exec, hop]
          have e : miC x = #[.int .i64 4, .int .i64 x.a, .int .i64 x.b, .int .i64 x.c, .int .i64 x.d, .int .i64 x.e] := by unfold miC; rw [hop]
          have C := mem_st M6.out.1.ms HT3.out HXO.out hop
          rw [e] at C
          clear e
          go_wp2_with (go_at_call 33; refine C.mono ?_; rintro e w7 ⟨rfl, L7, M7, K7⟩)
          go_end0
          exact FIN.out _ _ _ _ HE.out (by omega) M7 (M6.out.2.trans K7)
        · have HE : Hid (m3.opM t x = m.stepM code t th) := by show _ = _; rw [← HW.out]; simp [Mc.exec, hop]
          have e : miC x = #[.int .i64 5, .int .i64 x.a, .int .i64 x.b, .int .i64 x.c, .int .i64 x.d, .int .i64 x.e] := by unfold miC; rw [hop]
          have C := op43 M6.out.1.ms HT3.out HXO.out
          rw [e] at C
          clear e
          go_wp2_with (go_at_call 34; refine C.mono ?_; rintro e w7 ⟨rfl, L7, M7, K7⟩)
          go_end0
          exact FIN.out _ _ _ _ HE.out (by omega) M7 (M6.out.2.trans K7)
        · have HE : Hid (m3.goto t x.e = m.stepM code t th) := by show _ = _; rw [← HW.out]; simp [Mc.exec, hop]
          obtain ⟨g, hg, u3, ug, um, ui, v0, v1, v3, v4', v5, uf⟩ := M6.out.1.thr HT3.out
          have ui0 : (0 : Int) ≤ (t : Int) := by omega
          go_upto_region 31 with fail
          go_region
          have GX := goto_x M6.out.1.drew HT3.out hg HXO.out.2.2.2.2.2
          go_wp2_with fail
          go_end0
          exact FIN.out _ _ _ _ HE.out (by omega) GX.1.ms (M6.out.2.trans (((Kf.refl _ _).drewN 1).trans GX.2))
        · have HM64 : Hid (∀ a, I64 (m3.mem a)) := M6.out.1.ms.ok.mem
          rcases slot_cases (m3.fr t) t x.a with ⟨y, hy⟩ | ⟨y, hy⟩
          · have hrd := Mc.rd_some hy
            have R1 := rd_yes M6.out.1 HT3.out HXO.out.2.1 hy
            obtain ⟨v, hv⟩ : ∃ v, v = m3.mem y.toNat := ⟨_, rfl⟩
            have HV64 : Hid (I64 v) := by rw [hv]; exact HM64.out _
            rw [← hv] at R1 hrd
            clear hv hy
            by_cases hv0 : v = 0
            · have HE : Hid (m3.goto t x.e = m.stepM code t th) := by show _ = _; rw [← HW.out]; simp [Mc.exec, hop, hrd, hv0]
              have hvb : (v == 0) = true := by simpa using hv0
              clear hrd hv0
              go_upto_region 35 with (go_at_call 31; refine R1.mono ?_; rintro e w7 ⟨rfl, L7, M7, K7⟩; replace M7 : Hid _ := M7; obtain ⟨j0, j1, j2, j3, j4, j5, jl⟩ := M7.out.cells)
              obtain ⟨g, hg, u3, ug, um, ui, v0, v1, v3, v4', v5, uf⟩ := M7.out.thr HT3.out
              have ui0 : (0 : Int) ≤ (t : Int) := by omega
              go_region
              have GX := goto_x M7.out.drew HT3.out hg HXO.out.2.2.2.2.2
              go_wp2_with fail
              go_end0
              exact FIN.out _ _ _ _ HE.out (by omega) GX.1.ms ((M6.out.2.trans K7).trans (((Kf.refl _ _).drewN 1).trans GX.2))
            · have HE : Hid (m3 = m.stepM code t th) := by show _ = _; rw [← HW.out]; simp [Mc.exec, hop, hrd, hv0]
              have hvb : (v == 0) = false := by simpa using hv0
              clear hrd
              go_wp2_with (go_at_call 31; refine R1.mono ?_; rintro e w7 ⟨rfl, L7, M7, K7⟩; replace M7 : Hid _ := M7; obtain ⟨j0, j1, j2, j3, j4, j5, jl⟩ := M7.out.cells)
              go_end0
              exact FIN.out _ _ _ _ HE.out (by omega) M7.out.ms (M6.out.2.trans K7)
          · have hrd := Mc.rd_none hy
            have HE : Hid (m3.fin y = m.stepM code t th) := by show _ = _; rw [← HW.out]; simp [Mc.exec, hop, hrd]
            have HY : Hid (slotR (m3.fr t) t x.a = (y, false)) := hy
            clear hy hrd
            go_wp2_with (go_at_call 31; refine (rd_no M6.out.1 HT3.out HXO.out.2.1 HY.out).mono ?_; rintro e w7 ⟨v, rfl, L7, M7, K7⟩)
            go_end0
            exact FIN.out _ _ _ _ HE.out (by omega) M7.ms (M6.out.2.trans K7)
        · have HE : Hid (m3.caM t th3 x x.a = m.stepM code t th) := by show _ = _; rw [← HW.out]; simp [Mc.exec, hop]
          have e : miC x = #[.int .i64 8, .int .i64 x.a, .int .i64 x.b, .int .i64 x.c, .int .i64 x.d, .int .i64 x.e] := by unfold miC; rw [hop]
          have C := ctl_call M6.out.1.ms HT3.out HXO.out hop (by omega)
          rw [e] at C
          clear e
          go_wp2_with (go_at_call 35; refine C.mono ?_; rintro e w7 ⟨rfl, L7, M7, K7⟩)
          go_end0
          exact FIN.out _ _ _ _ HE.out (by omega) M7 (M6.out.2.trans K7)
        · have HE : Hid (m3.catM t th3 x = m.stepM code t th) := by show _ = _; rw [← HW.out]; simp [Mc.exec, hop]
          have e : miC x = #[.int .i64 9, .int .i64 x.a, .int .i64 x.b, .int .i64 x.c, .int .i64 x.d, .int .i64 x.e] := by unfold miC; rw [hop]
          have C := ctl_callat M6.out.1.ms HT3.out HXO.out hop (by omega)
          rw [e] at C
          clear e
          go_wp2_with (go_at_call 35; refine C.mono ?_; rintro e w7 ⟨rfl, L7, M7, K7⟩)
          go_end0
          exact FIN.out _ _ _ _ HE.out (by omega) M7 (M6.out.2.trans K7)
        · have HE : Hid (m3.reM t th3 false = m.stepM code t th) := by show _ = _; rw [← HW.out]; simp [Mc.exec, hop]
          have e : miC x = #[.int .i64 10, .int .i64 x.a, .int .i64 x.b, .int .i64 x.c, .int .i64 x.d, .int .i64 x.e] := by unfold miC; rw [hop]
          have C := ctl_ret M6.out.1.ms HT3.out HXO.out hop
          rw [e] at C
          clear e
          go_wp2_with (go_at_call 35; refine C.mono ?_; rintro e w7 ⟨rfl, L7, M7, K7⟩)
          go_end0
          exact FIN.out _ _ _ _ HE.out (by omega) M7 (M6.out.2.trans K7)
        · have HE : Hid (m3.paM t th3 x = m.stepM code t th) := by show _ = _; rw [← HW.out]; simp [Mc.exec, hop]
          have e : miC x = #[.int .i64 11, .int .i64 x.a, .int .i64 x.b, .int .i64 x.c, .int .i64 x.d, .int .i64 x.e] := by unfold miC; rw [hop]
          have C := ctl_panic M6.out.1.ms HT3.out HXO.out hop
          rw [e] at C
          clear e
          go_wp2_with (go_at_call 35; refine C.mono ?_; rintro e w7 ⟨rfl, L7, M7, K7⟩)
          go_end0
          exact FIN.out _ _ _ _ HE.out (by omega) M7 (M6.out.2.trans K7)
        · have HE : Hid (m3.reM t th3 true = m.stepM code t th) := by show _ = _; rw [← HW.out]; simp [Mc.exec, hop]
          have e : miC x = #[.int .i64 12, .int .i64 x.a, .int .i64 x.b, .int .i64 x.c, .int .i64 x.d, .int .i64 x.e] := by unfold miC; rw [hop]
          have C := ctl_resume M6.out.1.ms HT3.out HXO.out hop
          rw [e] at C
          clear e
          go_wp2_with (go_at_call 35; refine C.mono ?_; rintro e w7 ⟨rfl, L7, M7, K7⟩)
          go_end0
          exact FIN.out _ _ _ _ HE.out (by omega) M7 (M6.out.2.trans K7)
        · have HE : Hid (m3.alM t x = m.stepM code t th) := by show _ = _; rw [← HW.out]; simp [Mc.exec, hop]
          have e : miC x = #[.int .i64 13, .int .i64 x.a, .int .i64 x.b, .int .i64 x.c, .int .i64 x.d, .int .i64 x.e] := by unfold miC; rw [hop]
          have C := mem_alloc M6.out.1.ms HT3.out HXO.out hop
          rw [e] at C
          clear e
          go_wp2_with (go_at_call 33; refine C.mono ?_; rintro e w7 ⟨rfl, L7, M7, K7⟩)
          go_end0
          exact FIN.out _ _ _ _ HE.out (by omega) M7 (M6.out.2.trans K7)
        · have HE : Hid (m3.frM t x = m.stepM code t th) := by show _ = _; rw [← HW.out]; simp [Mc.exec, hop]
          have e : miC x = #[.int .i64 14, .int .i64 x.a, .int .i64 x.b, .int .i64 x.c, .int .i64 x.d, .int .i64 x.e] := by unfold miC; rw [hop]
          have C := mem_free M6.out.1.ms HT3.out HXO.out hop
          rw [e] at C
          clear e
          go_wp2_with (go_at_call 33; refine C.mono ?_; rintro e w7 ⟨rfl, L7, M7, K7⟩)
          go_end0
          exact FIN.out _ _ _ _ HE.out (by omega) M7 (M6.out.2.trans K7)
        · have HE : Hid (m3.swM t x = m.stepM code t th) := by show _ = _; rw [← HW.out]; simp [Mc.exec, hop]
          have e : miC x = #[.int .i64 15, .int .i64 x.a, .int .i64 x.b, .int .i64 x.c, .int .i64 x.d, .int .i64 x.e] := by unfold miC; rw [hop]
          have C := thr_spawn M6.out.1.ms HT3.out HXO.out hop
          rw [e] at C
          clear e
          go_wp2_with (go_at_call 36; refine C.mono ?_; rintro e w7 ⟨rfl, L7, M7, K7⟩)
          go_end0
          exact FIN.out _ _ _ _ HE.out (by omega) M7 (M6.out.2.trans K7)
        · have HE : Hid (m3 = m.stepM code t th) := by show _ = _; rw [← HW.out]; simp [Mc.exec, hop]
          go_wp2_with fail
          go_end0
          exact FIN.out _ _ _ _ HE.out (by omega) M6.out.1.ms M6.out.2
        · have HE : Hid (m3.waM t x = m.stepM code t th) := by show _ = _; rw [← HW.out]; simp [Mc.exec, hop]
          have e : miC x = #[.int .i64 17, .int .i64 x.a, .int .i64 x.b, .int .i64 x.c, .int .i64 x.d, .int .i64 x.e] := by unfold miC; rw [hop]
          have C := mem_wait M6.out.1.ms HT3.out HXO.out hop
          rw [e] at C
          clear e
          go_wp2_with (go_at_call 33; refine C.mono ?_; rintro e w7 ⟨rfl, L7, M7, K7⟩)
          go_end0
          exact FIN.out _ _ _ _ HE.out (by omega) M7 (M6.out.2.trans K7)
        · have HE : Hid (m3.ouM t x = m.stepM code t th) := by show _ = _; rw [← HW.out]; simp [Mc.exec, hop]
          have e : miC x = #[.int .i64 18, .int .i64 x.a, .int .i64 x.b, .int .i64 x.c, .int .i64 x.d, .int .i64 x.e] := by unfold miC; rw [hop]
          have C := thr_out M6.out.1.ms HT3.out HXO.out hop (by omega)
          rw [e] at C
          clear e
          go_wp2_with (go_at_call 36; refine C.mono ?_; rintro e w7 ⟨rfl, L7, M7, K7⟩)
          go_end0
          exact FIN.out _ _ _ _ HE.out (by omega) M7 (M6.out.2.trans K7)
        · have HE : Hid (m3.spM t th3 x = m.stepM code t th) := by show _ = _; rw [← HW.out]; simp [Mc.exec, hop]
          have e : miC x = #[.int .i64 19, .int .i64 x.a, .int .i64 x.b, .int .i64 x.c, .int .i64 x.d, .int .i64 x.e] := by unfold miC; rw [hop]
          have C := thr_stop M6.out.1.ms HT3.out HXO.out hop
          rw [e] at C
          clear e
          go_wp2_with (go_at_call 36; refine C.mono ?_; rintro e w7 ⟨rfl, L7, M7, K7⟩)
          go_end0
          exact FIN.out _ _ _ _ HE.out (by omega) M7 (M6.out.2.trans K7)
        · have HE : Hid (m3.fin 9 = m.stepM code t th) := by
            show _ = _
            rw [← HW.out]
            unfold Mc.exec
            rw [if_neg (show ¬ x.op = 0 by omega), if_neg (show ¬ x.op = 1 by omega), if_neg (show ¬ x.op = 2 by omega), if_neg (show ¬ x.op = 3 by omega), if_neg (show ¬ x.op = 4 by omega), if_neg (show ¬ x.op = 5 by omega), if_neg (show ¬ x.op = 6 by omega), if_neg (show ¬ x.op = 7 by omega), if_neg (show ¬ x.op = 8 by omega), if_neg (show ¬ x.op = 9 by omega), if_neg (show ¬ x.op = 10 by omega), if_neg (show ¬ x.op = 11 by omega), if_neg (show ¬ x.op = 12 by omega), if_neg (show ¬ x.op = 13 by omega), if_neg (show ¬ x.op = 14 by omega), if_neg (show ¬ x.op = 15 by omega), if_neg (show ¬ x.op = 16 by omega), if_neg (show ¬ x.op = 17 by omega), if_neg (show ¬ x.op = 18 by omega), if_neg (show ¬ x.op = 19 by omega)]
          have hn0 : (x.op == 0) = false := by simp; omega
          have hn1 : (x.op == 1) = false := by simp; omega
          have hn2 : (x.op == 2) = false := by simp; omega
          have hn3 : (x.op == 3) = false := by simp; omega
          have hn4 : (x.op == 4) = false := by simp; omega
          have hn5 : (x.op == 5) = false := by simp; omega
          have hn6 : (x.op == 6) = false := by simp; omega
          have hn7 : (x.op == 7) = false := by simp; omega
          have hn8 : (x.op == 8) = false := by simp; omega
          have hn9 : (x.op == 9) = false := by simp; omega
          have hn10 : (x.op == 10) = false := by simp; omega
          have hn11 : (x.op == 11) = false := by simp; omega
          have hn12 : (x.op == 12) = false := by simp; omega
          have hn13 : (x.op == 13) = false := by simp; omega
          have hn14 : (x.op == 14) = false := by simp; omega
          have hn15 : (x.op == 15) = false := by simp; omega
          have hn16 : (x.op == 16) = false := by simp; omega
          have hn17 : (x.op == 17) = false := by simp; omega
          have hn18 : (x.op == 18) = false := by simp; omega
          have hn19 : (x.op == 19) = false := by simp; omega
          clear hop
          go_wp2_with (go_at_call 27; refine (en_x M6.out.1 9).mono ?_; rintro e w7 ⟨rfl, L7, M7, K7⟩)
          go_end0
          exact FIN.out _ _ _ _ HE.out (by omega) M7.ms (M6.out.2.trans K7)
end
end Go.Proofs.Ytflifialjdhenaa
namespace Go.Proofs.Ytflifialjdhenaa
open Go.RowKit
set_option linter.all false
/-- The first thread from number i on whose next step is no meeting; -1: none. -/
def aloneI (m : Mc) (code : List Mi) : Nat → List Th → Int
  | _, [] => -1
  | i, th :: r => if !th.over && !(meetB m code i th).1 then (i : Int) else aloneI m code (i + 1) r
theorem ms_lt {j l : Nat} (h : j < l) : l - (j + 1) < l - j := by omega
section
variable {base mb : Nat} {co : Option Addr} {cc : Nat} {code : List Mi} {N ib : Nat} {x : Mi} {w w' : World} {L L' : Ly} {m m' : Mc} {t : Nat} {th th' : Th}
theorem MS.over (h : MS base mb co cc code N w L m) (ht : m.ths[t]? = some th) {g : Nat} (hg : L.to_ = some ⟨g, 0, none⟩) : w.cell? ⟨g, t * 6 + 5, none⟩ = some (.bool th.over) := by
  obtain ⟨g', r, e, hg', hr, c0, c1, c2, c3, c4, c5⟩ := h.mr.th.nth ht
  rw [hg] at e
  obtain rfl : g = g' := by simpa using e
  exact c5
set_option maxRecDepth 100000 in
set_option maxHeartbeats 2000000 in
theorem alone20 (h : MS base mb co cc code N w L m) : Calls Try.prog 15 #[.pointer (some ⟨mb, 0, none⟩)] w (fun e w' => e = .returned (.int .i64 (aloneI m code 0 m.ths)) ∧ Below w.heap.size w w') := by
  have HS : Hid (MS base mb co cc code N w L m) := h
  have hfew := h.mr.th.few
  have c3 : w.cell? ⟨mb, 3, none⟩ = some (.slice L.to_ m.ths.length L.tc) := by rw [cell_of_row w _ 3 _ 45 (0, 0) h.mr.blk]; rfl
  have lm := h.mr.lt
  clear h
  go_enter Try.func15, Try.ntmps15
  go_wp2_with fail
  go_loopg [11] m.ths.length (fun gg u wr => ∃ idx : Nat, gg = m.ths.length - idx ∧ u = .int .i64 idx ∧ idx ≤ m.ths.length ∧ Hid (aloneI m code 0 m.ths = aloneI m code idx (m.ths.drop idx)) ∧ Hid (Below w.heap.size w wr))
  case atStart => exact ⟨0, rfl, rfl, Nat.zero_le _, rfl, Below.refl _ _⟩
  case round =>
    obtain ⟨idx, hgk, rfl, hidx, HA, HB⟩ := hrel
    have HG : Hid (gk = m.ths.length - idx) := hgk
    clear hgk
    by_cases hlt : idx < m.ths.length
    · have hltI : (idx : Int) < (m.ths.length : Int) := by omega
      have hi0 : (0 : Int) ≤ (idx : Int) := by omega
      obtain ⟨th, ht⟩ : ∃ th, m.ths[idx]? = some th := ⟨_, List.getElem?_eq_getElem hlt⟩
      have hd : m.ths.drop idx = th :: m.ths.drop (idx + 1) := by
        obtain ⟨e1, e2⟩ := List.getElem?_eq_some_iff.1 ht
        rw [List.drop_eq_getElem_cons e1, e2]
      have M1 : Hid (MS base mb co cc code N wr L m) := (HS.out.below HB.out).1
      obtain ⟨g, hg, u3, ug, um, ui, v0, v4⟩ := M1.out.thr ht
      have v5 := M1.out.over ht hg
      have MT := meet_any M1.out ht
      have hA := HA.out
      rw [hd] at hA
      have HA2 : Hid (aloneI m code 0 m.ths = if !th.over && !(meetB m code idx th).1 then (idx : Int) else aloneI m code (idx + 1) (m.ths.drop (idx + 1))) := hA
      obtain ⟨bm, hbm⟩ : ∃ bm, bm = (meetB m code idx th).1 := ⟨_, rfl⟩
      obtain ⟨bn, hbn⟩ : ∃ bn, bn = (meetB m code idx th).2 := ⟨_, rfl⟩
      obtain ⟨bo, hbo⟩ : ∃ bo, bo = th.over := ⟨_, rfl⟩
      rw [← hbm, ← hbn] at MT
      rw [← hbm, ← hbo] at HA2
      rw [← hbo] at v5
      clear hA hd hg hbm hbn hbo ht c3 lm v0 v4
      cases bo with
      | true =>
        have HA3 : Hid (aloneI m code 0 m.ths = aloneI m code (idx + 1) (m.ths.drop (idx + 1))) := by show _ = _; rw [HA2.out]; rfl
        go_wp2_with fail
        go_roundg (m.ths.length - (idx + 1))
        case measure => rw [HG.out]; exact ms_lt hlt
        case rel => exact ⟨idx + 1, rfl, by go_num, hlt, HA3.out, HB.out⟩
      | false =>
        cases bm with
        | true =>
          have HA3 : Hid (aloneI m code 0 m.ths = aloneI m code (idx + 1) (m.ths.drop (idx + 1))) := by show _ = _; rw [HA2.out]; rfl
          go_wp2_with (go_at_call 26; refine MT.mono ?_; rintro e w2 ⟨rfl, hb2⟩)
          go_roundg (m.ths.length - (idx + 1))
          case measure => rw [HG.out]; exact ms_lt hlt
          case rel => exact ⟨idx + 1, rfl, by go_num, hlt, HA3.out, HB.out.trans (hb2.mono HB.out.size)⟩
        | false =>
          have HA3 : Hid (aloneI m code 0 m.ths = (idx : Int)) := by show _ = _; rw [HA2.out]; rfl
          go_wp2_with (go_at_call 26; refine MT.mono ?_; rintro e w2 ⟨rfl, hb2⟩)
          try go_ret
          exact ⟨by rw [HA3.out]; rfl, HB.out.trans (hb2.mono HB.out.size)⟩
    · have hltI : ¬ (idx : Int) < (m.ths.length : Int) := by omega
      have HA3 : Hid (aloneI m code 0 m.ths = -1) := by show _ = _; rw [HA.out, List.drop_of_length_le (by omega)]; rfl
      go_wp2_with fail
      go_ret
      exact ⟨by rw [HA3.out]; rfl, HB.out⟩
end
end Go.Proofs.Ytflifialjdhenaa
namespace Go.Proofs.Ytflifialjdhenaa
open Go.RowKit
set_option linter.all false
/-- Among the threads from number i on that can go on the first one that is not below a pick, or else f, or the first one. -/
def chooseI (m : Mc) (code : List Mi) (pick : Int) : Nat → Int → List Th → Int
  | _, f, [] => f
  | i, f, th :: r => if th.over || !(meetB m code i th).2 then chooseI m code pick (i + 1) f r else if pick ≤ (i : Int) then (i : Int) else chooseI m code pick (i + 1) (if f < 0 then (i : Int) else f) r
section
variable {base mb : Nat} {co : Option Addr} {cc : Nat} {code : List Mi} {N ib : Nat} {x : Mi} {w w' : World} {L L' : Ly} {m m' : Mc} {t : Nat} {th th' : Th}
set_option maxRecDepth 100000 in
set_option maxHeartbeats 2000000 in
theorem choose21 (h : MS base mb co cc code N w L m) (pick : Int) : Calls Try.prog 16 #[.pointer (some ⟨mb, 0, none⟩), .int .i64 pick] w (fun e w' => e = .returned (.int .i64 (chooseI m code pick 0 (-1) m.ths)) ∧ Below w.heap.size w w') := by
  have HS : Hid (MS base mb co cc code N w L m) := h
  have hfew := h.mr.th.few
  have c3 : w.cell? ⟨mb, 3, none⟩ = some (.slice L.to_ m.ths.length L.tc) := by rw [cell_of_row w _ 3 _ 45 (0, 0) h.mr.blk]; rfl
  have lm := h.mr.lt
  clear h
  go_enter Try.func16, Try.ntmps16
  go_wp2_with fail
  go_loopg [5, 14] m.ths.length (fun gg vf u wr => ∃ (idx : Nat) (f : Int), gg = m.ths.length - idx ∧ vf = .int .i64 f ∧ u = .int .i64 idx ∧ idx ≤ m.ths.length ∧ Hid (chooseI m code pick 0 (-1) m.ths = chooseI m code pick idx f (m.ths.drop idx)) ∧ Hid (Below w.heap.size w wr))
  case atStart => exact ⟨0, -1, rfl, rfl, rfl, Nat.zero_le _, rfl, Below.refl _ _⟩
  case round =>
    obtain ⟨idx, f, hgk, rfl, rfl, hidx, HA, HB⟩ := hrel
    have HG : Hid (gk = m.ths.length - idx) := hgk
    clear hgk
    by_cases hlt : idx < m.ths.length
    · have hltI : (idx : Int) < (m.ths.length : Int) := by omega
      have hi0 : (0 : Int) ≤ (idx : Int) := by omega
      obtain ⟨th, ht⟩ : ∃ th, m.ths[idx]? = some th := ⟨_, List.getElem?_eq_getElem hlt⟩
      have hd : m.ths.drop idx = th :: m.ths.drop (idx + 1) := by
        obtain ⟨e1, e2⟩ := List.getElem?_eq_some_iff.1 ht
        rw [List.drop_eq_getElem_cons e1, e2]
      have M1 : Hid (MS base mb co cc code N wr L m) := (HS.out.below HB.out).1
      obtain ⟨g, hg, u3, ug, um, ui, v0, v4⟩ := M1.out.thr ht
      have v5 := M1.out.over ht hg
      have MT := meet_any M1.out ht
      have hA := HA.out
      rw [hd] at hA
      have HA2 : Hid (chooseI m code pick 0 (-1) m.ths = if th.over || !(meetB m code idx th).2 then chooseI m code pick (idx + 1) f (m.ths.drop (idx + 1)) else if pick ≤ (idx : Int) then (idx : Int) else chooseI m code pick (idx + 1) (if f < 0 then (idx : Int) else f) (m.ths.drop (idx + 1))) := hA
      obtain ⟨bm, hbm⟩ : ∃ bm, bm = (meetB m code idx th).1 := ⟨_, rfl⟩
      obtain ⟨bn, hbn⟩ : ∃ bn, bn = (meetB m code idx th).2 := ⟨_, rfl⟩
      obtain ⟨bo, hbo⟩ : ∃ bo, bo = th.over := ⟨_, rfl⟩
      rw [← hbm, ← hbn] at MT
      rw [← hbn, ← hbo] at HA2
      rw [← hbo] at v5
      clear hA hd hg hbm hbn hbo ht c3 lm v0 v4
      cases bo with
      | true =>
        have HA3 : Hid (chooseI m code pick 0 (-1) m.ths = chooseI m code pick (idx + 1) f (m.ths.drop (idx + 1))) := by show _ = _; rw [HA2.out]; rfl
        go_wp2_with fail
        go_roundg (m.ths.length - (idx + 1))
        case measure => rw [HG.out]; exact ms_lt hlt
        case rel => exact ⟨idx + 1, f, rfl, rfl, by go_num, hlt, HA3.out, HB.out⟩
      | false =>
        cases bn with
        | false =>
          have HA3 : Hid (chooseI m code pick 0 (-1) m.ths = chooseI m code pick (idx + 1) f (m.ths.drop (idx + 1))) := by show _ = _; rw [HA2.out]; rfl
          go_wp2_with (go_at_call 26; refine MT.mono ?_; rintro e w2 ⟨rfl, hb2⟩)
          go_roundg (m.ths.length - (idx + 1))
          case measure => rw [HG.out]; exact ms_lt hlt
          case rel => exact ⟨idx + 1, f, rfl, rfl, by go_num, hlt, HA3.out, HB.out.trans (hb2.mono HB.out.size)⟩
        | true =>
          by_cases hpk : pick ≤ (idx : Int)
          · have HA3 : Hid (chooseI m code pick 0 (-1) m.ths = (idx : Int)) := by show _ = _; rw [HA2.out]; show (if pick ≤ (idx : Int) then _ else _) = _; rw [if_pos hpk]
            go_wp2_with (go_at_call 26; refine MT.mono ?_; rintro e w2 ⟨rfl, hb2⟩)
            try go_ret
            exact ⟨by rw [HA3.out]; rfl, HB.out.trans (hb2.mono HB.out.size)⟩
          · by_cases hf0 : f < 0
            · have HA3 : Hid (chooseI m code pick 0 (-1) m.ths = chooseI m code pick (idx + 1) (idx : Int) (m.ths.drop (idx + 1))) := by show _ = _; rw [HA2.out]; show (if pick ≤ (idx : Int) then _ else _) = _; rw [if_neg hpk, if_pos hf0]
              go_wp2_with (go_at_call 26; refine MT.mono ?_; rintro e w2 ⟨rfl, hb2⟩)
              go_roundg (m.ths.length - (idx + 1))
              case measure => rw [HG.out]; exact ms_lt hlt
              case rel => exact ⟨idx + 1, (idx : Int), rfl, rfl, by go_num, hlt, HA3.out, HB.out.trans (hb2.mono HB.out.size)⟩
            · have HA3 : Hid (chooseI m code pick 0 (-1) m.ths = chooseI m code pick (idx + 1) f (m.ths.drop (idx + 1))) := by show _ = _; rw [HA2.out]; show (if pick ≤ (idx : Int) then _ else _) = _; rw [if_neg hpk, if_neg hf0]
              go_wp2_with (go_at_call 26; refine MT.mono ?_; rintro e w2 ⟨rfl, hb2⟩)
              go_roundg (m.ths.length - (idx + 1))
              case measure => rw [HG.out]; exact ms_lt hlt
              case rel => exact ⟨idx + 1, f, rfl, rfl, by go_num, hlt, HA3.out, HB.out.trans (hb2.mono HB.out.size)⟩
    · have hltI : ¬ (idx : Int) < (m.ths.length : Int) := by omega
      have HA3 : Hid (chooseI m code pick 0 (-1) m.ths = f) := by show _ = _; rw [HA.out, List.drop_of_length_le (by omega)]; rfl
      go_wp2_with fail
      go_ret
      exact ⟨by rw [HA3.out]; rfl, HB.out⟩
end
end Go.Proofs.Ytflifialjdhenaa
