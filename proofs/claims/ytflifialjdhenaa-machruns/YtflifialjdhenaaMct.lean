/- The document's machine: memory. -/
import Derived.Test.YtflifialjdhenaaMcr
namespace Go.Proofs.Ytflifialjdhenaa
open Go.RowKit
set_option linter.all false
def Mc.ldM (m : Mc) (t : Nat) (x : Mi) : Mc := match m.rd t x.b with
  | (none, m1) => m1
  | (some a, _) => if m.wordB a x.c then (m.wr t x.a (m.mem (a + x.c).toNat)).1 else m.fin 9
def Mc.stM (m : Mc) (t : Nat) (x : Mi) : Mc := match m.rd t x.a with
  | (none, m1) => m1
  | (some a, _) => match m.rd t x.b with
    | (none, m1) => m1
    | (some n, _) => if m.wordB a x.c then { m with mem := upd m.mem (a + x.c).toNat n } else m.fin 9
def Mc.waM (m : Mc) (t : Nat) (x : Mi) : Mc := match m.rd t x.a with
  | (none, m1) => m1
  | (some a, _) => if m.wordB a x.c then m else m.fin 9
def Mc.alM (m : Mc) (t : Nat) (x : Mi) : Mc := match m.rd t x.b with
  | (none, m1) => m1
  | (some n, _) => if n < 1 then m.fin 9 else match halloc 4194303 m.hp n with
    | none => m.fin 7
    | some q => ({ m with hp := q.2 }.wr t x.a q.1).1
def Mc.frM (m : Mc) (t : Nat) (x : Mi) : Mc := match m.rd t x.a with
  | (none, m1) => m1
  | (some a, _) => match hfree m.hp a with
    | none => m.fin 9
    | some hp => { m with hp := hp }
section
variable {base mb : Nat} {co : Option Addr} {cc : Nat} {code : List Mi} {N ib : Nat} {x : Mi} {w w' : World} {L L' : Ly} {m m' : Mc} {t : Nat} {th : Th}
theorem word_nat {a c : Int} (h : m.wordB a c = true) (hf : m.ths.length ≤ 12) : ∃ q : Nat, a + c = (q : Int) ∧ q < 61000000 := by
  unfold Mc.wordB stk at h
  simp only [Bool.and_eq_true, decide_eq_true_eq] at h
  exact ⟨(a + c).toNat, by omega, by omega⟩
theorem hfit_ge (n : Int) : ∀ (bs : List (Int × Int)) (lo : Int), HOK 4194303 lo bs → lo ≤ (hfit n lo bs).2
  | [], _, _ => Int.le_refl _
  | (a, s) :: r, lo, ⟨h1, h2, h3⟩ => by
    unfold hfit
    split
    · have := hfit_ge n r (a + s) h3
      show lo ≤ (hfit n (a + s) r).2
      omega
    · exact Int.le_refl _
theorem halloc_64 {hp : List (Int × Int)} {n p : Int} {hp' : List (Int × Int)} (hk : HOK 4194303 1 hp) (h : halloc 4194303 hp n = some (p, hp')) : I64 p := by
  unfold halloc at h
  split at h
  · cases h
  · split at h
    · cases h
    · simp at h
      obtain ⟨rfl, -⟩ := h
      have h1 := HOK.put (n := n) (by omega) hk (by omega)
      have h2 := hfit_ge n hp 1 hk
      unfold I64
      omega
set_option maxRecDepth 100000 in
set_option maxHeartbeats 2000000 in
theorem mem_ld (h : MS base mb co cc code N w L m) (ht : m.ths[t]? = some th) (hx : x.ok) (hop : x.op = 3) : Calls Try.prog 33 #[.pointer (some ⟨mb, 0, none⟩), .int .i64 t, .agg (miC x)] w (MSP base mb co cc code N w L (m.ldM t x)) := by
  obtain ⟨M0, K0⟩ := MX.start h x
  have M0 : Hid (MX base mb co cc code N w.heap.size x (w.alloc (.cells #[.int .i64 x.op, .int .i64 x.a, .int .i64 x.b, .int .i64 x.c, .int .i64 x.d, .int .i64 x.e] 72)) L m) := M0
  have FIN : Hid (∀ w' L' m', m' = m.ldM t x → MX base mb co cc code N w.heap.size x w' L' m' → Kf L L' (w.alloc (.cells #[.int .i64 x.op, .int .i64 x.a, .int .i64 x.b, .int .i64 x.c, .int .i64 x.d, .int .i64 x.e] 72)) w' → MSP base mb co cc code N w L (m.ldM t x) (.returned (.tuple #[])) w') := fun w' L' m' e hm hk => ⟨rfl, L', e ▸ hm.ms, Kf.trans K0 hk⟩
  have HT : Hid (m.ths[t]? = some th) := ht
  have HX : Hid x.ok := hx
  have HM64 : Hid (∀ a, I64 (m.mem a)) := h.ok.mem
  have HS : Hid (MS base mb co cc code N w L m) := h
  have HOP : Hid (x.op = 3) := hop
  show Calls Try.prog 33 #[.pointer (some ⟨mb, 0, none⟩), .int .i64 t, .agg #[.int .i64 x.op, .int .i64 x.a, .int .i64 x.b, .int .i64 x.c, .int .i64 x.d, .int .i64 x.e]] w _
  clear h K0 ht hx hop
  go_enter Try.func33, Try.ntmps33
  go_upto_region 2 with fail
  obtain ⟨ib, hib⟩ : ∃ ib, ib = w.heap.size := ⟨_, rfl⟩
  rw [← hib] at M0 FIN ⊢
  generalize w.alloc (.cells #[.int .i64 x.op, .int .i64 x.a, .int .i64 x.b, .int .i64 x.c, .int .i64 x.d, .int .i64 x.e] 72) = wa at *
  obtain ⟨i0, i1, i2, i3, i4, i5, il⟩ := M0.out.cells
  clear hib
  have hop := HOP.out
  rcases slot_cases (m.fr t) t x.b with ⟨y, hy⟩ | ⟨y, hy⟩
  · obtain ⟨v, hv⟩ : ∃ v, v = m.mem y.toNat := ⟨_, rfl⟩
    have HV64 : Hid (I64 v) := by rw [hv]; exact HM64.out _
    have R1 := rd_yes M0.out HT.out HX.out.2.2.1 hy
    have hrd := Mc.rd_some hy
    rw [← hv] at R1 hrd
    have HRD : Hid (m.rd t x.b = (some v, m)) := hrd
    clear hv hy hrd
    cases hwb : m.wordB v x.c with
    | true =>
      obtain ⟨q, hq, hqb⟩ := word_nat hwb HS.out.mr.th.few
      have HW : Hid ((m.wr t x.a (m.mem q)).1 = m.ldM t x) := by show _ = _; unfold Mc.ldM; rw [HRD.out]; show _ = (if m.wordB v x.c = true then _ else _); rw [if_pos hwb, hq, Int.toNat_natCast]
      have W1 : Hid (∀ {w1 : World} {L1 : Ly}, MX base mb co cc code N ib x w1 L1 m → Calls Try.prog 55 #[.pointer (some ⟨mb, 0, none⟩), .int .i64 v, .int .i64 x.c] w1 (MXP base mb co cc code N ib x w1 L1 (.tuple #[.int .i64 q, .bool true]) m)) := fun M => by rw [← hq]; exact wd_yes M HV64.out HX.out.2.2.2.1 hwb
      have HQ : Hid (q ≤ 1152921504606846976) := Nat.le_trans (Nat.le_of_lt hqb) (by decide)
      clear hwb hq hqb
      go_upto_region 7 with (first
        | (go_at_call 55; refine (W1.out M1.out).mono ?_; rintro e w2 ⟨rfl, L2, M2, K2⟩; replace M2 : Hid _ := M2; obtain ⟨c20, c21, c22, c23, c24, c25, c2l⟩ := M2.out.cells)
        | (go_at_call 31; refine (R1).mono ?_; rintro e w1 ⟨rfl, L1, M1, K1⟩; replace M1 : Hid _ := M1; obtain ⟨c10, c11, c12, c13, c14, c15, c1l⟩ := M1.out.cells))
      go_region_with (first
        | (go_at_call 30; refine (wr_x M3.out HT.out HX.out.2.1 (HM64.out q)).mono ?_; rintro e w4 ⟨rfl, L4, M4, K4⟩; replace M4 : Hid _ := M4)
        | (go_at_call 53; refine (gt_x M2.out.drew q HQ.out).mono ?_; rintro e w3 ⟨rfl, L3, M3, K3⟩; replace M3 : Hid _ := M3; obtain ⟨c30, c31, c32, c33, c34, c35, c3l⟩ := M3.out.cells))
      all_goals
        go_wp2_with fail
        go_end0
        exact FIN.out _ _ _ HW.out M4.out ((K1.trans K2).trans (((Kf.refl _ _).drewN 1).trans (K3.trans K4)))
    | false =>
      have HW : Hid (m.fin 9 = m.ldM t x) := by show _ = _; unfold Mc.ldM; rw [HRD.out]; show _ = (if m.wordB v x.c = true then _ else _); rw [hwb]; rfl
      have HB : Hid (m.wordB v x.c = false) := hwb
      clear hwb
      go_wp2_with (first
        | (go_at_call 55; refine (wd_no M1.out HV64.out HX.out.2.2.2.1 HB.out).mono ?_; rintro e w2 ⟨rfl, L2, M2, K2⟩; replace M2 : Hid _ := M2)
        | (go_at_call 31; refine (R1).mono ?_; rintro e w1 ⟨rfl, L1, M1, K1⟩; replace M1 : Hid _ := M1; obtain ⟨c10, c11, c12, c13, c14, c15, c1l⟩ := M1.out.cells))
      go_end0
      exact FIN.out _ _ _ HW.out M2.out (K1.trans K2)
  · have HW : Hid (m.fin y = m.ldM t x) := by show _ = _; unfold Mc.ldM; rw [Mc.rd_none hy]
    have HY : Hid (slotR (m.fr t) t x.b = (y, false)) := hy
    clear hy
    go_wp2_with (go_at_call 31; refine (rd_no M0.out HT.out HX.out.2.2.1 HY.out).mono ?_; rintro e w1 ⟨v, rfl, L1, M1, K1⟩; replace M1 : Hid _ := M1)
    go_end0
    exact FIN.out _ _ _ HW.out M1.out K1
set_option maxRecDepth 100000 in
set_option maxHeartbeats 2000000 in
theorem mem_st (h : MS base mb co cc code N w L m) (ht : m.ths[t]? = some th) (hx : x.ok) (hop : x.op = 4) : Calls Try.prog 33 #[.pointer (some ⟨mb, 0, none⟩), .int .i64 t, .agg (miC x)] w (MSP base mb co cc code N w L (m.stM t x)) := by
  obtain ⟨M0, K0⟩ := MX.start h x
  have M0 : Hid (MX base mb co cc code N w.heap.size x (w.alloc (.cells #[.int .i64 x.op, .int .i64 x.a, .int .i64 x.b, .int .i64 x.c, .int .i64 x.d, .int .i64 x.e] 72)) L m) := M0
  have FIN : Hid (∀ w' L' m', m' = m.stM t x → MX base mb co cc code N w.heap.size x w' L' m' → Kf L L' (w.alloc (.cells #[.int .i64 x.op, .int .i64 x.a, .int .i64 x.b, .int .i64 x.c, .int .i64 x.d, .int .i64 x.e] 72)) w' → MSP base mb co cc code N w L (m.stM t x) (.returned (.tuple #[])) w') := fun w' L' m' e hm hk => ⟨rfl, L', e ▸ hm.ms, Kf.trans K0 hk⟩
  have HT : Hid (m.ths[t]? = some th) := ht
  have HX : Hid x.ok := hx
  have HM64 : Hid (∀ a, I64 (m.mem a)) := h.ok.mem
  have HS : Hid (MS base mb co cc code N w L m) := h
  have HOP : Hid (x.op = 4) := hop
  show Calls Try.prog 33 #[.pointer (some ⟨mb, 0, none⟩), .int .i64 t, .agg #[.int .i64 x.op, .int .i64 x.a, .int .i64 x.b, .int .i64 x.c, .int .i64 x.d, .int .i64 x.e]] w _
  clear h K0 ht hx hop
  go_enter Try.func33, Try.ntmps33
  go_upto_region 2 with fail
  obtain ⟨ib, hib⟩ : ∃ ib, ib = w.heap.size := ⟨_, rfl⟩
  rw [← hib] at M0 FIN ⊢
  generalize w.alloc (.cells #[.int .i64 x.op, .int .i64 x.a, .int .i64 x.b, .int .i64 x.c, .int .i64 x.d, .int .i64 x.e] 72) = wa at *
  obtain ⟨i0, i1, i2, i3, i4, i5, il⟩ := M0.out.cells
  clear hib
  have hop := HOP.out
  rcases slot_cases (m.fr t) t x.a with ⟨y, hy⟩ | ⟨y, hy⟩
  · obtain ⟨v, hv⟩ : ∃ v, v = m.mem y.toNat := ⟨_, rfl⟩
    have HV64 : Hid (I64 v) := by rw [hv]; exact HM64.out _
    have R1 := rd_yes M0.out HT.out HX.out.2.1 hy
    have hrd := Mc.rd_some hy
    rw [← hv] at R1 hrd
    have HRD : Hid (m.rd t x.a = (some v, m)) := hrd
    clear hv hy hrd
    rcases slot_cases (m.fr t) t x.b with ⟨z, hz⟩ | ⟨z, hz⟩
    · obtain ⟨n, hn⟩ : ∃ n, n = m.mem z.toNat := ⟨_, rfl⟩
      have HN64 : Hid (I64 n) := by rw [hn]; exact HM64.out _
      have R2 : Hid (∀ {w1 : World} {L1 : Ly}, MX base mb co cc code N ib x w1 L1 m → Calls Try.prog 31 #[.pointer (some ⟨mb, 0, none⟩), .int .i64 t, .int .i64 x.b] w1 (MXP base mb co cc code N ib x w1 L1 (.tuple #[.int .i64 n, .bool true]) m)) := fun M => by rw [hn]; exact rd_yes M HT.out HX.out.2.2.1 hz
      have hrd2 := Mc.rd_some hz
      rw [← hn] at hrd2
      have HST : Hid (m.stM t x = if m.wordB v x.c then { m with mem := upd m.mem (v + x.c).toNat n } else m.fin 9) := by show _ = _; unfold Mc.stM; rw [HRD.out]; show (match m.rd t x.b with | (none, m1) => m1 | (some n, _) => if m.wordB v x.c then { m with mem := upd m.mem (v + x.c).toNat n } else m.fin 9) = _; rw [hrd2]
      clear hn hz hrd2
      cases hwb : m.wordB v x.c with
      | true =>
        obtain ⟨q, hq, hqb⟩ := word_nat hwb HS.out.mr.th.few
        have HW : Hid ({ m with mem := upd m.mem q n } = m.stM t x) := by show _ = _; rw [HST.out, if_pos hwb, hq, Int.toNat_natCast]
        have W1 : Hid (∀ {w1 : World} {L1 : Ly}, MX base mb co cc code N ib x w1 L1 m → Calls Try.prog 55 #[.pointer (some ⟨mb, 0, none⟩), .int .i64 v, .int .i64 x.c] w1 (MXP base mb co cc code N ib x w1 L1 (.tuple #[.int .i64 q, .bool true]) m)) := fun M => by rw [← hq]; exact wd_yes M HV64.out HX.out.2.2.2.1 hwb
        have HQ : Hid (q < 61000000) := hqb
        clear hwb hq hqb
        go_wp2_with (first
          | (go_at_call 13; refine (pt_x M3.out q HQ.out HN64.out).mono ?_; rintro e w4 ⟨rfl, L4, M4, K4⟩; replace M4 : Hid _ := M4)
          | (go_at_call 55; refine (W1.out M2.out).mono ?_; rintro e w3 ⟨rfl, L3, M3, K3⟩; replace M3 : Hid _ := M3; obtain ⟨c30, c31, c32, c33, c34, c35, c3l⟩ := M3.out.cells)
          | (go_at_call 31; refine (R2.out M1.out).mono ?_; rintro e w2 ⟨rfl, L2, M2, K2⟩; replace M2 : Hid _ := M2; obtain ⟨c20, c21, c22, c23, c24, c25, c2l⟩ := M2.out.cells)
          | (go_at_call 31; refine (R1).mono ?_; rintro e w1 ⟨rfl, L1, M1, K1⟩; replace M1 : Hid _ := M1; obtain ⟨c10, c11, c12, c13, c14, c15, c1l⟩ := M1.out.cells))
        go_end0
        exact FIN.out _ _ _ HW.out M4.out ((K1.trans K2).trans (K3.trans K4))
      | false =>
        have HW : Hid (m.fin 9 = m.stM t x) := by show _ = _; rw [HST.out, hwb]; rfl
        have HB : Hid (m.wordB v x.c = false) := hwb
        clear hwb
        go_wp2_with (first
          | (go_at_call 55; refine (wd_no M2.out HV64.out HX.out.2.2.2.1 HB.out).mono ?_; rintro e w3 ⟨rfl, L3, M3, K3⟩; replace M3 : Hid _ := M3)
          | (go_at_call 31; refine (R2.out M1.out).mono ?_; rintro e w2 ⟨rfl, L2, M2, K2⟩; replace M2 : Hid _ := M2; obtain ⟨c20, c21, c22, c23, c24, c25, c2l⟩ := M2.out.cells)
          | (go_at_call 31; refine (R1).mono ?_; rintro e w1 ⟨rfl, L1, M1, K1⟩; replace M1 : Hid _ := M1; obtain ⟨c10, c11, c12, c13, c14, c15, c1l⟩ := M1.out.cells))
        go_end0
        exact FIN.out _ _ _ HW.out M3.out ((K1.trans K2).trans K3)
    · have HW : Hid (m.fin z = m.stM t x) := by show _ = _; unfold Mc.stM; rw [HRD.out]; show _ = (match m.rd t x.b with | (none, m1) => m1 | (some n, _) => if m.wordB v x.c then { m with mem := upd m.mem (v + x.c).toNat n } else m.fin 9); rw [Mc.rd_none hz]
      have HZ : Hid (slotR (m.fr t) t x.b = (z, false)) := hz
      clear hz
      go_wp2_with (first
        | (go_at_call 31; refine (rd_no M1.out HT.out HX.out.2.2.1 HZ.out).mono ?_; rintro e w2 ⟨v2, rfl, L2, M2, K2⟩; replace M2 : Hid _ := M2)
        | (go_at_call 31; refine (R1).mono ?_; rintro e w1 ⟨rfl, L1, M1, K1⟩; replace M1 : Hid _ := M1; obtain ⟨c10, c11, c12, c13, c14, c15, c1l⟩ := M1.out.cells))
      go_end0
      exact FIN.out _ _ _ HW.out M2.out (K1.trans K2)
  · have HW : Hid (m.fin y = m.stM t x) := by show _ = _; unfold Mc.stM; rw [Mc.rd_none hy]
    have HY : Hid (slotR (m.fr t) t x.a = (y, false)) := hy
    clear hy
    go_wp2_with (go_at_call 31; refine (rd_no M0.out HT.out HX.out.2.1 HY.out).mono ?_; rintro e w1 ⟨v, rfl, L1, M1, K1⟩; replace M1 : Hid _ := M1)
    go_end0
    exact FIN.out _ _ _ HW.out M1.out K1
set_option maxRecDepth 100000 in
set_option maxHeartbeats 2000000 in
theorem mem_wait (h : MS base mb co cc code N w L m) (ht : m.ths[t]? = some th) (hx : x.ok) (hop : x.op = 17) : Calls Try.prog 33 #[.pointer (some ⟨mb, 0, none⟩), .int .i64 t, .agg (miC x)] w (MSP base mb co cc code N w L (m.waM t x)) := by
  obtain ⟨M0, K0⟩ := MX.start h x
  have M0 : Hid (MX base mb co cc code N w.heap.size x (w.alloc (.cells #[.int .i64 x.op, .int .i64 x.a, .int .i64 x.b, .int .i64 x.c, .int .i64 x.d, .int .i64 x.e] 72)) L m) := M0
  have FIN : Hid (∀ w' L' m', m' = m.waM t x → MX base mb co cc code N w.heap.size x w' L' m' → Kf L L' (w.alloc (.cells #[.int .i64 x.op, .int .i64 x.a, .int .i64 x.b, .int .i64 x.c, .int .i64 x.d, .int .i64 x.e] 72)) w' → MSP base mb co cc code N w L (m.waM t x) (.returned (.tuple #[])) w') := fun w' L' m' e hm hk => ⟨rfl, L', e ▸ hm.ms, Kf.trans K0 hk⟩
  have HT : Hid (m.ths[t]? = some th) := ht
  have HX : Hid x.ok := hx
  have HM64 : Hid (∀ a, I64 (m.mem a)) := h.ok.mem
  have HS : Hid (MS base mb co cc code N w L m) := h
  have HOP : Hid (x.op = 17) := hop
  show Calls Try.prog 33 #[.pointer (some ⟨mb, 0, none⟩), .int .i64 t, .agg #[.int .i64 x.op, .int .i64 x.a, .int .i64 x.b, .int .i64 x.c, .int .i64 x.d, .int .i64 x.e]] w _
  clear h K0 ht hx hop
  go_enter Try.func33, Try.ntmps33
  go_upto_region 2 with fail
  obtain ⟨ib, hib⟩ : ∃ ib, ib = w.heap.size := ⟨_, rfl⟩
  rw [← hib] at M0 FIN ⊢
  generalize w.alloc (.cells #[.int .i64 x.op, .int .i64 x.a, .int .i64 x.b, .int .i64 x.c, .int .i64 x.d, .int .i64 x.e] 72) = wa at *
  obtain ⟨i0, i1, i2, i3, i4, i5, il⟩ := M0.out.cells
  clear hib
  have hop := HOP.out
  rcases slot_cases (m.fr t) t x.a with ⟨y, hy⟩ | ⟨y, hy⟩
  · obtain ⟨v, hv⟩ : ∃ v, v = m.mem y.toNat := ⟨_, rfl⟩
    have HV64 : Hid (I64 v) := by rw [hv]; exact HM64.out _
    have R1 := rd_yes M0.out HT.out HX.out.2.1 hy
    have hrd := Mc.rd_some hy
    rw [← hv] at R1 hrd
    have HRD : Hid (m.rd t x.a = (some v, m)) := hrd
    clear hv hy hrd
    cases hwb : m.wordB v x.c with
    | true =>
      have HW : Hid (m = m.waM t x) := by show _ = _; unfold Mc.waM; rw [HRD.out]; show _ = (if m.wordB v x.c = true then _ else _); rw [if_pos hwb]
      have HB : Hid (m.wordB v x.c = true) := hwb
      clear hwb
      go_wp2_with (first
        | (go_at_call 55; refine (wd_yes M1.out HV64.out HX.out.2.2.2.1 HB.out).mono ?_; rintro e w2 ⟨rfl, L2, M2, K2⟩; replace M2 : Hid _ := M2)
        | (go_at_call 31; refine (R1).mono ?_; rintro e w1 ⟨rfl, L1, M1, K1⟩; replace M1 : Hid _ := M1; obtain ⟨c10, c11, c12, c13, c14, c15, c1l⟩ := M1.out.cells))
      go_end0
      exact FIN.out _ _ _ HW.out M2.out (K1.trans K2)
    | false =>
      have HW : Hid (m.fin 9 = m.waM t x) := by show _ = _; unfold Mc.waM; rw [HRD.out]; show _ = (if m.wordB v x.c = true then _ else _); rw [hwb]; rfl
      have HB : Hid (m.wordB v x.c = false) := hwb
      clear hwb
      go_wp2_with (first
        | (go_at_call 55; refine (wd_no M1.out HV64.out HX.out.2.2.2.1 HB.out).mono ?_; rintro e w2 ⟨rfl, L2, M2, K2⟩; replace M2 : Hid _ := M2)
        | (go_at_call 31; refine (R1).mono ?_; rintro e w1 ⟨rfl, L1, M1, K1⟩; replace M1 : Hid _ := M1; obtain ⟨c10, c11, c12, c13, c14, c15, c1l⟩ := M1.out.cells))
      go_end0
      exact FIN.out _ _ _ HW.out M2.out (K1.trans K2)
  · have HW : Hid (m.fin y = m.waM t x) := by show _ = _; unfold Mc.waM; rw [Mc.rd_none hy]
    have HY : Hid (slotR (m.fr t) t x.a = (y, false)) := hy
    clear hy
    go_wp2_with (go_at_call 31; refine (rd_no M0.out HT.out HX.out.2.1 HY.out).mono ?_; rintro e w1 ⟨v, rfl, L1, M1, K1⟩; replace M1 : Hid _ := M1)
    go_end0
    exact FIN.out _ _ _ HW.out M1.out K1
set_option maxRecDepth 100000 in
set_option maxHeartbeats 2000000 in
theorem mem_alloc (h : MS base mb co cc code N w L m) (ht : m.ths[t]? = some th) (hx : x.ok) (hop : x.op = 13) : Calls Try.prog 33 #[.pointer (some ⟨mb, 0, none⟩), .int .i64 t, .agg (miC x)] w (MSP base mb co cc code N w L (m.alM t x)) := by
  obtain ⟨M0, K0⟩ := MX.start h x
  have M0 : Hid (MX base mb co cc code N w.heap.size x (w.alloc (.cells #[.int .i64 x.op, .int .i64 x.a, .int .i64 x.b, .int .i64 x.c, .int .i64 x.d, .int .i64 x.e] 72)) L m) := M0
  have FIN : Hid (∀ w' L' m', m' = m.alM t x → MX base mb co cc code N w.heap.size x w' L' m' → Kf L L' (w.alloc (.cells #[.int .i64 x.op, .int .i64 x.a, .int .i64 x.b, .int .i64 x.c, .int .i64 x.d, .int .i64 x.e] 72)) w' → MSP base mb co cc code N w L (m.alM t x) (.returned (.tuple #[])) w') := fun w' L' m' e hm hk => ⟨rfl, L', e ▸ hm.ms, Kf.trans K0 hk⟩
  have HT : Hid (m.ths[t]? = some th) := ht
  have HX : Hid x.ok := hx
  have HM64 : Hid (∀ a, I64 (m.mem a)) := h.ok.mem
  have HS : Hid (MS base mb co cc code N w L m) := h
  have HOP : Hid (x.op = 13) := hop
  show Calls Try.prog 33 #[.pointer (some ⟨mb, 0, none⟩), .int .i64 t, .agg #[.int .i64 x.op, .int .i64 x.a, .int .i64 x.b, .int .i64 x.c, .int .i64 x.d, .int .i64 x.e]] w _
  clear h K0 ht hx hop
  go_enter Try.func33, Try.ntmps33
  go_upto_region 2 with fail
  obtain ⟨ib, hib⟩ : ∃ ib, ib = w.heap.size := ⟨_, rfl⟩
  rw [← hib] at M0 FIN ⊢
  generalize w.alloc (.cells #[.int .i64 x.op, .int .i64 x.a, .int .i64 x.b, .int .i64 x.c, .int .i64 x.d, .int .i64 x.e] 72) = wa at *
  obtain ⟨i0, i1, i2, i3, i4, i5, il⟩ := M0.out.cells
  clear hib
  have hop := HOP.out
  rcases slot_cases (m.fr t) t x.b with ⟨y, hy⟩ | ⟨y, hy⟩
  · obtain ⟨v, hv⟩ : ∃ v, v = m.mem y.toNat := ⟨_, rfl⟩
    have HV64 : Hid (I64 v) := by rw [hv]; exact HM64.out _
    have R1 := rd_yes M0.out HT.out HX.out.2.2.1 hy
    have hrd := Mc.rd_some hy
    rw [← hv] at R1 hrd
    have HRD : Hid (m.rd t x.b = (some v, m)) := hrd
    clear hv hy hrd
    by_cases hv1 : v < 1
    · have HW : Hid (m.fin 9 = m.alM t x) := by show _ = _; unfold Mc.alM; rw [HRD.out]; show _ = (if v < 1 then _ else _); rw [if_pos hv1]
      go_wp2_with (first
        | (go_at_call 27; refine (en_x M1.out 9).mono ?_; rintro e w2 ⟨rfl, L2, M2, K2⟩; replace M2 : Hid _ := M2)
        | (go_at_call 31; refine (R1).mono ?_; rintro e w1 ⟨rfl, L1, M1, K1⟩; replace M1 : Hid _ := M1; obtain ⟨c10, c11, c12, c13, c14, c15, c1l⟩ := M1.out.cells))
      go_end0
      exact FIN.out _ _ _ HW.out M2.out (K1.trans K2)
    · cases hal : halloc 4194303 m.hp v with
      | none =>
        have HW : Hid (m.fin 7 = m.alM t x) := by show _ = _; unfold Mc.alM; rw [HRD.out]; show _ = (if v < 1 then _ else _); rw [if_neg hv1, hal]
        have HA : Hid (halloc 4194303 m.hp v = none) := hal
        clear hal
        go_upto_region 25 with (go_at_call 31; refine (R1).mono ?_; rintro e w1 ⟨rfl, L1, M1, K1⟩; replace M1 : Hid _ := M1; obtain ⟨c10, c11, c12, c13, c14, c15, c1l⟩ := M1.out.cells)
        have hcb : w1.cell? ⟨mb, 2, none⟩ = some (.pointer (some ⟨L1.hb, 0, none⟩)) := by rw [cell_of_row w1 _ 2 _ 45 (0, 0) M1.out.ms.mr.blk]; rfl
        have hlb := M1.out.ms.mr.lt
        go_wp2_with (first
          | (go_at_call 27; refine (en_x M2.out 7).mono ?_; rintro e w3 ⟨rfl, L3, M3, K3⟩; replace M3 : Hid _ := M3)
          | (go_at_call 56; refine (al_no M1.out HV64.out HA.out).mono ?_; rintro e w2 ⟨rfl, L2, M2, K2⟩; replace M2 : Hid _ := M2; obtain ⟨c20, c21, c22, c23, c24, c25, c2l⟩ := M2.out.cells))
        go_end0
        exact FIN.out _ _ _ HW.out M3.out ((K1.trans K2).trans K3)
      | some q =>
        obtain ⟨p, hp'⟩ := q
        have HW : Hid (({ m with hp := hp' }.wr t x.a p).1 = m.alM t x) := by show _ = _; unfold Mc.alM; rw [HRD.out]; show _ = (if v < 1 then _ else _); rw [if_neg hv1, hal]
        have HA : Hid (halloc 4194303 m.hp v = some (p, hp')) := hal
        have HP64 : Hid (I64 p) := by
          obtain ⟨bo, cp, hpp, -⟩ := HS.out.mr.hp.ex
          have := halloc_64 hpp.ok hal
          exact this
        clear hal
        go_upto_region 25 with (go_at_call 31; refine (R1).mono ?_; rintro e w1 ⟨rfl, L1, M1, K1⟩; replace M1 : Hid _ := M1; obtain ⟨c10, c11, c12, c13, c14, c15, c1l⟩ := M1.out.cells)
        have hcb : w1.cell? ⟨mb, 2, none⟩ = some (.pointer (some ⟨L1.hb, 0, none⟩)) := by rw [cell_of_row w1 _ 2 _ 45 (0, 0) M1.out.ms.mr.blk]; rfl
        have hlb := M1.out.ms.mr.lt
        go_wp2_with (first
          | (go_at_call 30; refine (wr_x M2.out HT.out HX.out.2.1 HP64.out).mono ?_; rintro e w3 ⟨rfl, L3, M3, K3⟩; replace M3 : Hid _ := M3)
          | (go_at_call 56; refine (al_yes M1.out HV64.out HA.out).mono ?_; rintro e w2 ⟨rfl, L2, M2, K2⟩; replace M2 : Hid _ := M2; obtain ⟨c20, c21, c22, c23, c24, c25, c2l⟩ := M2.out.cells))
        go_end0
        exact FIN.out _ _ _ HW.out M3.out ((K1.trans K2).trans K3)
  · have HW : Hid (m.fin y = m.alM t x) := by show _ = _; unfold Mc.alM; rw [Mc.rd_none hy]
    have HY : Hid (slotR (m.fr t) t x.b = (y, false)) := hy
    clear hy
    go_wp2_with (go_at_call 31; refine (rd_no M0.out HT.out HX.out.2.2.1 HY.out).mono ?_; rintro e w1 ⟨v, rfl, L1, M1, K1⟩; replace M1 : Hid _ := M1)
    go_end0
    exact FIN.out _ _ _ HW.out M1.out K1
set_option maxRecDepth 100000 in
set_option maxHeartbeats 2000000 in
theorem mem_free (h : MS base mb co cc code N w L m) (ht : m.ths[t]? = some th) (hx : x.ok) (hop : x.op = 14) : Calls Try.prog 33 #[.pointer (some ⟨mb, 0, none⟩), .int .i64 t, .agg (miC x)] w (MSP base mb co cc code N w L (m.frM t x)) := by
  obtain ⟨M0, K0⟩ := MX.start h x
  have M0 : Hid (MX base mb co cc code N w.heap.size x (w.alloc (.cells #[.int .i64 x.op, .int .i64 x.a, .int .i64 x.b, .int .i64 x.c, .int .i64 x.d, .int .i64 x.e] 72)) L m) := M0
  have FIN : Hid (∀ w' L' m', m' = m.frM t x → MX base mb co cc code N w.heap.size x w' L' m' → Kf L L' (w.alloc (.cells #[.int .i64 x.op, .int .i64 x.a, .int .i64 x.b, .int .i64 x.c, .int .i64 x.d, .int .i64 x.e] 72)) w' → MSP base mb co cc code N w L (m.frM t x) (.returned (.tuple #[])) w') := fun w' L' m' e hm hk => ⟨rfl, L', e ▸ hm.ms, Kf.trans K0 hk⟩
  have HT : Hid (m.ths[t]? = some th) := ht
  have HX : Hid x.ok := hx
  have HM64 : Hid (∀ a, I64 (m.mem a)) := h.ok.mem
  have HS : Hid (MS base mb co cc code N w L m) := h
  have HOP : Hid (x.op = 14) := hop
  show Calls Try.prog 33 #[.pointer (some ⟨mb, 0, none⟩), .int .i64 t, .agg #[.int .i64 x.op, .int .i64 x.a, .int .i64 x.b, .int .i64 x.c, .int .i64 x.d, .int .i64 x.e]] w _
  clear h K0 ht hx hop
  go_enter Try.func33, Try.ntmps33
  go_upto_region 2 with fail
  obtain ⟨ib, hib⟩ : ∃ ib, ib = w.heap.size := ⟨_, rfl⟩
  rw [← hib] at M0 FIN ⊢
  generalize w.alloc (.cells #[.int .i64 x.op, .int .i64 x.a, .int .i64 x.b, .int .i64 x.c, .int .i64 x.d, .int .i64 x.e] 72) = wa at *
  obtain ⟨i0, i1, i2, i3, i4, i5, il⟩ := M0.out.cells
  clear hib
  have hop := HOP.out
  rcases slot_cases (m.fr t) t x.a with ⟨y, hy⟩ | ⟨y, hy⟩
  · obtain ⟨v, hv⟩ : ∃ v, v = m.mem y.toNat := ⟨_, rfl⟩
    have HV64 : Hid (I64 v) := by rw [hv]; exact HM64.out _
    have R1 := rd_yes M0.out HT.out HX.out.2.1 hy
    have hrd := Mc.rd_some hy
    rw [← hv] at R1 hrd
    have HRD : Hid (m.rd t x.a = (some v, m)) := hrd
    clear hv hy hrd
    cases hfr : hfree m.hp v with
    | none =>
      have HW : Hid (m.fin 9 = m.frM t x) := by show _ = _; unfold Mc.frM; rw [HRD.out]; show _ = (match hfree m.hp v with | none => m.fin 9 | some hp => { m with hp := hp }); rw [hfr]
      have HA : Hid (hfree m.hp v = none) := hfr
      clear hfr
      go_upto_region 31 with (go_at_call 31; refine (R1).mono ?_; rintro e w1 ⟨rfl, L1, M1, K1⟩; replace M1 : Hid _ := M1; obtain ⟨c10, c11, c12, c13, c14, c15, c1l⟩ := M1.out.cells)
      have hcb : w1.cell? ⟨mb, 2, none⟩ = some (.pointer (some ⟨L1.hb, 0, none⟩)) := by rw [cell_of_row w1 _ 2 _ 45 (0, 0) M1.out.ms.mr.blk]; rfl
      have hlb := M1.out.ms.mr.lt
      go_wp2_with (first
        | (go_at_call 27; refine (en_x M2.out 9).mono ?_; rintro e w3 ⟨rfl, L3, M3, K3⟩; replace M3 : Hid _ := M3)
        | (go_at_call 57; refine (fr_no M1.out HV64.out HA.out).mono ?_; rintro e w2 ⟨rfl, L2, M2, K2⟩; replace M2 : Hid _ := M2; obtain ⟨c20, c21, c22, c23, c24, c25, c2l⟩ := M2.out.cells))
      go_end0
      exact FIN.out _ _ _ HW.out M3.out ((K1.trans K2).trans K3)
    | some hp' =>
      have HW : Hid ({ m with hp := hp' } = m.frM t x) := by show _ = _; unfold Mc.frM; rw [HRD.out]; show _ = (match hfree m.hp v with | none => m.fin 9 | some hp => { m with hp := hp }); rw [hfr]
      have HA : Hid (hfree m.hp v = some hp') := hfr
      clear hfr
      go_upto_region 31 with (go_at_call 31; refine (R1).mono ?_; rintro e w1 ⟨rfl, L1, M1, K1⟩; replace M1 : Hid _ := M1; obtain ⟨c10, c11, c12, c13, c14, c15, c1l⟩ := M1.out.cells)
      have hcb : w1.cell? ⟨mb, 2, none⟩ = some (.pointer (some ⟨L1.hb, 0, none⟩)) := by rw [cell_of_row w1 _ 2 _ 45 (0, 0) M1.out.ms.mr.blk]; rfl
      have hlb := M1.out.ms.mr.lt
      go_wp2_with (go_at_call 57; refine (fr_yes M1.out HV64.out HA.out).mono ?_; rintro e w2 ⟨rfl, L2, M2, K2⟩; replace M2 : Hid _ := M2; obtain ⟨c20, c21, c22, c23, c24, c25, c2l⟩ := M2.out.cells)
      go_end0
      exact FIN.out _ _ _ HW.out M2.out (K1.trans K2)
  · have HW : Hid (m.fin y = m.frM t x) := by show _ = _; unfold Mc.frM; rw [Mc.rd_none hy]
    have HY : Hid (slotR (m.fr t) t x.a = (y, false)) := hy
    clear hy
    go_wp2_with (go_at_call 31; refine (rd_no M0.out HT.out HX.out.2.1 HY.out).mono ?_; rintro e w1 ⟨v, rfl, L1, M1, K1⟩; replace M1 : Hid _ := M1)
    go_end0
    exact FIN.out _ _ _ HW.out M1.out K1
end
end Go.Proofs.Ytflifialjdhenaa
namespace Go.Proofs.Ytflifialjdhenaa
open Go.RowKit
set_option linter.all false
section
variable {w w1 : World} {base mb : Nat} {cv : Value} {L : Ly} {m : Mc}
/-- A thread's calls are another row. -/
theorem MR.setCalls (h : MR w base mb cv L m) {t : Nat} {th : Th} {r : Rq} (ht : m.ths[t]? = some th) (hr : L.cr[t]? = some r) {g : Nat} (hg : L.to_ = some ⟨g, 0, none⟩) {cs : List (Int × Int × Int)} {o' : Option Addr} {c' : Nat} {own' : Nat → Option (Nat × Nat)} (row : w1.ownsRow base 96 3 (.slice o' cs.length c') cs.length (cs.map ziC).flatten) (hs : ∀ b, L.own b ≠ none → L.own b ≠ some (3, t + 1) → w1.heap[b]? = w.heap[b]?) (hb : ∀ b, b < w.heap.size → L.own b = none → w1.heap[b]? = w.heap[b]?) (hz : w.heap.size ≤ w1.heap.size) (hos : w1.os = w.os ∧ w1.tape = w.tape ∧ w1.output = w.output) (k1 : ∀ g, keepG L.own own' g) (k2 : ∀ b, own' b ≠ none → base ≤ b ∧ b < w1.heap.size) (k3 : ∀ b s, own' b = some (0, s) → b = mb) (k4 : ∀ b, b < w.heap.size → L.own b = none → own' b = none) (k5 : ∀ b, (Value.slice o' cs.length c').ownBlock = some b → own' b = some (3, t + 1)) : ∃ L', L'.to_ = L.to_ ∧ MR (w1.setCell ⟨g, t * 6 + 2, none⟩ (.slice o' cs.length c')) base mb cv L' { m with ths := m.ths.set t { th with calls := cs } } ∧ Kf L L' w (w1.setCell ⟨g, t * 6 + 2, none⟩ (.slice o' cs.length c')) := by
  have hog : L.own g = some (3, 0) := h.th.orow g (by rw [hg]; rfl)
  have htl : t < m.ths.length := (List.getElem?_eq_some_iff.1 ht).1
  have htc : t < L.cr.length := by rw [h.th.crl]; exact htl
  have hs2 : ∀ b, b ≠ g → L.own b ≠ none → L.own b ≠ some (3, t + 1) → (w1.setCell ⟨g, t * 6 + 2, none⟩ (.slice o' cs.length c')).heap[b]? = w.heap[b]? := fun b hb h1 h2 => (Below.heap_setCell _ ⟨g, t * 6 + 2, none⟩ _ _ hb).trans (hs b h1 h2)
  have hsg : ∀ gr, gr ≠ 3 → sameG L.own gr w (w1.setCell ⟨g, t * 6 + 2, none⟩ (.slice o' cs.length c')) := fun gr hgr b s e => hs2 b (fun e2 => by
    rw [e2, hog] at e
    simp at e
    omega) (by rw [e]; simp) (by rw [e]; simp; omega)
  refine ⟨{ L with own := own', cr := L.cr.set t ⟨o', c'⟩ }, rfl, ⟨?_, k1 0 mb 0 h.omb, h.hp.frame (hsg 1 (by decide)) (k1 1), h.pg.frame (hsg 2 (by decide)) (k1 2), ?_, h.ou.frame (hsg 4 (by decide)) (k1 4), h.or_.frame (hsg 5 (by decide)) (k1 5), h.hbase, fun b hn => ⟨(k2 b hn).1, by simpa using (k2 b hn).2⟩, k3⟩, ⟨⟨?_, ?_, ?_, by simpa using hz, fun b hb2 hn => ?_⟩, k4, rfl⟩⟩
  · rw [hs2 mb (fun e => by
      have := h.omb
      rw [e, hog] at this
      simp at this) (by rw [h.omb]; simp) (by rw [h.omb]; simp), h.blk]
    show some (Obj.cells (mcC cv L m) 45 (0, 0)) = some (Obj.cells (mcC cv { L with own := own', cr := L.cr.set t ⟨o', c'⟩ } { m with ths := m.ths.set t { th with calls := cs } }) 45 (0, 0))
    unfold mcC
    simp
  · refine ⟨?_, ?_, ?_, ?_, ?_, ?_⟩
    · show World.ownsRow _ _ _ _ (.slice L.to_ (m.ths.set t { th with calls := cs }).length L.tc) (m.ths.set t { th with calls := cs }).length (((m.ths.set t { th with calls := cs }).zip (L.cr.set t ⟨o', c'⟩)).map thC).flatten
      have ez : (m.ths.set t { th with calls := cs }).zip (L.cr.set t ⟨o', c'⟩) = (m.ths.zip L.cr).set t ({ th with calls := cs }, ⟨o', c'⟩) := by
        rw [zip_set (r := ⟨o', c'⟩) (by rw [List.getElem?_set_self htc])]
        apply List.ext_getElem?
        intro i
        by_cases hi : i = t
        · subst hi
          rw [List.getElem?_set_self (by simp; omega), List.getElem?_set_self (by simp; omega)]
        · rw [List.getElem?_set_ne (Ne.symm hi), List.getElem?_set_ne (Ne.symm hi)]
          simp only [List.zip, List.getElem?_zipWith]
          rw [List.getElem?_set_ne (Ne.symm hi)]
      rw [List.length_set, ez, List.map_set]
      have hx : ((m.ths.zip L.cr).map thC)[t]? = some (thC (th, r)) := by
        rw [List.getElem?_map, (List.getElem?_zip_eq_some (z := (th, r))).2 ⟨ht, hr⟩]
        rfl
      have hrw : w1.ownsRow base 41 6 (.slice L.to_ m.ths.length L.tc) m.ths.length ((m.ths.zip L.cr).map thC).flatten := ownsRow_same h.th.row (fun b hb' _ => hs b (by rw [h.th.orow b hb']; simp) (by rw [h.th.orow b hb']; simp))
      have h1 := ownsRow_put hrw (g := g) (by rw [hg]; rfl) (t * 6 + 2) (.slice o' cs.length c')
      rw [flat_set thC_len hx (by decide) _] at h1
      exact h1
    · show ∀ b, (Value.slice L.to_ (m.ths.set t { th with calls := cs }).length L.tc).ownBlock = some b → _
      rw [List.length_set]
      exact fun b hb' => k1 3 b 0 (h.th.orow b hb')
    · show (L.cr.set t ⟨o', c'⟩).length = (m.ths.set t { th with calls := cs }).length
      rw [List.length_set, List.length_set]
      exact h.th.crl
    · intro i t' r' ht' hr'
      have ht2 : (m.ths.set t { th with calls := cs })[i]? = some t' := ht'
      have hr2 : (L.cr.set t ⟨o', c'⟩)[i]? = some r' := hr'
      by_cases hi : i = t
      · subst hi
        rw [List.getElem?_set_self htl] at ht2
        rw [List.getElem?_set_self htc] at hr2
        obtain rfl := Option.some.inj ht2
        obtain rfl := Option.some.inj hr2
        exact ⟨ownsRow_same row (fun b hb' _ => Below.heap_setCell _ ⟨g, i * 6 + 2, none⟩ _ _ (fun e => by
          have e3 : b = g := e
          have h7 := k5 b hb'
          rw [e3, k1 3 g 0 hog] at h7
          simp at h7)), k5⟩
      · rw [List.getElem?_set_ne (Ne.symm hi)] at ht2 hr2
        obtain ⟨a1, a2⟩ := h.th.calls i t' r' ht2 hr2
        exact ⟨ownsRow_same a1 (fun b hb' _ => hs2 b (fun e => by
          have := a2 b hb'
          rw [e, hog] at this
          simp at this) (by rw [a2 b hb']; simp) (by rw [a2 b hb']; simp; omega)), fun b hb' => k1 3 b _ (a2 b hb')⟩
    · show (m.ths.set t { th with calls := cs }).length ≤ 12
      rw [List.length_set]
      exact h.th.few
    · intro i t' ht'
      have ht2 : (m.ths.set t { th with calls := cs })[i]? = some t' := ht'
      by_cases hi : i = t
      · subst hi
        rw [List.getElem?_set_self htl] at ht2
        obtain rfl := Option.some.inj ht2
        exact h.th.fr i th ht
      · rw [List.getElem?_set_ne (Ne.symm hi)] at ht2
        exact h.th.fr i t' ht2
  · exact hos.1
  · exact hos.2.1
  · exact hos.2.2
  · have hown : L.own b = none := Classical.byContradiction hn
    exact (Below.heap_setCell _ ⟨g, t * 6 + 2, none⟩ _ _ (fun e => by
      have e3 : b = g := e
      rw [e3, hog] at hown
      simp at hown)).trans (hb b hb2 hown)
end
end Go.Proofs.Ytflifialjdhenaa
namespace Go.Proofs.Ytflifialjdhenaa
open Go.RowKit
set_option linter.all false
def Mc.setT (m : Mc) (t : Nat) (th : Th) : Mc := { m with ths := m.ths.set t th }
def Mc.paM (m : Mc) (t : Nat) (th : Th) (x : Mi) : Mc := if th.unw then m.setT t { th with abo := true } else m.setT t { th with unw := true, pc := x.e }
section
variable {base mb : Nat} {co : Option Addr} {cc : Nat} {code : List Mi} {N ib : Nat} {x : Mi} {w w' : World} {L L' : Ly} {m m' : Mc} {t : Nat} {th th' : Th}
theorem setT_at (ht : m.ths[t]? = some th) : (m.setT t th').ths[t]? = some th' := List.getElem?_set_self (List.getElem?_eq_some_iff.1 ht).1
theorem setT_set {a b : Th} : (m.setT t a).setT t b = m.setT t b := by
  unfold Mc.setT
  simp
theorem setT_x (h : MX base mb co cc code N ib x w L m) (ht : m.ths[t]? = some th) {g : Nat} (hg : L.to_ = some ⟨g, 0, none⟩) {o : Nat} {u : Value} (ho : o < 6) (hc : th'.calls = th.calls) (he : ∀ r, (thC (th, r)).set o u = thC (th', r)) (hf : stk t ≤ th'.frame ∧ th'.frame < stk (t + 1)) (hp : I64 th'.pc) : MX base mb co cc code N ib x (w.setCell ⟨g, t * 6 + o, none⟩ u) L (m.setT t th') ∧ Kf L L w (w.setCell ⟨g, t * 6 + o, none⟩ u) := by
  have h1 := h.ms.mr.setTh ht hg ho hc he hf
  exact ⟨h.next h1.1 h1.2 (h.ms.ok.setTh ht hp hc), h1.2⟩
set_option maxRecDepth 100000 in
set_option maxHeartbeats 2000000 in
theorem ctl_panic (h : MS base mb co cc code N w L m) (ht : m.ths[t]? = some th) (hx : x.ok) (hop : x.op = 11) : Calls Try.prog 35 #[.pointer (some ⟨mb, 0, none⟩), .int .i64 t, .agg (miC x)] w (MSP base mb co cc code N w L (m.paM t th x)) := by
  obtain ⟨M0, K0⟩ := MX.start h x
  have M0 : Hid (MX base mb co cc code N w.heap.size x (w.alloc (.cells #[.int .i64 x.op, .int .i64 x.a, .int .i64 x.b, .int .i64 x.c, .int .i64 x.d, .int .i64 x.e] 72)) L m) := M0
  have FIN : Hid (∀ w' L' m', m' = m.paM t th x → MX base mb co cc code N w.heap.size x w' L' m' → Kf L L' (w.alloc (.cells #[.int .i64 x.op, .int .i64 x.a, .int .i64 x.b, .int .i64 x.c, .int .i64 x.d, .int .i64 x.e] 72)) w' → MSP base mb co cc code N w L (m.paM t th x) (.returned (.tuple #[])) w') := fun w' L' m' e hm hk => ⟨rfl, L', e ▸ hm.ms, Kf.trans K0 hk⟩
  have HT : Hid (m.ths[t]? = some th) := ht
  have HX : Hid x.ok := hx
  have HM64 : Hid (∀ a, I64 (m.mem a)) := h.ok.mem
  have HS : Hid (MS base mb co cc code N w L m) := h
  have HOP : Hid (x.op = 11) := hop
  show Calls Try.prog 35 #[.pointer (some ⟨mb, 0, none⟩), .int .i64 t, .agg #[.int .i64 x.op, .int .i64 x.a, .int .i64 x.b, .int .i64 x.c, .int .i64 x.d, .int .i64 x.e]] w _
  clear h K0 ht hx hop
  go_enter Try.func35, Try.ntmps35
  go_upto_region 1 with fail
  obtain ⟨ib, hib⟩ : ∃ ib, ib = w.heap.size := ⟨_, rfl⟩
  rw [← hib] at M0 FIN ⊢
  generalize w.alloc (.cells #[.int .i64 x.op, .int .i64 x.a, .int .i64 x.b, .int .i64 x.c, .int .i64 x.d, .int .i64 x.e] 72) = wa at *
  obtain ⟨i0, i1, i2, i3, i4, i5, il⟩ := M0.out.cells
  clear hib
  have hop := HOP.out
  obtain ⟨g, hg, u3, ug, um, ui, v0, v1, v3, v4', v5, uf⟩ := M0.out.thr HT.out
  have ui0 : (0 : Int) ≤ (t : Int) := by omega
  have HG : Hid (L.to_ = some ⟨g, 0, none⟩) := hg
  have HFR : Hid ((stk t ≤ th.frame ∧ th.frame < stk (t + 1)) ∧ I64 th.pc) := ⟨HS.out.mr.th.fr t th HT.out, (HS.out.ok.th t th HT.out).1⟩
  clear hg
  cases hun : th.unw with
  | true =>
    rw [hun] at v3
    have S1 := setT_x M0.out HT.out HG.out (o := 4) (u := .bool true) (th' := { th with abo := true }) (by decide) rfl (fun r => rfl) HFR.out.1 HFR.out.2
    have HW : Hid (m.setT t { th with abo := true } = m.paM t th x) := by show _ = _; unfold Mc.paM; rw [hun]; rfl
    go_wp2_with fail
    go_end0
    exact FIN.out _ _ _ HW.out S1.1 S1.2
  | false =>
    rw [hun] at v3
    have S1 := setT_x M0.out HT.out HG.out (o := 3) (u := .bool true) (th' := { th with unw := true }) (by decide) rfl (fun r => rfl) HFR.out.1 HFR.out.2
    have S2 := setT_x S1.1 (setT_at HT.out) HG.out (o := 0) (u := .int .i64 x.e) (th' := { th with unw := true, pc := x.e }) (by decide) rfl (fun r => rfl) HFR.out.1 HX.out.2.2.2.2.2
    rw [setT_set, Nat.add_zero] at S2
    have HW : Hid (m.setT t { th with unw := true, pc := x.e } = m.paM t th x) := by show _ = _; unfold Mc.paM; rw [hun]; rfl
    have S2' : Hid (MX base mb co cc code N ib x ((wa.setCell ⟨g, t * 6 + 3, none⟩ (.bool true)).setCell ⟨g, t * 6, none⟩ (.int .i64 x.e)) L (m.setT t { th with unw := true, pc := x.e }) ∧ Kf L L wa ((wa.setCell ⟨g, t * 6 + 3, none⟩ (.bool true)).setCell ⟨g, t * 6, none⟩ (.int .i64 x.e))) := ⟨S2.1, S1.2.trans S2.2⟩
    clear S1 S2
    go_wp2_with fail
    go_end0
    exact FIN.out _ _ _ HW.out S2'.out.1 S2'.out.2
end
end Go.Proofs.Ytflifialjdhenaa
