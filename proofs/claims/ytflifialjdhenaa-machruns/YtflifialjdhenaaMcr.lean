/- The document's machine: op. -/
import Derived.Test.YtflifialjdhenaaMcn
namespace Go.Proofs.Ytflifialjdhenaa
open Go.RowKit
set_option linter.all false
/-- What a step's part leaves. -/
def MSP (base mb : Nat) (co : Option Addr) (cc : Nat) (code : List Mi) (N : Nat) (w : World) (L : Ly) (m' : Mc) (e : Ending) (w' : World) : Prop := e = .returned (.tuple #[]) ∧ ∃ L', MS base mb co cc code N w' L' m' ∧ Kf L L' w w'
theorem I64_0 : I64 0 := by unfold I64; omega
theorem b2i_64 (b : Bool) : I64 (b2i b) := by cases b <;> (unfold b2i I64; simp)
theorem tdiv_64 {a b : Int} (ha : I64 a) (h0 : b ≠ 0) (h1 : ¬ (b = -1 ∧ a = -9223372036854775808)) : I64 (a.tdiv b) := by
  have h2 := Int.natAbs_tdiv a b
  unfold I64 at ha ⊢
  by_cases hb1 : b = 1
  · subst hb1
    rw [Int.tdiv_one]
    exact ha
  · by_cases hb2 : b = -1
    · subst hb2
      rw [Int.tdiv_neg, Int.tdiv_one]
      omega
    · have h3 : 2 ≤ b.natAbs := by omega
      have h4 : a.natAbs / b.natAbs ≤ a.natAbs / 2 := Nat.div_le_div_left h3 (by decide)
      have h5 : (a.tdiv b).natAbs ≤ a.natAbs / 2 := by rw [h2]; exact h4
      clear h2 h4
      omega
theorem tmod_64 {a b : Int} (ha : I64 a) : I64 (a.tmod b) := by
  have h2 := Int.natAbs_tmod a b
  have h3 := Nat.mod_le a.natAbs b.natAbs
  have h4 : 0 ≤ a → 0 ≤ a.tmod b := fun h => Int.tmod_nonneg b h
  unfold I64 at ha ⊢
  by_cases h : 0 ≤ a
  · have := h4 h; omega
  · have h5 : a.tmod b ≤ 0 := by
      have h6 := Int.tmod_nonneg b (show 0 ≤ -a by omega)
      rw [Int.neg_tmod] at h6
      omega
    omega
theorem in_64 {x : Int} (h : in64 x = true) : I64 x := by
  unfold in64 at h
  have h2 := of_decide_eq_true h
  exact h2
theorem reckon_64 {op a b : Int} (ha : I64 a) (h : (reckon op a b).2 = true) : I64 (reckon op a b).1 := by
  unfold reckon at h ⊢
  by_cases h0 : op = 0
  · rw [if_pos h0] at h ⊢; exact in_64 h
  rw [if_neg h0] at h ⊢
  by_cases h1 : op = 1
  · rw [if_pos h1] at h ⊢; exact in_64 h
  rw [if_neg h1] at h ⊢
  by_cases h2 : op = 2
  · rw [if_pos h2] at h ⊢; exact in_64 h
  rw [if_neg h2] at h ⊢
  by_cases h3 : op = 3
  · rw [if_pos h3] at h ⊢; (simp only [Bool.and_eq_true, Bool.not_eq_true', beq_eq_false_iff_ne, Bool.and_eq_false_iff] at h; exact tdiv_64 ha h.1 (fun e => by rcases h.2 with h2 | h2; exact h2 e.1; exact h2 e.2))
  rw [if_neg h3] at h ⊢
  by_cases h4 : op = 4
  · rw [if_pos h4] at h ⊢; exact tmod_64 ha
  rw [if_neg h4] at h ⊢
  by_cases h5 : op = 5
  · rw [if_pos h5] at h ⊢; exact b2i_64 _
  rw [if_neg h5] at h ⊢
  by_cases h6 : op = 6
  · rw [if_pos h6] at h ⊢; exact b2i_64 _
  rw [if_neg h6] at h ⊢
  by_cases h7 : op = 7
  · rw [if_pos h7] at h ⊢; exact b2i_64 _
  rw [if_neg h7] at h ⊢
  by_cases h8 : op = 8
  · rw [if_pos h8] at h ⊢; exact b2i_64 _
  rw [if_neg h8] at h ⊢
  by_cases h9 : op = 9
  · rw [if_pos h9] at h ⊢; exact b2i_64 _
  rw [if_neg h9] at h ⊢
  by_cases h10 : op = 10
  · rw [if_pos h10] at h ⊢; exact b2i_64 _
  rw [if_neg h10] at h ⊢
  by_cases h11 : op = 11
  · rw [if_pos h11] at h ⊢; exact in_64 h
  rw [if_neg h11] at h ⊢
  exact b2i_64 _
section
variable {base mb : Nat} {co : Option Addr} {cc : Nat} {code : List Mi} {N ib : Nat} {x : Mi} {w w' : World} {L L' : Ly} {m m' : Mc} {t : Nat} {th : Th}
set_option maxRecDepth 100000 in
set_option maxHeartbeats 2000000 in
theorem op43 (h : MS base mb co cc code N w L m) (ht : m.ths[t]? = some th) (hx : x.ok) : Calls Try.prog 34 #[.pointer (some ⟨mb, 0, none⟩), .int .i64 t, .agg (miC x)] w (MSP base mb co cc code N w L (m.opM t x)) := by
  obtain ⟨M0, K0⟩ := MX.start h x
  obtain ⟨i0, i1, i2, i3, i4, i5, il⟩ := M0.cells
  have M0 : Hid (MX base mb co cc code N w.heap.size x (w.alloc (.cells (miC x) 72)) L m) := M0
  have FIN : Hid (∀ w' L' m', m' = m.opM t x → MX base mb co cc code N w.heap.size x w' L' m' → Kf L L' (w.alloc (.cells (miC x) 72)) w' → MSP base mb co cc code N w L (m.opM t x) (.returned (.tuple #[])) w') := fun w' L' m' e hm hk => ⟨rfl, L', e ▸ hm.ms, K0.trans hk⟩
  have hop : m.opM t x = (match m.rd t x.b with
    | (none, m1) => m1
    | (some b, _) => if x.d = 11 ∨ x.d = 12 then m.op2 t x b 0 else match m.rd t x.c with
      | (none, m1) => m1
      | (some c, _) => m.op2 t x b c) := rfl
  show Calls Try.prog 34 #[.pointer (some ⟨mb, 0, none⟩), .int .i64 t, .agg #[.int .i64 x.op, .int .i64 x.a, .int .i64 x.b, .int .i64 x.c, .int .i64 x.d, .int .i64 x.e]] w _
  have HT : Hid (m.ths[t]? = some th) := ht
  have HX : Hid x.ok := hx
  have HM64 : Hid (∀ a, I64 (m.mem a)) := h.ok.mem
  clear h K0 ht hx
  rcases slot_cases (m.fr t) t x.b with ⟨y, hy⟩ | ⟨y, hy⟩
  · have HY : Hid (slotR (m.fr t) t x.b = (y, true)) := hy
    obtain ⟨b, hb⟩ : ∃ b, b = m.mem y.toNat := ⟨_, rfl⟩
    have HB64 : Hid (I64 b) := by rw [hb]; exact HM64.out _
    have R1 := rd_yes M0.out HT.out HX.out.2.2.1 hy
    rw [← hb] at R1
    rw [Mc.rd_some hy, ← hb] at hop
    clear hb
    by_cases h11 : x.d = 11
    · skip
      have HOP : Hid (m.opM t x = m.op2 t x b 0) := by show _ = _; rw [hop]; simp [h11]
      have HDD : Hid (x.d = 11) := h11
      clear hop hy HY h11
      have HY : Hid True := trivial
      go_enter Try.func34, Try.ntmps34
      go_upto_region 4 with (go_at_call 31; refine R1.mono ?_; rintro e w1 ⟨rfl, L1, M1, K1⟩; replace M1 : Hid _ := M1; obtain ⟨p0, p1, p2, p3, p4, p5, pl⟩ := M1.out.cells)
      have hdd : x.d = 11 := HDD.out
      go_upto_region 9 with fail
      have HRK : Hid (∀ W, Calls Try.prog 58 #[.int .i64 11, .int .i64 b, .int .i64 0] W (RkPost W 11 b 0)) := fun W => reckon57 (by omega) (by omega) HB64.out I64_0
      cases hrk : (reckon 11 b 0).2 with
      | true =>
        have HW : Hid ((m.wr t x.a (reckon 11 b 0).1).1 = m.opM t x) := by show _ = _; rw [HOP.out]; unfold Mc.op2; rw [if_neg (by omega)]; rw [hdd]; rw [if_pos hrk]
        have HI64 : Hid (I64 (reckon 11 b 0).1) := reckon_64 HB64.out hrk
        obtain ⟨n, hn⟩ : ∃ n, n = (reckon 11 b 0).1 := ⟨_, rfl⟩
        rw [← hn] at HW HI64
        have HRK2 : Hid (∀ W, Calls Try.prog 58 #[.int .i64 11, .int .i64 b, .int .i64 0] W (fun e w' => e = .returned (.tuple #[.int .i64 n, .bool true]) ∧ ∃ j, w' = W.drewN j)) := fun W => (HRK.out W).mono (fun e w' ⟨hj, v, he, hv⟩ => ⟨by rw [hn, ← hv hrk, he, hrk], hj⟩)
        clear hn hrk HRK HY
        go_wp2_with (first
          | (go_at_call 30; refine (wr_x M4.out HT.out HX.out.2.1 HI64.out).mono ?_; rintro e w5 ⟨rfl, L5, M5, K5⟩)
          | (go_at_call 58; refine (HRK2.out _).mono ?_; rintro e w4 ⟨rfl, j4, rfl⟩; have M4 : Hid _ := M1.out.drewN j4; obtain ⟨q0, q1, q2, q3, q4, q5, ql⟩ := M4.out.cells))
        go_end0
        exact FIN.out _ _ _ HW.out M5 ((K1).trans (((Kf.refl _ _).drewN j4).trans K5))
      | false =>
        have HW : Hid (m.goto t x.e = m.opM t x) := by show _ = _; rw [HOP.out]; unfold Mc.op2; rw [if_neg (by omega)]; rw [hdd]; rw [if_neg (by rw [hrk]; decide)]
        have HRK2 : Hid (∀ W, Calls Try.prog 58 #[.int .i64 11, .int .i64 b, .int .i64 0] W (fun e w' => ∃ v, e = .returned (.tuple #[.int .i64 v, .bool false]) ∧ ∃ j, w' = W.drewN j)) := fun W => (HRK.out W).mono (fun e w' ⟨hj, v, he, hv⟩ => ⟨v, by rw [he, hrk], hj⟩)
        clear hrk HRK HY
        obtain ⟨g, hg, u3, ug, um, ui, v0, v1, v3, v4', v5, uf⟩ := M1.out.thr HT.out
        have ui0 : (0 : Int) ≤ (t : Int) := by omega
        go_upto_region 12 with (go_at_call 58; refine (HRK2.out _).mono ?_; rintro e w4 ⟨v4, rfl, j4, rfl⟩)
        go_region
        have GX := goto_x (M1.out.drewN (j4 + 1)) HT.out hg HX.out.2.2.2.2.2
        go_end0
        exact FIN.out _ _ _ HW.out GX.1 ((K1).trans (((Kf.refl _ _).drewN (j4 + 1)).trans GX.2))
    · by_cases h12 : x.d = 12
      · skip
        have HOP : Hid (m.opM t x = m.op2 t x b 0) := by show _ = _; rw [hop]; simp [h12]
        have HDD : Hid (x.d = 12) := h12
        clear hop hy HY h11 h12
        have HY : Hid True := trivial
        go_enter Try.func34, Try.ntmps34
        go_upto_region 4 with (go_at_call 31; refine R1.mono ?_; rintro e w1 ⟨rfl, L1, M1, K1⟩; replace M1 : Hid _ := M1; obtain ⟨p0, p1, p2, p3, p4, p5, pl⟩ := M1.out.cells)
        have hdd : x.d = 12 := HDD.out
        go_upto_region 9 with fail
        have HRK : Hid (∀ W, Calls Try.prog 58 #[.int .i64 12, .int .i64 b, .int .i64 0] W (RkPost W 12 b 0)) := fun W => reckon57 (by omega) (by omega) HB64.out I64_0
        cases hrk : (reckon 12 b 0).2 with
        | true =>
          have HW : Hid ((m.wr t x.a (reckon 12 b 0).1).1 = m.opM t x) := by show _ = _; rw [HOP.out]; unfold Mc.op2; rw [if_neg (by omega)]; rw [hdd]; rw [if_pos hrk]
          have HI64 : Hid (I64 (reckon 12 b 0).1) := reckon_64 HB64.out hrk
          obtain ⟨n, hn⟩ : ∃ n, n = (reckon 12 b 0).1 := ⟨_, rfl⟩
          rw [← hn] at HW HI64
          have HRK2 : Hid (∀ W, Calls Try.prog 58 #[.int .i64 12, .int .i64 b, .int .i64 0] W (fun e w' => e = .returned (.tuple #[.int .i64 n, .bool true]) ∧ ∃ j, w' = W.drewN j)) := fun W => (HRK.out W).mono (fun e w' ⟨hj, v, he, hv⟩ => ⟨by rw [hn, ← hv hrk, he, hrk], hj⟩)
          clear hn hrk HRK HY
          go_wp2_with (first
            | (go_at_call 30; refine (wr_x M4.out HT.out HX.out.2.1 HI64.out).mono ?_; rintro e w5 ⟨rfl, L5, M5, K5⟩)
            | (go_at_call 58; refine (HRK2.out _).mono ?_; rintro e w4 ⟨rfl, j4, rfl⟩; have M4 : Hid _ := M1.out.drewN j4; obtain ⟨q0, q1, q2, q3, q4, q5, ql⟩ := M4.out.cells))
          go_end0
          exact FIN.out _ _ _ HW.out M5 ((K1).trans (((Kf.refl _ _).drewN j4).trans K5))
        | false =>
          have HW : Hid (m.goto t x.e = m.opM t x) := by show _ = _; rw [HOP.out]; unfold Mc.op2; rw [if_neg (by omega)]; rw [hdd]; rw [if_neg (by rw [hrk]; decide)]
          have HRK2 : Hid (∀ W, Calls Try.prog 58 #[.int .i64 12, .int .i64 b, .int .i64 0] W (fun e w' => ∃ v, e = .returned (.tuple #[.int .i64 v, .bool false]) ∧ ∃ j, w' = W.drewN j)) := fun W => (HRK.out W).mono (fun e w' ⟨hj, v, he, hv⟩ => ⟨v, by rw [he, hrk], hj⟩)
          clear hrk HRK HY
          obtain ⟨g, hg, u3, ug, um, ui, v0, v1, v3, v4', v5, uf⟩ := M1.out.thr HT.out
          have ui0 : (0 : Int) ≤ (t : Int) := by omega
          go_upto_region 12 with (go_at_call 58; refine (HRK2.out _).mono ?_; rintro e w4 ⟨v4, rfl, j4, rfl⟩)
          go_region
          have GX := goto_x (M1.out.drewN (j4 + 1)) HT.out hg HX.out.2.2.2.2.2
          go_end0
          exact FIN.out _ _ _ HW.out GX.1 ((K1).trans (((Kf.refl _ _).drewN (j4 + 1)).trans GX.2))
      · have hop2 : m.opM t x = (match m.rd t x.c with
          | (none, m1) => m1
          | (some c, _) => m.op2 t x b c) := by rw [hop]; simp [h11, h12]
        have h11b : (x.d != 11) = true := by simpa using h11
        have h12b : (x.d != 12) = true := by simpa using h12
        rcases slot_cases (m.fr t) t x.c with ⟨z, hz⟩ | ⟨z, hz⟩
        · obtain ⟨c, hc⟩ : ∃ c, c = m.mem z.toNat := ⟨_, rfl⟩
          have HC64 : Hid (I64 c) := by rw [hc]; exact HM64.out _
          rw [Mc.rd_some hz, ← hc] at hop2
          have R2 : Hid (∀ {w1 : World} {L1 : Ly}, MX base mb co cc code N w.heap.size x w1 L1 m → Calls Try.prog 31 #[.pointer (some ⟨mb, 0, none⟩), .int .i64 t, .int .i64 x.c] w1 (MXP base mb co cc code N w.heap.size x w1 L1 (.tuple #[.int .i64 c, .bool true]) m)) := fun M => by rw [hc]; exact rd_yes M HT.out HX.out.2.2.2.1 hz
          have HOP : Hid (m.opM t x = m.op2 t x b c) := hop2
          clear hc hz hop hop2 hy
          go_enter Try.func34, Try.ntmps34
          go_upto_region 7 with (first
            | (go_at_call 31; refine (R2.out M1.out).mono ?_; rintro e w2 ⟨rfl, L2, M2, K2⟩; replace M2 : Hid _ := M2; obtain ⟨r0, r1, r2, r3, r4, r5, rl⟩ := M2.out.cells)
            | (go_at_call 31; refine R1.mono ?_; rintro e w1 ⟨rfl, L1, M1, K1⟩; replace M1 : Hid _ := M1; obtain ⟨p0, p1, p2, p3, p4, p5, pl⟩ := M1.out.cells))
          by_cases hr1 : x.d < 0 ∨ 12 < x.d
          · have HW : Hid (m.fin 9 = m.opM t x) := by show _ = _; rw [HOP.out]; unfold Mc.op2; rw [if_pos hr1]
            rcases hr1 with hr1 | hr1
            all_goals
              go_wp2_with (go_at_call 27; refine (en_x M2.out 9).mono ?_; rintro e w3 ⟨rfl, L3, M3, K3⟩)
              go_end0
              exact FIN.out _ _ _ HW.out M3 ((K1.trans K2).trans K3)
          · have hr2 : ¬ x.d < 0 := by omega
            have hr3 : ¬ 12 < x.d := by omega
            have HRK : Hid (∀ W, Calls Try.prog 58 #[.int .i64 x.d, .int .i64 b, .int .i64 c] W (RkPost W x.d b c)) := fun W => reckon57 (by omega) (by omega) HB64.out HC64.out
            cases hrk : (reckon x.d b c).2 with
            | true =>
              have HW : Hid ((m.wr t x.a (reckon x.d b c).1).1 = m.opM t x) := by show _ = _; rw [HOP.out]; unfold Mc.op2; rw [if_neg (by omega)]; rw [if_pos hrk]
              have HI64 : Hid (I64 (reckon x.d b c).1) := reckon_64 HB64.out hrk
              obtain ⟨n, hn⟩ : ∃ n, n = (reckon x.d b c).1 := ⟨_, rfl⟩
              rw [← hn] at HW HI64
              have HRK2 : Hid (∀ W, Calls Try.prog 58 #[.int .i64 x.d, .int .i64 b, .int .i64 c] W (fun e w' => e = .returned (.tuple #[.int .i64 n, .bool true]) ∧ ∃ j, w' = W.drewN j)) := fun W => (HRK.out W).mono (fun e w' ⟨hj, v, he, hv⟩ => ⟨by rw [hn, ← hv hrk, he, hrk], hj⟩)
              clear hn hrk HRK HY
              go_wp2_with (first
                | (go_at_call 30; refine (wr_x M4.out HT.out HX.out.2.1 HI64.out).mono ?_; rintro e w5 ⟨rfl, L5, M5, K5⟩)
                | (go_at_call 58; refine (HRK2.out _).mono ?_; rintro e w4 ⟨rfl, j4, rfl⟩; have M4 : Hid _ := M2.out.drewN j4; obtain ⟨q0, q1, q2, q3, q4, q5, ql⟩ := M4.out.cells))
              go_end0
              exact FIN.out _ _ _ HW.out M5 ((K1.trans K2).trans (((Kf.refl _ _).drewN j4).trans K5))
            | false =>
              have HW : Hid (m.goto t x.e = m.opM t x) := by show _ = _; rw [HOP.out]; unfold Mc.op2; rw [if_neg (by omega)]; rw [if_neg (by rw [hrk]; decide)]
              have HRK2 : Hid (∀ W, Calls Try.prog 58 #[.int .i64 x.d, .int .i64 b, .int .i64 c] W (fun e w' => ∃ v, e = .returned (.tuple #[.int .i64 v, .bool false]) ∧ ∃ j, w' = W.drewN j)) := fun W => (HRK.out W).mono (fun e w' ⟨hj, v, he, hv⟩ => ⟨v, by rw [he, hrk], hj⟩)
              clear hrk HRK HY
              obtain ⟨g, hg, u3, ug, um, ui, v0, v1, v3, v4', v5, uf⟩ := M2.out.thr HT.out
              have ui0 : (0 : Int) ≤ (t : Int) := by omega
              go_upto_region 12 with (go_at_call 58; refine (HRK2.out _).mono ?_; rintro e w4 ⟨v4, rfl, j4, rfl⟩)
              go_region
              have GX := goto_x (M2.out.drewN (j4 + 1)) HT.out hg HX.out.2.2.2.2.2
              go_end0
              exact FIN.out _ _ _ HW.out GX.1 ((K1.trans K2).trans (((Kf.refl _ _).drewN (j4 + 1)).trans GX.2))
        · have HW : Hid (m.fin z = m.opM t x) := by show _ = _; rw [hop2, Mc.rd_none hz]
          have HZ : Hid (slotR (m.fr t) t x.c = (z, false)) := hz
          clear hz hop hop2 hy
          go_enter Try.func34, Try.ntmps34
          go_wp2_with (first
            | (go_at_call 31; refine (rd_no M1.out HT.out HX.out.2.2.2.1 HZ.out).mono ?_; rintro e w2 ⟨v, rfl, L2, M2, K2⟩)
            | (go_at_call 31; refine R1.mono ?_; rintro e w1 ⟨rfl, L1, M1, K1⟩; replace M1 : Hid _ := M1; obtain ⟨p0, p1, p2, p3, p4, p5, pl⟩ := M1.out.cells))
          go_end0
          exact FIN.out _ _ _ HW.out M2 (K1.trans K2)
  · have HE : Hid (m.fin y = m.opM t x) := by show _ = _; rw [hop, Mc.rd_none hy]
    have HY : Hid (slotR (m.fr t) t x.b = (y, false)) := hy
    clear hop hy
    go_enter Try.func34, Try.ntmps34
    go_wp2_with (go_at_call 31; refine (rd_no M0.out HT.out HX.out.2.2.1 HY.out).mono ?_; rintro e w2 ⟨v, rfl, L2, M2, K2⟩)
    go_end0
    exact FIN.out _ _ _ HE.out M2 K2
end
end Go.Proofs.Ytflifialjdhenaa
namespace Go.Proofs.Ytflifialjdhenaa
open Go.RowKit
set_option linter.all false
section
variable {w w' : World} {base mb : Nat} {cv : Value} {L : Ly} {m : Mc}
theorem MR.heap (h : MR w base mb cv L m) {bo : Option Addr} {cp : Nat} (hp0 : HP w base L.hb 4194303 bo cp m.hp) (ho0 : ∀ b, (Value.slice bo m.hp.length cp).ownBlock = some b → L.own b = some (1, 1)) {hp' : List (Int × Int)} {bo' : Option Addr} {cp' : Nat} (hp : HP w' base L.hb 4194303 bo' cp' hp') (hf : ∀ b, (Value.slice bo' hp'.length cp').ownBlock = some b → w.heap.size ≤ b ∨ (Value.slice bo m.hp.length cp).ownBlock = some b) (hk : KX (fun b => b = L.hb) w.heap.size w w') : ∃ L', MR w' base mb cv L' { m with hp := hp' } ∧ Kf L L' w w' := by
  have hohb := h.hp.ob
  obtain ⟨own', k1, k2, k3, k4, k5⟩ : ∃ own', (∀ g, keepG L.own own' g) ∧ (∀ b, own' b ≠ none → base ≤ b ∧ b < w'.heap.size) ∧ (∀ b s, own' b = some (0, s) → b = mb) ∧ (∀ b, b < w.heap.size → L.own b = none → own' b = none) ∧ ∀ b, (Value.slice bo' hp'.length cp').ownBlock = some b → own' b = some (1, 1) := by
    cases hb' : (Value.slice bo' hp'.length cp').ownBlock with
    | none => exact ⟨L.own, fun _ _ _ h => h, fun b hn => ⟨(h.olt b hn).1, Nat.lt_of_lt_of_le (h.olt b hn).2 hk.size⟩, h.o0, fun _ _ h => h, fun b hb => by simp at hb⟩
    | some c =>
      rcases hf c hb' with hc | hc
      · have hfree := h.free hc
        have hcl := hp.row.lt c hb'
        refine ⟨own1 L.own c (1, 1), own1_keep hfree, fun b hn => ?_, fun b s e => ?_, fun b hb hn => ?_, fun b hb => ?_⟩
        · by_cases e : b = c
          · subst e; exact ⟨hcl.1, hcl.2⟩
          · rw [own1_ne e] at hn
            exact ⟨(h.olt b hn).1, Nat.lt_of_lt_of_le (h.olt b hn).2 hk.size⟩
        · by_cases e2 : b = c
          · rw [e2, own1_at] at e; simp at e
          · rw [own1_ne e2] at e; exact h.o0 b s e
        · rw [own1_ne (by omega)]; exact hn
        · obtain rfl : c = b := by simpa using hb
          exact own1_at
      · exact ⟨L.own, fun _ _ _ h => h, fun b hn => ⟨(h.olt b hn).1, Nat.lt_of_lt_of_le (h.olt b hn).2 hk.size⟩, h.o0, fun _ _ h => h, fun b hb => by
          obtain rfl : c = b := by simpa using hb
          exact ho0 c hc⟩
  have hs : ∀ g, g ≠ 1 → sameG L.own g w w' := fun g hg b s e => hk.block b (h.olt b (by rw [e]; simp)).2 (fun e2 => by
    rw [e2, hohb] at e
    simp at e
    omega)
  refine ⟨{ L with own := own' }, ⟨?_, k1 0 mb 0 h.omb, ⟨⟨bo', cp', hp, k5⟩, k1 1 L.hb 0 hohb⟩, h.pg.frame (hs 2 (by decide)) (k1 2), h.th.frame (hs 3 (by decide)) (k1 3), h.ou.frame (hs 4 (by decide)) (k1 4), h.or_.frame (hs 5 (by decide)) (k1 5), h.hbase, k2, k3⟩, ⟨⟨hk.os, hk.tape, hk.output, hk.size, fun b hb hn => hk.block b hb (fun e => hn (by rw [e, hohb]; simp))⟩, k4, rfl⟩⟩
  rw [hk.block mb h.lt (fun e => by
    have := h.omb
    rw [e, hohb] at this
    simp at this)]
  exact h.blk
end
section
variable {base mb : Nat} {co : Option Addr} {cc : Nat} {code : List Mi} {N ib : Nat} {x : Mi} {w w' : World} {L L' : Ly} {m m' : Mc} {t : Nat} {th : Th}
theorem OKM.hp (h : OKM N m) (hp : List (Int × Int)) : OKM N { m with hp := hp } := ⟨h.mem, h.th, h.outs, h.order, h.steps, h.big⟩
theorem al_yes (h : MX base mb co cc code N ib x w L m) {n p : Int} {hp' : List (Int × Int)} (hn : I64 n) (ha : halloc 4194303 m.hp n = some (p, hp')) : Calls Try.prog 56 #[.pointer (some ⟨L.hb, 0, none⟩), .int .i64 n] w (MXP base mb co cc code N ib x w L (.tuple #[.int .i64 p, .bool true]) { m with hp := hp' }) := by
  obtain ⟨bo, cp, hp, ho⟩ := h.ms.mr.hp.ex
  refine (alloc55 hp (by decide) hn).mono ?_
  rintro e w' ⟨rfl, ⟨bo', cp', hp2, hf⟩, hk⟩
  unfold allocB at hp2 hf
  unfold allocV
  rw [ha] at hp2 hf ⊢
  obtain ⟨L', hm, kf⟩ := h.ms.mr.heap hp ho hp2 hf hk
  exact ⟨rfl, L', h.next hm kf (h.ms.ok.hp hp'), kf⟩
theorem al_no (h : MX base mb co cc code N ib x w L m) {n : Int} (hn : I64 n) (ha : halloc 4194303 m.hp n = none) : Calls Try.prog 56 #[.pointer (some ⟨L.hb, 0, none⟩), .int .i64 n] w (MXP base mb co cc code N ib x w L (.tuple #[.int .i64 0, .bool false]) m) := by
  obtain ⟨bo, cp, hp, ho⟩ := h.ms.mr.hp.ex
  refine (alloc55 hp (by decide) hn).mono ?_
  rintro e w' ⟨rfl, ⟨bo', cp', hp2, hf⟩, hk⟩
  unfold allocB at hp2 hf
  unfold allocV
  rw [ha] at hp2 hf ⊢
  obtain ⟨L', hm, kf⟩ := h.ms.mr.heap hp ho hp2 hf hk
  exact ⟨rfl, L', h.next hm kf h.ms.ok, kf⟩
theorem fr_yes (h : MX base mb co cc code N ib x w L m) {a : Int} {hp' : List (Int × Int)} (hn : I64 a) (ha : hfree m.hp a = some hp') : Calls Try.prog 57 #[.pointer (some ⟨L.hb, 0, none⟩), .int .i64 a] w (MXP base mb co cc code N ib x w L (.bool true) { m with hp := hp' }) := by
  obtain ⟨bo, cp, hp, ho⟩ := h.ms.mr.hp.ex
  refine (free56 hp (by decide) hn).mono ?_
  rintro e w' ⟨rfl, ⟨bo', cp', hp2, hf⟩, hk⟩
  unfold freeB at hp2 hf
  rw [ha] at hp2 hf ⊢
  obtain ⟨L', hm, kf⟩ := h.ms.mr.heap hp ho hp2 hf hk
  exact ⟨rfl, L', h.next hm kf (h.ms.ok.hp hp'), kf⟩
theorem fr_no (h : MX base mb co cc code N ib x w L m) {a : Int} (hn : I64 a) (ha : hfree m.hp a = none) : Calls Try.prog 57 #[.pointer (some ⟨L.hb, 0, none⟩), .int .i64 a] w (MXP base mb co cc code N ib x w L (.bool false) m) := by
  obtain ⟨bo, cp, hp, ho⟩ := h.ms.mr.hp.ex
  refine (free56 hp (by decide) hn).mono ?_
  rintro e w' ⟨rfl, ⟨bo', cp', hp2, hf⟩, hk⟩
  unfold freeB at hp2 hf
  rw [ha] at hp2 hf ⊢
  obtain ⟨L', hm, kf⟩ := h.ms.mr.heap hp ho hp2 hf hk
  exact ⟨rfl, L', h.next hm kf h.ms.ok, kf⟩
end
end Go.Proofs.Ytflifialjdhenaa
