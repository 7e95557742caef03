/- The project: comparisons. -/
import Derived.Test.YtpoepbmomfohlaaPmo
import Derived.Test.YtpoepbmomfohlaaPmq
import Derived.Test.YtpoepbmomfohlaaPmr
import Derived.Test.YtpoepbmomfohlaaPnc
import Derived.Test.YtpoepbmomfohlaaPne
import Derived.Test.YtpoepbmomfohlaaPnf
namespace Go.Proofs.Ytpoepbmomfohlaa
open Go.RowKit
set_option linter.all false
set_option maxRecDepth 100000 in
set_option maxHeartbeats 1000000 in
theorem two_5 {w : World} {a b : Int} : Calls Try.prog 46 #[.int .i64 5, .int .i64 a, .int .i64 b] w (RkPost w 5 a b) := by
  have D : Hid (∀ W, Calls Try.prog 55 #[.int .i64 5, .int .i64 a, .int .i64 b] W (fun e w' => e = .returned (.bool (a == b)) ∧ w' = W)) := fun W => holds84_5
  obtain ⟨v, hv⟩ : ∃ v, v = (a == b) := ⟨_, rfl⟩
  rw [← hv] at D
  have HV : Hid (v = (a == b)) := hv
  clear hv
  go_enter Try.func46, Try.ntmps46
  go_wp2_with (first | (go_at_call 55; refine (D.out _).mono ?_; rintro e w2 ⟨rfl, rfl⟩) | (go_at_call 54; refine (truth83 v).mono ?_; rintro e w2 ⟨rfl, rfl⟩))
  go_ret2
  exact ⟨⟨0, rfl⟩, b2i v, rfl, fun _ => by rw [HV.out]; rfl⟩
set_option maxRecDepth 100000 in
set_option maxHeartbeats 1000000 in
theorem two_6 {w : World} {a b : Int} : Calls Try.prog 46 #[.int .i64 6, .int .i64 a, .int .i64 b] w (RkPost w 6 a b) := by
  have D : Hid (∀ W, Calls Try.prog 55 #[.int .i64 6, .int .i64 a, .int .i64 b] W (fun e w' => e = .returned (.bool (a != b)) ∧ w' = W)) := fun W => holds84_6
  obtain ⟨v, hv⟩ : ∃ v, v = (a != b) := ⟨_, rfl⟩
  rw [← hv] at D
  have HV : Hid (v = (a != b)) := hv
  clear hv
  go_enter Try.func46, Try.ntmps46
  go_wp2_with (first | (go_at_call 55; refine (D.out _).mono ?_; rintro e w2 ⟨rfl, rfl⟩) | (go_at_call 54; refine (truth83 v).mono ?_; rintro e w2 ⟨rfl, rfl⟩))
  go_ret2
  exact ⟨⟨0, rfl⟩, b2i v, rfl, fun _ => by rw [HV.out]; rfl⟩
set_option maxRecDepth 100000 in
set_option maxHeartbeats 1000000 in
theorem two_7 {w : World} {a b : Int} : Calls Try.prog 46 #[.int .i64 7, .int .i64 a, .int .i64 b] w (RkPost w 7 a b) := by
  have D : Hid (∀ W, Calls Try.prog 55 #[.int .i64 7, .int .i64 a, .int .i64 b] W (fun e w' => e = .returned (.bool (decide (a < b))) ∧ w' = W)) := fun W => holds84_7
  obtain ⟨v, hv⟩ : ∃ v, v = (decide (a < b)) := ⟨_, rfl⟩
  rw [← hv] at D
  have HV : Hid (v = (decide (a < b))) := hv
  clear hv
  go_enter Try.func46, Try.ntmps46
  go_wp2_with (first | (go_at_call 55; refine (D.out _).mono ?_; rintro e w2 ⟨rfl, rfl⟩) | (go_at_call 54; refine (truth83 v).mono ?_; rintro e w2 ⟨rfl, rfl⟩))
  go_ret2
  exact ⟨⟨0, rfl⟩, b2i v, rfl, fun _ => by rw [HV.out]; rfl⟩
set_option maxRecDepth 100000 in
set_option maxHeartbeats 1000000 in
theorem two_8 {w : World} {a b : Int} : Calls Try.prog 46 #[.int .i64 8, .int .i64 a, .int .i64 b] w (RkPost w 8 a b) := by
  have D : Hid (∀ W, Calls Try.prog 55 #[.int .i64 8, .int .i64 a, .int .i64 b] W (fun e w' => e = .returned (.bool (decide (a ≤ b))) ∧ w' = W)) := fun W => holds84_8
  obtain ⟨v, hv⟩ : ∃ v, v = (decide (a ≤ b)) := ⟨_, rfl⟩
  rw [← hv] at D
  have HV : Hid (v = (decide (a ≤ b))) := hv
  clear hv
  go_enter Try.func46, Try.ntmps46
  go_wp2_with (first | (go_at_call 55; refine (D.out _).mono ?_; rintro e w2 ⟨rfl, rfl⟩) | (go_at_call 54; refine (truth83 v).mono ?_; rintro e w2 ⟨rfl, rfl⟩))
  go_ret2
  exact ⟨⟨0, rfl⟩, b2i v, rfl, fun _ => by rw [HV.out]; rfl⟩
set_option maxRecDepth 100000 in
set_option maxHeartbeats 1000000 in
theorem two_9 {w : World} {a b : Int} : Calls Try.prog 46 #[.int .i64 9, .int .i64 a, .int .i64 b] w (RkPost w 9 a b) := by
  have D : Hid (∀ W, Calls Try.prog 55 #[.int .i64 9, .int .i64 a, .int .i64 b] W (fun e w' => e = .returned (.bool (decide (b < a))) ∧ w' = W)) := fun W => holds84_9
  obtain ⟨v, hv⟩ : ∃ v, v = (decide (b < a)) := ⟨_, rfl⟩
  rw [← hv] at D
  have HV : Hid (v = (decide (b < a))) := hv
  clear hv
  go_enter Try.func46, Try.ntmps46
  go_wp2_with (first | (go_at_call 55; refine (D.out _).mono ?_; rintro e w2 ⟨rfl, rfl⟩) | (go_at_call 54; refine (truth83 v).mono ?_; rintro e w2 ⟨rfl, rfl⟩))
  go_ret2
  exact ⟨⟨0, rfl⟩, b2i v, rfl, fun _ => by rw [HV.out]; rfl⟩
set_option maxRecDepth 100000 in
set_option maxHeartbeats 1000000 in
theorem two_10 {w : World} {a b : Int} : Calls Try.prog 46 #[.int .i64 10, .int .i64 a, .int .i64 b] w (RkPost w 10 a b) := by
  have D : Hid (∀ W, Calls Try.prog 55 #[.int .i64 10, .int .i64 a, .int .i64 b] W (fun e w' => e = .returned (.bool (decide (b ≤ a))) ∧ w' = W)) := fun W => holds84_10
  obtain ⟨v, hv⟩ : ∃ v, v = (decide (b ≤ a)) := ⟨_, rfl⟩
  rw [← hv] at D
  have HV : Hid (v = (decide (b ≤ a))) := hv
  clear hv
  go_enter Try.func46, Try.ntmps46
  go_wp2_with (first | (go_at_call 55; refine (D.out _).mono ?_; rintro e w2 ⟨rfl, rfl⟩) | (go_at_call 54; refine (truth83 v).mono ?_; rintro e w2 ⟨rfl, rfl⟩))
  go_ret2
  exact ⟨⟨0, rfl⟩, b2i v, rfl, fun _ => by rw [HV.out]; rfl⟩
end Go.Proofs.Ytpoepbmomfohlaa
namespace Go.Proofs.Ytpoepbmomfohlaa
open Go.RowKit
set_option linter.all false
theorem two_any {w : World} {op a b : Int} (ha : I64 a) (hb : I64 b) (h0 : 0 ≤ op) (h1 : op ≤ 10) : Calls Try.prog 46 #[.int .i64 op, .int .i64 a, .int .i64 b] w (RkPost w op a b) := by
  have : op = 0 ∨ op = 1 ∨ op = 2 ∨ op = 3 ∨ op = 4 ∨ op = 5 ∨ op = 6 ∨ op = 7 ∨ op = 8 ∨ op = 9 ∨ op = 10 := by omega
  rcases this with rfl | rfl | rfl | rfl | rfl | rfl | rfl | rfl | rfl | rfl | rfl
  · exact two_add ha hb
  · exact two_sub ha hb
  · exact two_mul ha hb
  · exact two_div ha hb
  · exact two_rem ha hb
  · exact two_5
  · exact two_6
  · exact two_7
  · exact two_8
  · exact two_9
  · exact two_10
set_option maxRecDepth 100000 in
set_option maxHeartbeats 1000000 in
theorem result63 {w : World} {op a b : Int} (ha : I64 a) (hb : I64 b) (h0 : 0 ≤ op) (h1 : op ≤ 12) : Calls Try.prog 36 #[.int .i64 op, .int .i64 a, .int .i64 b] w (RkPost w op a b) := by
  by_cases e11 : op = 11
  · subst e11
    have D : Hid (∀ W, Calls Try.prog 45 #[.int .i64 a] W (RkPost W 11 a b)) := fun W => neg74 ha
    clear ha hb h0 h1
    go_enter Try.func36, Try.ntmps36
    go_wp2_with (go_at_call 45; refine (D.out _).mono ?_; rintro e w2 ⟨⟨j, rfl⟩, v, rfl, hv⟩)
    go_ret2
    exact ⟨⟨_, rfl⟩, v, rfl, hv⟩
  · by_cases e12 : op = 12
    · subst e12
      have D : Hid (∀ W, Calls Try.prog 46 #[.int .i64 5, .int .i64 a, .int .i64 0] W (RkPost W 12 a b)) := fun W => two_5
      clear ha hb h0 h1 e11
      go_enter Try.func36, Try.ntmps36
      go_wp2_with (go_at_call 46; refine (D.out _).mono ?_; rintro e w2 ⟨⟨j, rfl⟩, v, rfl, hv⟩)
      go_ret2
      exact ⟨⟨_, rfl⟩, v, rfl, hv⟩
    · have D : Hid (∀ W, Calls Try.prog 46 #[.int .i64 op, .int .i64 a, .int .i64 b] W (RkPost W op a b)) := fun W => two_any ha hb h0 (by omega)
      have f11 : (op == 11) = false := by simpa using e11
      have f12 : (op == 12) = false := by simpa using e12
      clear ha hb h0 h1 e11 e12
      go_enter Try.func36, Try.ntmps36
      go_wp2_with (go_at_call 46; refine (D.out _).mono ?_; rintro e w2 ⟨⟨j, rfl⟩, v, rfl, hv⟩)
      go_ret2
      exact ⟨⟨_, rfl⟩, v, rfl, hv⟩
end Go.Proofs.Ytpoepbmomfohlaa
namespace Go.Proofs.Ytpoepbmomfohlaa
open Go.RowKit
set_option linter.all false
section
variable {C : Ct} {N N' : Nat} {K : Nat → Obj → Prop} {w w' w1 : World} {ps : List Int} {tb tb' : List Nat} {m m' : Mc} {t b : Nat} {th th' : Th}
set_option maxRecDepth 100000 in
set_option maxHeartbeats 1000000 in
theorem rk_c (h : PS C N K w ps tb m) (ht : m.ths[t]? = some th) (hb : tb[t]? = some b) {cb f : Nat} {x : Mi} (hI : IN C cb f x) (hx : x.ok) (h0 : m.how = 0) : Calls Try.prog 28 #[ptr b, .pointer (some ⟨cb, f, none⟩)] w (StP C N K ps (m.opM t x)) := by
  have HI : Hid (∀ {N : Nat} {W : World} {m : Mc} {tb : List Nat}, PS C N K W ps tb m → W.cell? ⟨cb, f, none⟩ = some (.int .i64 x.op) ∧ W.cell? ⟨cb, f + 1, none⟩ = some (.int .i64 x.a) ∧ W.cell? ⟨cb, f + 2, none⟩ = some (.int .i64 x.b) ∧ W.cell? ⟨cb, f + 3, none⟩ = some (.int .i64 x.c) ∧ W.cell? ⟨cb, f + 4, none⟩ = some (.int .i64 x.d) ∧ W.cell? ⟨cb, f + 5, none⟩ = some (.int .i64 x.e) ∧ cb < W.heap.size) := fun {N W m tb} h => h.insc hI
  have HT : Hid (∀ {N : Nat} {W : World} {m : Mc}, PS C N K W ps tb m → m.ths[t]? = some th → W.cell? ⟨b, 0, none⟩ = some (ptr C.mb) ∧ b < W.heap.size ∧ C.mb < W.heap.size ∧ (∀ o, W.frozen? ⟨b, o, none⟩ = false) ∧ (∀ o, W.frozen? ⟨C.mb, o, none⟩ = false) ∧ W.cell? ⟨C.mb, 6, none⟩ = some (.int .i64 m.value) ∧ W.cell? ⟨C.mb, 5, none⟩ = some (.bool m.failed) ∧ W.cell? ⟨b, 8, none⟩ = some (.bool th.over)) := fun {N W m} h ht => by
    obtain ⟨at_, hat, c0, c1, c3, c5, c6, c7, c8, lb, fz, f0, f1⟩ := h.thr ht hb
    obtain ⟨k0, k2, k5, k6, k7, lm, fm⟩ := h.mch
    exact ⟨c0, lb, lm, fz, fm, k6, k5, c8⟩
  have HX : Hid (m.ths[t]? = some th ∧ tb[t]? = some b ∧ x.ok ∧ m.how = 0) := ⟨ht, hb, hx, h0⟩
  obtain ⟨y0, y1, y2, y3, y4, y5, yl⟩ := HI.out h
  have HM64 : Hid (∀ a, I64 (m.mem a)) := h.ok.mem
  have HH : Hid (PS C N K w ps tb m) := h
  rcases slot_cases th.frame t x.b with ⟨yb, hyb⟩ | ⟨yb, hyb⟩
  · obtain ⟨vb, hvb⟩ : ∃ v, v = m.mem yb.toNat := ⟨_, rfl⟩
    have R1 : Calls Try.prog 23 #[ptr b, .int .i64 x.b] w (fun e w' => e = .returned (.int .i64 vb) ∧ PS C N K w' ps tb m) := (read_c h ht hb hx.2.2.1).mono (fun e w' hh => by
      rcases hh with ⟨y, z, hz, e1, e2⟩ | ⟨y, hy, e1, e2⟩
      · have := hz.out.1
        rw [hyb] at this
        obtain rfl : yb = y := by simpa using this
        exact ⟨by rw [hvb]; exact e1, e2⟩
      · have := hy.out
        rw [hyb] at this
        simp at this)
    have HB : Hid (m.rd t x.b = (some vb, m) ∧ I64 vb) := ⟨by rw [hvb]; exact rd_T ht hyb, by rw [hvb]; exact h.ok.mem _⟩
    clear hvb
    have HT5 : Hid (∀ {W : World}, PS C N K W ps tb m → ∃ q, W.cell? ⟨b, 5, none⟩ = some q) := fun {W} h => by
      obtain ⟨at_, hat, c0, c1, c3, c5, -⟩ := h.thr ht hb
      exact ⟨_, c5⟩
    by_cases hd : x.d = 11
    · have HD : Hid (x.d = 11) := hd
      have HO : Hid (m.opM t x = m.op2 t x vb 0) := by show _ = _; unfold Mc.opM; rw [HB.out.1]; show (if x.d = 11 ∨ x.d = 12 then _ else _) = _; rw [if_pos (by omega)]
      rw [hd] at y4
      obtain ⟨bv, hbv⟩ : ∃ bv, bv = (reckon x.d vb 0).2 := ⟨_, rfl⟩
      have RS : Hid (∀ {W : World}, PS C N K W ps tb m → Calls Try.prog 36 #[.int .i64 11, .int .i64 vb, .int .i64 0] W (fun e w' => PS C N K w' ps tb m ∧ ∃ v, e = .returned (.tuple #[.int .i64 v, .bool bv]) ∧ Hid (bv = true → v = (reckon x.d vb 0).1))) := fun {W} h => (result63 (op := 11) HB.out.2 I64_0 (by decide) (by decide)).mono (fun e w' hh => by
        obtain ⟨⟨j, hj⟩, v, h1, h2⟩ := hh
        exact ⟨by rw [hj]; exact h.drewN j, v, by rw [hbv, hd]; exact h1, by show _ → _; rw [hbv, hd]; exact h2⟩)
      have HV64 : Hid (bv = true → I64 (reckon x.d vb 0).1) := fun h => reckon_64 HB.out.2 (by rw [← hbv]; exact h)
      have HE0 : Hid (m.opM t x = if bv then (m.wr t x.a (reckon x.d vb 0).1).1 else m.goto t x.e) := by
        show _ = _
        rw [HO.out, hbv]
        unfold Mc.op2
        rw [if_neg (by omega)]
      clear hbv h hI hx h0 ht hb hyb hd
      cases bv with
      | true =>
        have HE : Hid (m.opM t x = (m.wr t x.a (reckon x.d vb 0).1).1) := by show _ = _; rw [HE0.out]; rfl
        replace HV64 : Hid _ := HV64.out rfl
        obtain ⟨rr, hrr⟩ : ∃ r, r = (reckon x.d vb 0).1 := ⟨_, rfl⟩
        have RS1 : Hid (∀ {W : World}, PS C N K W ps tb m → Calls Try.prog 36 #[.int .i64 11, .int .i64 vb, .int .i64 0] W (fun e w' => PS C N K w' ps tb m ∧ e = .returned (.tuple #[.int .i64 rr, .bool true]))) := fun {W} h => (RS.out h).mono (fun e w' hh => by
          obtain ⟨h1, v, h2, h3⟩ := hh
          exact ⟨h1, by rw [h2, h3.out rfl, hrr]⟩)
        rw [← hrr] at HE HV64
        clear hrr RS HE0
        go_enter Try.func28, Try.ntmps28
        go_wp2_with (first | (go_at_call 22; refine (write_c h4 HX.out.1 HX.out.2.1 HX.out.2.2.1.2.1 HV64.out).mono ?_; rintro e w5 (⟨y, hy, rfl, h5⟩ | ⟨y, hy, rfl, h5⟩); rotate_left; exact ⟨rfl, by rw [HE.out, wr_F HX.out.1 hy.out]; exact StP.no h5 HX.out.2.2.2 (sl_ne hy.out)⟩) | (go_at_call 36; refine (RS1.out h2).mono ?_; rintro e w4 ⟨h4, rfl⟩; obtain ⟨s0, s1, s2, s3, s4, s5, sl⟩ := HI.out h4; obtain ⟨r0, rb, rm, rf, -, -, -, -⟩ := HT.out h4 HX.out.1; obtain ⟨q5v, q5c⟩ := HT5.out h4; have rf5 := rf 5; clear rf) | (go_at_call 23; refine R1.mono ?_; rintro e w2 ⟨rfl, h2⟩; obtain ⟨u0, u1, u2, u3, u4, u5, ul⟩ := HI.out h2; rw [HD.out] at u4))
        go_end0
        rw [HE.out, wr_T HX.out.1 hy.out]
        exact StP.ok h5 HX.out.2.2.2
      | false =>
        have HE : Hid (m.opM t x = m.goto t x.e) := by show _ = _; rw [HE0.out]; rfl
        go_enter Try.func28, Try.ntmps28
        go_wp2_with (first | (go_at_call 36; refine (RS.out h2).mono ?_; rintro e w4 ⟨h4, v, rfl, hv⟩; obtain ⟨s0, s1, s2, s3, s4, s5, sl⟩ := HI.out h4; obtain ⟨r0, rb, rm, rf, -, -, -, -⟩ := HT.out h4 HX.out.1; obtain ⟨q5v, q5c⟩ := HT5.out h4; have rf5 := rf 5; clear rf) | (go_at_call 23; refine R1.mono ?_; rintro e w2 ⟨rfl, h2⟩; obtain ⟨u0, u1, u2, u3, u4, u5, ul⟩ := HI.out h2; rw [HD.out] at u4))
        first | go_end0 | refine bodyPost_ret (results_none rfl _ _ _) rfl ?_
        rw [HE.out, goto_T HX.out.1]
        exact StP.ok (h4.goto HX.out.1 HX.out.2.1 HX.out.2.2.1.2.2.2.2.2) HX.out.2.2.2
    have n11 : ¬ x.d = 11 := hd
    clear hd
    by_cases hd : x.d = 12
    · have HD : Hid (x.d = 12) := hd
      have HO : Hid (m.opM t x = m.op2 t x vb 0) := by show _ = _; unfold Mc.opM; rw [HB.out.1]; show (if x.d = 11 ∨ x.d = 12 then _ else _) = _; rw [if_pos (by omega)]
      rw [hd] at y4
      obtain ⟨bv, hbv⟩ : ∃ bv, bv = (reckon x.d vb 0).2 := ⟨_, rfl⟩
      have RS : Hid (∀ {W : World}, PS C N K W ps tb m → Calls Try.prog 36 #[.int .i64 12, .int .i64 vb, .int .i64 0] W (fun e w' => PS C N K w' ps tb m ∧ ∃ v, e = .returned (.tuple #[.int .i64 v, .bool bv]) ∧ Hid (bv = true → v = (reckon x.d vb 0).1))) := fun {W} h => (result63 (op := 12) HB.out.2 I64_0 (by decide) (by decide)).mono (fun e w' hh => by
        obtain ⟨⟨j, hj⟩, v, h1, h2⟩ := hh
        exact ⟨by rw [hj]; exact h.drewN j, v, by rw [hbv, hd]; exact h1, by show _ → _; rw [hbv, hd]; exact h2⟩)
      have HV64 : Hid (bv = true → I64 (reckon x.d vb 0).1) := fun h => reckon_64 HB.out.2 (by rw [← hbv]; exact h)
      have HE0 : Hid (m.opM t x = if bv then (m.wr t x.a (reckon x.d vb 0).1).1 else m.goto t x.e) := by
        show _ = _
        rw [HO.out, hbv]
        unfold Mc.op2
        rw [if_neg (by omega)]
      clear hbv h hI hx h0 ht hb hyb hd
      cases bv with
      | true =>
        have HE : Hid (m.opM t x = (m.wr t x.a (reckon x.d vb 0).1).1) := by show _ = _; rw [HE0.out]; rfl
        replace HV64 : Hid _ := HV64.out rfl
        obtain ⟨rr, hrr⟩ : ∃ r, r = (reckon x.d vb 0).1 := ⟨_, rfl⟩
        have RS1 : Hid (∀ {W : World}, PS C N K W ps tb m → Calls Try.prog 36 #[.int .i64 12, .int .i64 vb, .int .i64 0] W (fun e w' => PS C N K w' ps tb m ∧ e = .returned (.tuple #[.int .i64 rr, .bool true]))) := fun {W} h => (RS.out h).mono (fun e w' hh => by
          obtain ⟨h1, v, h2, h3⟩ := hh
          exact ⟨h1, by rw [h2, h3.out rfl, hrr]⟩)
        rw [← hrr] at HE HV64
        clear hrr RS HE0
        go_enter Try.func28, Try.ntmps28
        go_wp2_with (first | (go_at_call 22; refine (write_c h4 HX.out.1 HX.out.2.1 HX.out.2.2.1.2.1 HV64.out).mono ?_; rintro e w5 (⟨y, hy, rfl, h5⟩ | ⟨y, hy, rfl, h5⟩); rotate_left; exact ⟨rfl, by rw [HE.out, wr_F HX.out.1 hy.out]; exact StP.no h5 HX.out.2.2.2 (sl_ne hy.out)⟩) | (go_at_call 36; refine (RS1.out h2).mono ?_; rintro e w4 ⟨h4, rfl⟩; obtain ⟨s0, s1, s2, s3, s4, s5, sl⟩ := HI.out h4; obtain ⟨r0, rb, rm, rf, -, -, -, -⟩ := HT.out h4 HX.out.1; obtain ⟨q5v, q5c⟩ := HT5.out h4; have rf5 := rf 5; clear rf) | (go_at_call 23; refine R1.mono ?_; rintro e w2 ⟨rfl, h2⟩; obtain ⟨u0, u1, u2, u3, u4, u5, ul⟩ := HI.out h2; rw [HD.out] at u4))
        go_end0
        rw [HE.out, wr_T HX.out.1 hy.out]
        exact StP.ok h5 HX.out.2.2.2
      | false =>
        have HE : Hid (m.opM t x = m.goto t x.e) := by show _ = _; rw [HE0.out]; rfl
        go_enter Try.func28, Try.ntmps28
        go_wp2_with (first | (go_at_call 36; refine (RS.out h2).mono ?_; rintro e w4 ⟨h4, v, rfl, hv⟩; obtain ⟨s0, s1, s2, s3, s4, s5, sl⟩ := HI.out h4; obtain ⟨r0, rb, rm, rf, -, -, -, -⟩ := HT.out h4 HX.out.1; obtain ⟨q5v, q5c⟩ := HT5.out h4; have rf5 := rf 5; clear rf) | (go_at_call 23; refine R1.mono ?_; rintro e w2 ⟨rfl, h2⟩; obtain ⟨u0, u1, u2, u3, u4, u5, ul⟩ := HI.out h2; rw [HD.out] at u4))
        first | go_end0 | refine bodyPost_ret (results_none rfl _ _ _) rfl ?_
        rw [HE.out, goto_T HX.out.1]
        exact StP.ok (h4.goto HX.out.1 HX.out.2.1 HX.out.2.2.1.2.2.2.2.2) HX.out.2.2.2
    have n12 : ¬ x.d = 12 := hd
    clear hd
    have e11 : (x.d != 11) = true := by simpa using n11
    have e12 : (x.d != 12) = true := by simpa using n12
    rcases slot_cases th.frame t x.c with ⟨yc, hyc⟩ | ⟨yc, hyc⟩
    · obtain ⟨vc, hvc⟩ : ∃ v, v = m.mem yc.toNat := ⟨_, rfl⟩
      have RCc : Hid (∀ {W : World}, PS C N K W ps tb m → Calls Try.prog 23 #[ptr b, .int .i64 x.c] W (fun e w' => e = .returned (.int .i64 vc) ∧ PS C N K w' ps tb m)) := fun {W} h => (read_c h ht hb hx.2.2.2.1).mono (fun e w' hh => by
        rcases hh with ⟨y, z, hz, e1, e2⟩ | ⟨y, hy, e1, e2⟩
        · have := hz.out.1
          rw [hyc] at this
          obtain rfl : yc = y := by simpa using this
          exact ⟨by rw [hvc]; exact e1, e2⟩
        · have := hy.out
          rw [hyc] at this
          simp at this)
      have HC : Hid (m.rd t x.c = (some vc, m) ∧ I64 vc) := ⟨by rw [hvc]; exact rd_T ht hyc, by rw [hvc]; exact h.ok.mem _⟩
      have HO : Hid (m.opM t x = m.op2 t x vb vc) := by show _ = _; unfold Mc.opM; rw [HB.out.1]; show (if x.d = 11 ∨ x.d = 12 then _ else _) = _; rw [if_neg (by omega), HC.out.1]
      clear hyc hvc
      by_cases hbad : x.d < 0 ∨ 12 < x.d
      · have HE : Hid (m.opM t x = m.fin 9) := by show _ = _; rw [HO.out]; unfold Mc.op2; rw [if_pos hbad]
        clear h hI hx h0 ht hb hyb
        by_cases hneg : x.d < 0
        · clear hbad
          go_enter Try.func28, Try.ntmps28
          go_wp2_with (first | (go_at_call 23; refine (RCc.out h2).mono ?_; rintro e w3 ⟨rfl, h3⟩; obtain ⟨t0, t1, t2, t3, t4, t5, tl⟩ := HI.out h3) | (go_at_call 23; refine R1.mono ?_; rintro e w2 ⟨rfl, h2⟩; obtain ⟨u0, u1, u2, u3, u4, u5, ul⟩ := HI.out h2))
          exact ⟨rfl, by rw [HE.out]; exact StP.no h3 HX.out.2.2.2 (by decide)⟩
        · have hbig : 12 < x.d := by omega
          clear hbad
          go_enter Try.func28, Try.ntmps28
          go_wp2_with (first | (go_at_call 23; refine (RCc.out h2).mono ?_; rintro e w3 ⟨rfl, h3⟩; obtain ⟨t0, t1, t2, t3, t4, t5, tl⟩ := HI.out h3) | (go_at_call 23; refine R1.mono ?_; rintro e w2 ⟨rfl, h2⟩; obtain ⟨u0, u1, u2, u3, u4, u5, ul⟩ := HI.out h2))
          exact ⟨rfl, by rw [HE.out]; exact StP.no h3 HX.out.2.2.2 (by decide)⟩
      · have hlo : ¬ x.d < 0 := by omega
        have hhi : ¬ 12 < x.d := by omega
        clear hbad
        obtain ⟨bv, hbv⟩ : ∃ bv, bv = (reckon x.d vb vc).2 := ⟨_, rfl⟩
        have RS : Hid (∀ {W : World}, PS C N K W ps tb m → Calls Try.prog 36 #[.int .i64 x.d, .int .i64 vb, .int .i64 vc] W (fun e w' => PS C N K w' ps tb m ∧ ∃ v, e = .returned (.tuple #[.int .i64 v, .bool bv]) ∧ Hid (bv = true → v = (reckon x.d vb vc).1))) := fun {W} h => (result63 (op := x.d) HB.out.2 HC.out.2 (by omega) (by omega)).mono (fun e w' hh => by
          obtain ⟨⟨j, hj⟩, v, h1, h2⟩ := hh
          exact ⟨by rw [hj]; exact h.drewN j, v, by rw [hbv]; exact h1, by show _ → _; rw [hbv]; exact h2⟩)
        have HV64 : Hid (bv = true → I64 (reckon x.d vb vc).1) := fun h => reckon_64 HB.out.2 (by rw [← hbv]; exact h)
        have HE0 : Hid (m.opM t x = if bv then (m.wr t x.a (reckon x.d vb vc).1).1 else m.goto t x.e) := by
          show _ = _
          rw [HO.out, hbv]
          unfold Mc.op2
          rw [if_neg (by omega)]
        clear hbv h hI hx h0 ht hb hyb
        cases bv with
        | true =>
          have HE : Hid (m.opM t x = (m.wr t x.a (reckon x.d vb vc).1).1) := by show _ = _; rw [HE0.out]; rfl
          replace HV64 : Hid _ := HV64.out rfl
          obtain ⟨rr, hrr⟩ : ∃ r, r = (reckon x.d vb vc).1 := ⟨_, rfl⟩
          have RS1 : Hid (∀ {W : World}, PS C N K W ps tb m → Calls Try.prog 36 #[.int .i64 x.d, .int .i64 vb, .int .i64 vc] W (fun e w' => PS C N K w' ps tb m ∧ e = .returned (.tuple #[.int .i64 rr, .bool true]))) := fun {W} h => (RS.out h).mono (fun e w' hh => by
            obtain ⟨h1, v, h2, h3⟩ := hh
            exact ⟨h1, by rw [h2, h3.out rfl, hrr]⟩)
          rw [← hrr] at HE HV64
          clear hrr RS HE0
          go_enter Try.func28, Try.ntmps28
          go_wp2_with (first | (go_at_call 22; refine (write_c h4 HX.out.1 HX.out.2.1 HX.out.2.2.1.2.1 HV64.out).mono ?_; rintro e w5 (⟨y, hy, rfl, h5⟩ | ⟨y, hy, rfl, h5⟩); rotate_left; exact ⟨rfl, by rw [HE.out, wr_F HX.out.1 hy.out]; exact StP.no h5 HX.out.2.2.2 (sl_ne hy.out)⟩) | (go_at_call 36; refine (RS1.out h3).mono ?_; rintro e w4 ⟨h4, rfl⟩; obtain ⟨s0, s1, s2, s3, s4, s5, sl⟩ := HI.out h4; obtain ⟨r0, rb, rm, rf, -, -, -, -⟩ := HT.out h4 HX.out.1; obtain ⟨q5v, q5c⟩ := HT5.out h4; have rf5 := rf 5; clear rf) | (go_at_call 23; refine (RCc.out h2).mono ?_; rintro e w3 ⟨rfl, h3⟩; obtain ⟨t0, t1, t2, t3, t4, t5, tl⟩ := HI.out h3) | (go_at_call 23; refine R1.mono ?_; rintro e w2 ⟨rfl, h2⟩; obtain ⟨u0, u1, u2, u3, u4, u5, ul⟩ := HI.out h2))
          go_end0
          rw [HE.out, wr_T HX.out.1 hy.out]
          exact StP.ok h5 HX.out.2.2.2
        | false =>
          have HE : Hid (m.opM t x = m.goto t x.e) := by show _ = _; rw [HE0.out]; rfl
          go_enter Try.func28, Try.ntmps28
          go_wp2_with (first | (go_at_call 36; refine (RS.out h3).mono ?_; rintro e w4 ⟨h4, v, rfl, hv⟩; obtain ⟨s0, s1, s2, s3, s4, s5, sl⟩ := HI.out h4; obtain ⟨r0, rb, rm, rf, -, -, -, -⟩ := HT.out h4 HX.out.1; obtain ⟨q5v, q5c⟩ := HT5.out h4; have rf5 := rf 5; clear rf) | (go_at_call 23; refine (RCc.out h2).mono ?_; rintro e w3 ⟨rfl, h3⟩; obtain ⟨t0, t1, t2, t3, t4, t5, tl⟩ := HI.out h3) | (go_at_call 23; refine R1.mono ?_; rintro e w2 ⟨rfl, h2⟩; obtain ⟨u0, u1, u2, u3, u4, u5, ul⟩ := HI.out h2))
          first | go_end0 | refine bodyPost_ret (results_none rfl _ _ _) rfl ?_
          rw [HE.out, goto_T HX.out.1]
          exact StP.ok (h4.goto HX.out.1 HX.out.2.1 HX.out.2.2.1.2.2.2.2.2) HX.out.2.2.2
    · have RCc : Hid (∀ {W : World}, PS C N K W ps tb m → Calls Try.prog 23 #[ptr b, .int .i64 x.c] W (fun e w' => e = thr yc ∧ PS C N K w' ps tb m)) := fun {W} h => (read_c h ht hb hx.2.2.2.1).mono (fun e w' hh => by
        rcases hh with ⟨y, z, hz, e1, e2⟩ | ⟨y, hy, e1, e2⟩
        · have := hz.out.1
          rw [hyc] at this
          simp at this
        · have := hy.out
          rw [hyc] at this
          obtain rfl : yc = y := by simpa using this
          exact ⟨e1, e2⟩)
      have HE : Hid (m.opM t x = m.fin yc ∧ yc ≠ 0) := ⟨by unfold Mc.opM; rw [HB.out.1]; show (if x.d = 11 ∨ x.d = 12 then _ else _) = _; rw [if_neg (by omega), rd_F ht hyc], sl_ne hyc⟩
      clear h hI hx h0 ht hb hyb hyc
      go_enter Try.func28, Try.ntmps28
      go_wp2_with (first | (go_at_call 23; refine (RCc.out h2).mono ?_; rintro e w3 ⟨rfl, h3⟩) | (go_at_call 23; refine R1.mono ?_; rintro e w2 ⟨rfl, h2⟩; obtain ⟨u0, u1, u2, u3, u4, u5, ul⟩ := HI.out h2))
      exact ⟨rfl, by rw [HE.out.1]; exact StP.no h3 HX.out.2.2.2 HE.out.2⟩
  · have R1 : Calls Try.prog 23 #[ptr b, .int .i64 x.b] w (fun e w' => e = thr yb ∧ PS C N K w' ps tb m) := (read_c h ht hb hx.2.2.1).mono (fun e w' hh => by
      rcases hh with ⟨y, z, hz, e1, e2⟩ | ⟨y, hy, e1, e2⟩
      · have := hz.out.1
        rw [hyb] at this
        simp at this
      · have := hy.out
        rw [hyb] at this
        obtain rfl : yb = y := by simpa using this
        exact ⟨e1, e2⟩)
    have e1 : m.opM t x = m.fin yb := by unfold Mc.opM; rw [rd_F ht hyb]
    rw [e1]
    have HN : Hid (yb ≠ 0) := sl_ne hyb
    clear h hI hx h0 ht hb hyb e1
    go_enter Try.func28, Try.ntmps28
    go_wp2_with (go_at_call 23; refine R1.mono ?_; rintro e w2 ⟨rfl, h2⟩)
    exact ⟨rfl, StP.no h2 HX.out.2.2.2 HN.out⟩
end
end Go.Proofs.Ytpoepbmomfohlaa
namespace Go.Proofs.Ytpoepbmomfohlaa
open Go.RowKit
set_option linter.all false
section
variable {C : Ct} {N N' : Nat} {K : Nat → Obj → Prop} {w w' w1 : World} {ps : List Int} {tb tb' : List Nat} {m m' : Mc} {t b : Nat} {th th' : Th}
theorem due_x (h : PS C N K w ps tb m) (ht : m.ths[t]? = some th) (hb : tb[t]? = some b) (ha : th.abo = false) {x : Mi} (hx : insAt C.code th.pc = (x, true)) : Calls Try.prog 21 #[ptr b] w (fun e w' => PS C N K w' ps tb m ∧ ∃ cb f, Hid (IN C cb f x) ∧ e = .returned (.pointer (some ⟨cb, f, none⟩))) := by
  obtain ⟨at_, hat, c0, c1, c3, c5, c6, c7, c8, lb, fz, f0, f1⟩ := h.thr ht hb
  have D1 := due_c h c0 c5 lb
  rw [hat ha] at D1
  refine D1.mono ?_
  intro e w' hh
  refine ⟨h.below hh.1, ?_⟩
  rcases hh.2 with ⟨e, -⟩ | ⟨cb, f, x', e, e2⟩
  · have := e.out
    rw [hx] at this
    simp at this
  · have e3 := e.out
    rw [hx] at e3
    obtain rfl : x = x' := by have := e3.1; simpa using this
    exact ⟨cb, f, e3.2, e2⟩
end
end Go.Proofs.Ytpoepbmomfohlaa
