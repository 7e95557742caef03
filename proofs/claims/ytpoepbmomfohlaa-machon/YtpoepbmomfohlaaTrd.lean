/- The heap's tree: level. -/
import Derived.Test.YtpoepbmomfohlaaTra
namespace Go.Proofs.Ytpoepbmomfohlaa
open Go.RowKit
set_option linter.all false
abbrev InR (xs : List Rw) (b : Nat) : Prop := ∃ x ∈ xs, x.b = b
theorem TT.drewN {w : World} {h : Nat} {d : Option Int} {p : Option Nat} {m ht : Int} {xs : List Rw} (t : TT w h d p m ht xs) (n : Nat) : TT (w.drewN n) h d p m ht xs := t.frame (fun _ _ => rfl)
theorem TPost.wide {X Y : Nat → Prop} {w w1 w' : World} {xs : List Rw} {e : Ending} (P : TPost X w1 xs e w') (k : FX Y w w1) (hX : ∀ k, X k → Y k) : TPost Y w xs e w' := by
  obtain ⟨p, h, m, ht, h1, h2, h3⟩ := P
  exact ⟨p, h, m, ht, h1, h2, k.trans (h3.mono hX)⟩
theorem turnRight {w : World} {r : Rw} {m0 h0 : Int} {c : Nat} {pr : Option Nat} (hb : w.heap[r.b]? = some (ndC r m0 h0 (some c) pr)) {h : Nat} {ml mr hl hr : Int} {L R : List Rw} (tl : TT w h none (some c) ml hl L) (tr : TT w h none pr mr hr R) (hs : Srt (L ++ r :: R)) (len : (L ++ r :: R).length ≤ 4000000000) : Calls Try.prog 62 #[.pointer (some ⟨r.b, 0, none⟩)] w (TPost (InR (L ++ r :: R)) w (L ++ r :: R)) := by
  obtain ⟨k, rc, pll, plr, mll, mlm, hll, hlm, LL, LM, rfl, rfl, hcn, tll, tlm, rfl, -, -⟩ := tl.out
  have e : LL ++ rc :: LM ++ r :: R = LL ++ rc :: (LM ++ r :: R) := by simp
  rw [e] at hs len ⊢
  refine (turnRight24 hb hcn (TT.up tll (Nat.le_succ k)) (TT.up tlm (Nat.le_succ k)) tr hs len).mono ?_
  intro e w' P
  exact P.wide (FX.refl _ _) (fun b hb => by rcases hb with rfl | rfl; exact ⟨r, by simp, rfl⟩; exact ⟨rc, by simp, rfl⟩)
theorem turnLeft {w : World} {r : Rw} {m0 h0 : Int} {c : Nat} {pl : Option Nat} (hb : w.heap[r.b]? = some (ndC r m0 h0 pl (some c))) {h : Nat} {ml mr hl hr : Int} {L R : List Rw} (tl : TT w h none pl ml hl L) (tr : TT w h none (some c) mr hr R) (hs : Srt (L ++ r :: R)) (len : (L ++ r :: R).length ≤ 4000000000) : Calls Try.prog 61 #[.pointer (some ⟨r.b, 0, none⟩)] w (TPost (InR (L ++ r :: R)) w (L ++ r :: R)) := by
  obtain ⟨k, rc, pll, plr, mll, mlm, hll, hlm, LL, LM, rfl, rfl, hcn, tll, tlm, rfl, -, -⟩ := tr.out
  refine (turnLeft23 hb hcn tl (TT.up tll (Nat.le_succ k)) (TT.up tlm (Nat.le_succ k)) hs len).mono ?_
  intro e w' P
  exact P.wide (FX.refl _ _) (fun b hb => by rcases hb with rfl | rfl; exact ⟨r, by simp, rfl⟩; exact ⟨rc, by simp, rfl⟩)
theorem TT.some_of {w : World} {h : Nat} {d : Option Int} {p : Option Nat} {m ht : Int} {xs : List Rw} (t : TT w h d p m ht xs) (hx : xs ≠ []) : ∃ b, p = some b := by
  cases p with
  | none => exact absurd (t.none_iff.1 rfl) hx
  | some b => exact ⟨b, rfl⟩
set_option maxRecDepth 100000 in
set_option maxHeartbeats 1000000 in
theorem level20 {w : World} {r : Rw} {m0 h0 : Int} {pl pr : Option Nat} (hb : w.heap[r.b]? = some (ndC r m0 h0 pl pr)) {h : Nat} {ml mr hl hr : Int} {L R : List Rw} (tl : TT w h none pl ml hl L) (tr : TT w h none pr mr hr R) (hs : Srt (L ++ r :: R)) (len : (L ++ r :: R).length ≤ 4000000000) : Calls Try.prog 56 #[.pointer (some ⟨r.b, 0, none⟩)] w (TPost (InR (L ++ r :: R)) w (L ++ r :: R)) := by
  obtain ⟨s1, s2, s3, s4, s5⟩ := hs.mid
  have nl : ∀ x ∈ L, x.b ≠ r.b := fun x hx => tl.ne hb hx (by have := s3 x hx; omega)
  have nr : ∀ x ∈ R, x.b ≠ r.b := fun x hx => tr.ne hb hx (by have := s4 x hx; omega)
  have S1 := settle21 hb tl tr nl nr (by simp at len; omega) (by simp at len; omega)
  have HT : Hid (0 ≤ hl ∧ hl ≤ 4000000000 ∧ 0 ≤ hr ∧ hr ≤ 4000000000) := by
    have h1 := tl.tall
    have h2 := tr.tall
    simp at len
    exact ⟨by omega, by omega, by omega, by omega⟩
  obtain ⟨xs, hxs⟩ : ∃ xs, xs = L ++ r :: R := ⟨_, rfl⟩
  rw [← hxs]
  have HX : Hid (xs = L ++ r :: R) := hxs
  have HS : Hid (Srt (L ++ r :: R) ∧ (L ++ r :: R).length ≤ 4000000000) := ⟨hs, len⟩
  clear hxs hs len
  go_enter Try.func56, Try.ntmps56
  go_upto_region 2 with (go_at_call 59; refine S1.mono ?_; rintro e w1 ⟨rfl, hb1, f1⟩)
  have tl1 := tl.frame (w' := w1) (fun x hx => f1.block _ (nl x hx))
  have tr1 := tr.frame (w' := w1) (fun x hx => f1.block _ (nr x hx))
  have HF : Hid (FX (InR xs) w w1) := f1.mono (fun k e => ⟨r, by rw [HX.out]; simp, e.symm⟩)
  clear hb tl tr s1 s2 s3 s4 s5 S1 nl nr f1
  have TL : Hid (TT w1 h none pl ml hl L) := tl1
  have TR : Hid (TT w1 h none pr mr hr R) := tr1
  have HB : Hid (w1.heap[r.b]? = some (ndC r (max r.g (max ml mr)) (1 + max hl hr) pl pr)) := hb1
  clear tl1 tr1
  obtain ⟨-, -, -, -, -, cb5, cb6, fb, lb⟩ := nd_cells hb1
  clear hb1
  have hw : wrap64 (hl - hr) = hl - hr := by have := HT.out; unfold wrap64; omega
  go_quiet ((first | (go_at_call_of 60 (pv pl); exact Calls.quiet_of_same (tall22 (TL.out.drewN _))) | (go_at_call_of 60 (pv pr); exact Calls.quiet_of_same (tall22 (TR.out.drewN _)))))
  have TL2 : Hid (TT (w1.drewN nq) h none pl ml hl L) := TL.out.drewN nq
  have TR2 : Hid (TT (w1.drewN nq) h none pr mr hr R) := TR.out.drewN nq
  have HB2 : Hid ((w1.drewN nq).heap[r.b]? = some (ndC r (max r.g (max ml mr)) (1 + max hl hr) pl pr)) := HB.out
  have HF2 : Hid (FX (InR xs) w (w1.drewN nq)) := HF.out.drewN nq
  clear cb5 cb6 fb lb TL TR HB HF
  generalize w1.drewN nq = wq at *
  obtain ⟨-, -, -, -, -, cb5, cb6, fb, lb⟩ := nd_cells HB2.out
  by_cases h1 : 1 < hl - hr
  · obtain ⟨c, hc⟩ := TL2.out.of_tall (by have := HT.out; omega)
    subst hc
    obtain ⟨k, rc, pll, plr, mll, mlm, hll, hlm, LL, LM, rfl, rfl, hcn, tll, tlm, hL, -, -⟩ := TL2.out.out
    have HL : Hid (L = LL ++ rc :: LM) := hL
    have TLL : Hid (TT wq k none pll mll hll LL) := tll
    have TLM : Hid (TT wq k none plr mlm hlm LM) := tlm
    have HC : Hid (∃ m ht, wq.heap[rc.b]? = some (ndC rc m ht pll plr)) := ⟨_, _, hcn⟩
    obtain ⟨-, -, -, -, -, cc5, cc6, fc, lc⟩ := nd_cells hcn
    replace cb5 : wq.cell? ⟨r.b, 5, none⟩ = some (.pointer (some ⟨rc.b, 0, none⟩)) := cb5
    clear hcn tll tlm hL
    go_upto_region 4 with fail
    go_quiet ((first | (go_at_call_of 60 (pv pll); exact Calls.quiet_of_same (tall22 (TLL.out.drewN _))) | (go_at_call_of 60 (pv plr); exact Calls.quiet_of_same (tall22 (TLM.out.drewN _)))))
    by_cases h3 : hll < hlm
    · obtain ⟨e, he⟩ := TLM.out.of_tall (by have := TLL.out.tall; omega)
      subst he
      have SA : Hid (Srt (LL ++ rc :: LM) ∧ (LL ++ rc :: LM).length ≤ 4000000000 ∧ ∀ x ∈ LL ++ rc :: LM, x.b ≠ r.b) := by
        obtain ⟨s1, s2, s3, s4, s5⟩ := HS.out.1.mid
        rw [← HL.out]
        exact ⟨s1, by have := HS.out.2; simp at this; omega, fun x hx => TL2.out.ne HB2.out hx (by have := s3 x hx; omega)⟩
      have S1 : Calls Try.prog 61 #[.pointer (some ⟨rc.b, 0, none⟩)] (wq.drewN nq) (TPost (InR (LL ++ rc :: LM)) (wq.drewN nq) (LL ++ rc :: LM)) := by
        obtain ⟨m, ht, hcn⟩ := HC.out
        exact turnLeft (w := wq.drewN nq) hcn (TLL.out.drewN nq) (TLM.out.drewN nq) SA.out.1 SA.out.2.1
      rw [← HL.out] at S1
      go_upto_region 6 with (first | (go_at_call 61; refine S1.mono ?_; rintro e2 w2 ⟨p2, k2, m2, ht2, rfl, t2, f2⟩; obtain ⟨c2, rfl⟩ := t2.some_of (by rw [HL.out]; simp); have hr2 := (f2.block r.b (fun hx => by obtain ⟨x, hx, he⟩ := hx; rw [HL.out] at hx; exact SA.out.2.2 x hx he)).trans HB2.out; have fz2 := (nd_cells hr2).2.2.2.2.2.2.2.1; have cz2 := (nd_cells hr2).2.2.2.2.2.1; have lz2 := (nd_cells hr2).2.2.2.2.2.2.2.2))
      have S2 : Calls Try.prog 62 #[.pointer (some ⟨r.b, 0, none⟩)] (w2.setCell ⟨r.b, 5, none⟩ (.pointer (some ⟨c2, 0, none⟩))) (TPost (InR xs) (w2.setCell ⟨r.b, 5, none⟩ (.pointer (some ⟨c2, 0, none⟩))) xs) := by
        obtain ⟨s1, s2, s3, s4, s5⟩ := HS.out.1.mid
        have n1 : ∀ x ∈ L, x.b ≠ r.b := fun x hx => SA.out.2.2 x (by rw [← HL.out]; exact hx)
        have n2 : ∀ x ∈ R, x.b ≠ r.b := fun x hx => TR2.out.ne HB2.out hx (by have := s4 x hx; omega)
        have t3 := t2.frame (w' := w2.setCell ⟨r.b, 5, none⟩ (.pointer (some ⟨c2, 0, none⟩))) (fun x hx => Below.heap_setCell _ ⟨r.b, 5, none⟩ _ _ (n1 x hx))
        have q2 := TR2.out.frame (w' := w2.setCell ⟨r.b, 5, none⟩ (.pointer (some ⟨c2, 0, none⟩))) (fun x hx => (Below.heap_setCell _ ⟨r.b, 5, none⟩ _ _ (n2 x hx)).trans (f2.block _ (fun ⟨y, hy, e⟩ => TL2.out.ne2 TR2.out hy hx (by have := s5 y hy x hx; omega) e)))
        rw [HX.out]
        exact turnRight (nd_set5 hr2 (some c2)) (t3.up (Nat.le_max_left _ _)) (q2.up (Nat.le_max_right k2 _)) HS.out.1 HS.out.2
      have f3 : Hid (FX (InR xs) w (w2.setCell ⟨r.b, 5, none⟩ (.pointer (some ⟨c2, 0, none⟩)))) := ((HF2.out.drewN nq).trans (f2.mono (fun b ⟨x, hx, e⟩ => ⟨x, by rw [HX.out]; simp [hx], e⟩))).setCell (p := ⟨r.b, 5, none⟩) ⟨r, by rw [HX.out]; simp, rfl⟩ _
      generalize w2.setCell ⟨r.b, 5, none⟩ (.pointer (some ⟨c2, 0, none⟩)) = w3 at *
      clear t2 f2 hr2 fz2 cz2 lz2 S1
      go_wp2_with (go_at_call 62; refine S2.mono ?_; rintro e3 w4 ⟨p4, k4, m4, ht4, rfl, t4, f4⟩)
      go_ret
      exact ⟨p4, k4, m4, ht4, rfl, t4, f3.out.trans f4⟩
    · have S1 : Calls Try.prog 62 #[.pointer (some ⟨r.b, 0, none⟩)] (wq.drewN nq) (TPost (InR xs) (wq.drewN nq) xs) := by
        rw [HX.out]
        exact turnRight (w := wq.drewN nq) HB2.out (TL2.out.drewN nq) (TR2.out.drewN nq) HS.out.1 HS.out.2
      go_wp2_with (go_at_call 62; refine S1.mono ?_; rintro e2 w2 ⟨p2, k2, m2, ht2, rfl, t2, f2⟩)
      go_ret
      exact ⟨p2, k2, m2, ht2, rfl, t2, (HF2.out.drewN nq).trans f2⟩
  · by_cases h2 : hl - hr < -1
    · obtain ⟨c, hc⟩ := TR2.out.of_tall (by have := HT.out; omega)
      subst hc
      obtain ⟨k, rc, pll, plr, mll, mlm, hll, hlm, LL, LM, rfl, rfl, hcn, tll, tlm, hL, -, -⟩ := TR2.out.out
      have HR : Hid (R = LL ++ rc :: LM) := hL
      have TLL : Hid (TT wq k none pll mll hll LL) := tll
      have TLM : Hid (TT wq k none plr mlm hlm LM) := tlm
      have HC : Hid (∃ m ht, wq.heap[rc.b]? = some (ndC rc m ht pll plr)) := ⟨_, _, hcn⟩
      obtain ⟨-, -, -, -, -, cc5, cc6, fc, lc⟩ := nd_cells hcn
      replace cb6 : wq.cell? ⟨r.b, 6, none⟩ = some (.pointer (some ⟨rc.b, 0, none⟩)) := cb6
      clear hcn tll tlm hL
      go_upto_region 8 with fail
      go_quiet ((first | (go_at_call_of 60 (pv plr); exact Calls.quiet_of_same (tall22 (TLM.out.drewN _))) | (go_at_call_of 60 (pv pll); exact Calls.quiet_of_same (tall22 (TLL.out.drewN _)))))
      by_cases h3 : hlm < hll
      · obtain ⟨e, he⟩ := TLL.out.of_tall (by have := TLM.out.tall; omega)
        subst he
        have SA : Hid (Srt (LL ++ rc :: LM) ∧ (LL ++ rc :: LM).length ≤ 4000000000 ∧ ∀ x ∈ LL ++ rc :: LM, x.b ≠ r.b) := by
          obtain ⟨s1, s2, s3, s4, s5⟩ := HS.out.1.mid
          rw [← HR.out]
          exact ⟨s2, by have := HS.out.2; simp at this; omega, fun x hx => TR2.out.ne HB2.out hx (by have := s4 x hx; omega)⟩
        have S1 : Calls Try.prog 62 #[.pointer (some ⟨rc.b, 0, none⟩)] (wq.drewN nq) (TPost (InR (LL ++ rc :: LM)) (wq.drewN nq) (LL ++ rc :: LM)) := by
          obtain ⟨m, ht, hcn⟩ := HC.out
          exact turnRight (w := wq.drewN nq) hcn (TLL.out.drewN nq) (TLM.out.drewN nq) SA.out.1 SA.out.2.1
        rw [← HR.out] at S1
        go_upto_region 10 with (first | (go_at_call 62; refine S1.mono ?_; rintro e2 w2 ⟨p2, k2, m2, ht2, rfl, t2, f2⟩; obtain ⟨c2, rfl⟩ := t2.some_of (by rw [HR.out]; simp); have hr2 := (f2.block r.b (fun hx => by obtain ⟨x, hx, he⟩ := hx; rw [HR.out] at hx; exact SA.out.2.2 x hx he)).trans HB2.out; have fz2 := (nd_cells hr2).2.2.2.2.2.2.2.1; have cz2 := (nd_cells hr2).2.2.2.2.2.2.1; have lz2 := (nd_cells hr2).2.2.2.2.2.2.2.2))
        have S2 : Calls Try.prog 61 #[.pointer (some ⟨r.b, 0, none⟩)] (w2.setCell ⟨r.b, 6, none⟩ (.pointer (some ⟨c2, 0, none⟩))) (TPost (InR xs) (w2.setCell ⟨r.b, 6, none⟩ (.pointer (some ⟨c2, 0, none⟩))) xs) := by
          obtain ⟨s1, s2, s3, s4, s5⟩ := HS.out.1.mid
          have n1 : ∀ x ∈ R, x.b ≠ r.b := fun x hx => SA.out.2.2 x (by rw [← HR.out]; exact hx)
          have n2 : ∀ x ∈ L, x.b ≠ r.b := fun x hx => TL2.out.ne HB2.out hx (by have := s3 x hx; omega)
          have t3 := t2.frame (w' := w2.setCell ⟨r.b, 6, none⟩ (.pointer (some ⟨c2, 0, none⟩))) (fun x hx => Below.heap_setCell _ ⟨r.b, 6, none⟩ _ _ (n1 x hx))
          have q2 := TL2.out.frame (w' := w2.setCell ⟨r.b, 6, none⟩ (.pointer (some ⟨c2, 0, none⟩))) (fun x hx => (Below.heap_setCell _ ⟨r.b, 6, none⟩ _ _ (n2 x hx)).trans (f2.block _ (fun ⟨y, hy, e⟩ => TL2.out.ne2 TR2.out hx hy (by have := s5 x hx y hy; omega) e.symm)))
          rw [HX.out]
          exact turnLeft (nd_set6 hr2 (some c2)) (q2.up (Nat.le_max_right k2 _)) (t3.up (Nat.le_max_left _ _)) HS.out.1 HS.out.2
        have f3 : Hid (FX (InR xs) w (w2.setCell ⟨r.b, 6, none⟩ (.pointer (some ⟨c2, 0, none⟩)))) := ((HF2.out.drewN nq).trans (f2.mono (fun b ⟨x, hx, e⟩ => ⟨x, by rw [HX.out]; simp [hx], e⟩))).setCell (p := ⟨r.b, 6, none⟩) ⟨r, by rw [HX.out]; simp, rfl⟩ _
        generalize w2.setCell ⟨r.b, 6, none⟩ (.pointer (some ⟨c2, 0, none⟩)) = w3 at *
        clear t2 f2 hr2 fz2 cz2 lz2 S1
        go_wp2_with (go_at_call 61; refine S2.mono ?_; rintro e3 w4 ⟨p4, k4, m4, ht4, rfl, t4, f4⟩)
        go_ret
        exact ⟨p4, k4, m4, ht4, rfl, t4, f3.out.trans f4⟩
      · have S1 : Calls Try.prog 61 #[.pointer (some ⟨r.b, 0, none⟩)] (wq.drewN nq) (TPost (InR xs) (wq.drewN nq) xs) := by
          rw [HX.out]
          exact turnLeft (w := wq.drewN nq) HB2.out (TL2.out.drewN nq) (TR2.out.drewN nq) HS.out.1 HS.out.2
        go_wp2_with (go_at_call 61; refine S1.mono ?_; rintro e2 w2 ⟨p2, k2, m2, ht2, rfl, t2, f2⟩)
        go_ret
        exact ⟨p2, k2, m2, ht2, rfl, t2, (HF2.out.drewN nq).trans f2⟩
    · have KK : Hid (TPost (InR xs) w xs (.returned (pv (some r.b))) wq) := ⟨some r.b, _, _, _, rfl, by rw [HX.out]; exact TT.top HB2.out TL2.out TR2.out, HF2.out⟩
      go_wp2_with fail
      go_ret
      exact KK.out
end Go.Proofs.Ytpoepbmomfohlaa
namespace Go.Proofs.Ytpoepbmomfohlaa
open Go.RowKit
set_option linter.all false
theorem split_right {L R LL RR : List Rw} {r : Rw} (h : L ++ R = LL ++ r :: RR) (hr : r ∉ L) : ∃ R1, LL = L ++ R1 ∧ R = R1 ++ r :: RR := by
  rcases List.append_eq_append_iff.1 h with ⟨a, h1, h2⟩ | ⟨a, h1, h2⟩
  · exact ⟨a, h1, h2⟩
  · cases a with
    | nil => exact ⟨[], by simpa using h1.symm, by simpa using h2.symm⟩
    | cons x a =>
      simp at h2
      exact absurd (by rw [h1, h2.1]; simp) hr
theorem split_left {L R LL RR : List Rw} {r : Rw} (h : L ++ R = LL ++ r :: RR) (hr : r ∉ R) : ∃ L1, L = LL ++ r :: L1 ∧ RR = L1 ++ R := by
  rcases List.append_eq_append_iff.1 h with ⟨a, h1, h2⟩ | ⟨a, h1, h2⟩
  · exact absurd (by rw [h2]; simp) hr
  · cases a with
    | nil =>
      simp at h2
      exact absurd (by rw [← h2]; simp) hr
    | cons x a =>
      simp at h2
      exact ⟨a, by rw [h1, h2.1], h2.2⟩
set_option maxRecDepth 100000 in
set_option maxHeartbeats 1000000 in
theorem with17 {n : Rw} (hg : 0 ≤ n.g) : ∀ {h : Nat} {w : World} {p : Option Nat} {m ht : Int} {L R : List Rw}, TT w h (some n.a) p m ht (L ++ R) → w.heap[n.b]? = some (ndC n n.g 1 none none) → (∀ x ∈ L, x.a < n.a) → (∀ x ∈ R, n.a < x.a) → Srt (L ++ R) → (L ++ R).length ≤ 3999999999 → Calls Try.prog 49 #[pv p, .pointer (some ⟨n.b, 0, none⟩)] w (TPost (InR (L ++ n :: R)) w (L ++ n :: R)) := by
  intro h
  induction h with
  | zero =>
    intro w p m ht L R t hn hL hR hs len
    obtain ⟨rfl, rfl, rfl, e⟩ := t
    simp at e
    obtain ⟨rfl, rfl⟩ := e
    have KK : Hid (TPost (InR [n]) w [n] (.returned (pv (some n.b))) w) := ⟨some n.b, 1, n.g, 1, rfl, .inr ⟨n, none, none, 0, 0, 0, 0, [], [], rfl, hn, TT.nil _ _ _, TT.nil _ _ _, rfl, rfl, fun _ => by omega⟩, FX.refl _ _⟩
    show Calls Try.prog 49 #[.pointer none, .pointer (some ⟨n.b, 0, none⟩)] w (TPost (InR [n]) w [n])
    clear hn hL hR hs len
    go_enter Try.func49, Try.ntmps49
    go_wp2_with fail
    go_ret
    exact KK.out
  | succ h ih =>
    intro w p m ht L R t hn hL hR hs len
    cases p with
    | none =>
      have e := t.of_none.2.2
      simp at e
      obtain ⟨rfl, rfl⟩ := e
      have KK : Hid (TPost (InR [n]) w [n] (.returned (pv (some n.b))) w) := ⟨some n.b, 1, n.g, 1, rfl, .inr ⟨n, none, none, 0, 0, 0, 0, [], [], rfl, hn, TT.nil _ _ _, TT.nil _ _ _, rfl, rfl, fun _ => by omega⟩, FX.refl _ _⟩
      show Calls Try.prog 49 #[.pointer none, .pointer (some ⟨n.b, 0, none⟩)] w (TPost (InR [n]) w [n])
      clear hn hL hR hs len t ih
      go_enter Try.func49, Try.ntmps49
      go_wp2_with fail
      go_ret
      exact KK.out
    | some b =>
      obtain ⟨k, r, pl, pr, ml, mr, hl, hr, LL, RR, e0, rfl, hb, tl, tr, e, -, -⟩ := t.out
      obtain rfl : h = k := by omega
      obtain ⟨cb0, -, -, -, -, cb5, cb6, fb, lb⟩ := nd_cells hb
      obtain ⟨cn0, -, -, -, -, -, -, -, ln⟩ := nd_cells hn
      have hrm : r ∈ L ++ R := by rw [e]; simp
      have hrn : r.a ≠ n.a := by
        rcases List.mem_append.1 hrm with hm | hm
        · have := hL r hm; omega
        · have := hR r hm; omega
      have hbn : n.b ≠ r.b := node_ne hn hb (Ne.symm hrn)
      show Calls Try.prog 49 #[.pointer (some ⟨r.b, 0, none⟩), .pointer (some ⟨n.b, 0, none⟩)] w _
      by_cases hlt : n.a < r.a
      · obtain ⟨R1, rfl, rfl⟩ := split_right e (fun hm => by have := hL r hm; omega)
        simp only [dl, dr, if_pos hlt] at tl tr
        obtain ⟨s1, s2, s3, s4, s5⟩ := (show Srt ((L ++ R1) ++ r :: RR) by rw [← e]; exact hs).mid
        have hsn : Srt ((L ++ n :: R1) ++ r :: RR) := by
          refine Srt.mk (Srt.mk ?_ ?_ hL (fun x hx => hR x (by simp [hx]))) s2 (fun x hx => ?_) s4
          · exact (List.pairwise_append.1 s1).1
          · exact (List.pairwise_append.1 s1).2.1
          · simp at hx
            rcases hx with hx | rfl | hx
            · exact s3 x (by simp [hx])
            · exact hlt
            · exact s3 x (by simp [hx])
        have hnr : ∀ x ∈ L ++ n :: R1, x.b ≠ r.b := fun x hx => by
          simp at hx
          rcases hx with hx | rfl | hx
          · exact tl.ne hb (by simp [hx]) (by have := s3 x (by simp [hx]); omega)
          · exact hbn
          · exact tl.ne hb (by simp [hx]) (by have := s3 x (by simp [hx]); omega)
        have hno : ∀ x ∈ RR, x.b ≠ r.b ∧ ∀ y ∈ L ++ n :: R1, y.b ≠ x.b := fun x hx => by
          refine ⟨tr.ne hb hx (by have := s4 x hx; omega), fun y hy => ?_⟩
          simp at hy
          rcases hy with hy | rfl | hy
          · exact tl.ne2 tr (by simp [hy]) hx (by have := s5 y (by simp [hy]) x hx; omega)
          · exact Ne.symm (tr.ne hn hx (by have := s4 x hx; omega))
          · exact tl.ne2 tr (by simp [hy]) hx (by have := s5 y (by simp [hy]) x hx; omega)
        have eq : L ++ n :: (R1 ++ r :: RR) = (L ++ n :: R1) ++ r :: RR := by simp
        rw [eq]
        obtain ⟨xs, hxs⟩ : ∃ xs, xs = (L ++ n :: R1) ++ r :: RR := ⟨_, rfl⟩
        obtain ⟨ys, hys⟩ : ∃ ys, ys = L ++ n :: R1 := ⟨_, rfl⟩
        have hle : ((L ++ n :: R1) ++ r :: RR).length ≤ 4000000000 := by simp at len ⊢; omega
        have S1 : Hid (∀ nq, Calls Try.prog 49 #[pv pl, .pointer (some ⟨n.b, 0, none⟩)] (w.drewN nq) (TPost (InR ys) (w.drewN nq) ys)) := fun nq => by rw [hys]; exact ih (tl.drewN nq) hn hL (fun x hx => hR x (by simp [hx])) s1 (by simp at len ⊢; omega)
        rw [← hxs] at hsn hle ⊢
        rw [← hys] at hnr hno hxs
        have HX : Hid (xs = ys ++ r :: RR) := hxs
        have HS : Hid (Srt xs ∧ xs.length ≤ 4000000000) := ⟨hsn, hle⟩
        have HN : Hid (∀ x ∈ ys, x.b ≠ r.b) := hnr
        have HO : Hid (∀ x ∈ RR, x.b ≠ r.b ∧ ∀ y ∈ ys, y.b ≠ x.b) := hno
        have HB : Hid (w.heap[r.b]? = some (ndC r m ht pl pr)) := hb
        have TO : Hid (TT w h none pr mr hr RR) := tr
        clear ih s1 s2 s3 s4 s5 hsn hnr hno eq hle hxs hys hs hL hR len e e0 t tl tr hb hn hrm hrn hbn
        go_enter Try.func49, Try.ntmps49
        go_upto_region 3 with fail
        go_quiet (fail)
        go_upto_region 6 with (first | (go_at_call 49; refine (S1.out _).mono ?_; rintro e2 w2 ⟨p2, k2, m2, ht2, rfl, t2, f2⟩; have hr2 := (f2.block r.b (fun ⟨x, hx, he⟩ => HN.out x hx he)).trans HB.out; have fz2 := (nd_cells hr2).2.2.2.2.2.2.2.1; have cz2 := (nd_cells hr2).2.2.2.2.2.1; have lz2 := (nd_cells hr2).2.2.2.2.2.2.2.2))
        have S2 : Calls Try.prog 56 #[.pointer (some ⟨r.b, 0, none⟩)] (w2.setCell ⟨r.b, 5, none⟩ (pv p2)) (TPost (InR xs) (w2.setCell ⟨r.b, 5, none⟩ (pv p2)) xs) := by
          have t3 := t2.frame (w' := w2.setCell ⟨r.b, 5, none⟩ (pv p2)) (fun x hx => Below.heap_setCell _ ⟨r.b, 5, none⟩ _ _ (HN.out x hx))
          have q2 := TO.out.frame (w' := w2.setCell ⟨r.b, 5, none⟩ (pv p2)) (fun x hx => (Below.heap_setCell _ ⟨r.b, 5, none⟩ _ _ (HO.out x hx).1).trans (f2.block _ (fun ⟨y, hy, e⟩ => (HO.out x hx).2 y hy e)))
          have hS := HS.out
          rw [HX.out] at hS ⊢
          exact level20 (nd_set5 hr2 p2) (t3.up (Nat.le_max_left _ _)) (q2.up (Nat.le_max_right k2 _)) hS.1 hS.2
        have f3 : Hid (FX (InR xs) w (w2.setCell ⟨r.b, 5, none⟩ (pv p2))) := (((FX.refl (InR xs) w).drewN _).trans (f2.mono (fun b ⟨x, hx, e⟩ => ⟨x, by rw [HX.out]; simp [hx], e⟩))).setCell (p := ⟨r.b, 5, none⟩) ⟨r, by rw [HX.out]; simp, rfl⟩ _
        generalize w2.setCell ⟨r.b, 5, none⟩ (pv p2) = w3 at *
        clear t2 f2 hr2 fz2 cz2 lz2 S1
        go_wp2_with (go_at_call 56; refine S2.mono ?_; rintro e3 w4 ⟨p4, k4, m4, ht4, rfl, t4, f4⟩)
        go_ret
        exact ⟨p4, k4, m4, ht4, rfl, t4, f3.out.trans f4⟩
      · obtain ⟨L1, rfl, rfl⟩ := split_left e (fun hm => by have := hR r hm; omega)
        simp only [dl, dr, if_neg hlt] at tl tr
        obtain ⟨s1, s2, s3, s4, s5⟩ := (show Srt (LL ++ r :: (L1 ++ R)) by rw [← e]; exact hs).mid
        have hsn : Srt (LL ++ r :: (L1 ++ n :: R)) := by
          refine Srt.mk s1 (Srt.mk ?_ ?_ (fun x hx => hL x (by simp [hx])) hR) s3 (fun x hx => ?_)
          · exact (List.pairwise_append.1 s2).1
          · exact (List.pairwise_append.1 s2).2.1
          · simp at hx
            rcases hx with hx | rfl | hx
            · exact s4 x (by simp [hx])
            · omega
            · exact s4 x (by simp [hx])
        have hnr : ∀ x ∈ L1 ++ n :: R, x.b ≠ r.b := fun x hx => by
          simp at hx
          rcases hx with hx | rfl | hx
          · exact tr.ne hb (by simp [hx]) (by have := s4 x (by simp [hx]); omega)
          · exact hbn
          · exact tr.ne hb (by simp [hx]) (by have := s4 x (by simp [hx]); omega)
        have hno : ∀ x ∈ LL, x.b ≠ r.b ∧ ∀ y ∈ L1 ++ n :: R, y.b ≠ x.b := fun x hx => by
          refine ⟨tl.ne hb hx (by have := s3 x hx; omega), fun y hy => ?_⟩
          simp at hy
          rcases hy with hy | rfl | hy
          · exact tr.ne2 tl (by simp [hy]) hx (by have := s5 x hx y (by simp [hy]); omega)
          · exact Ne.symm (tl.ne hn hx (by have := s3 x hx; omega))
          · exact tr.ne2 tl (by simp [hy]) hx (by have := s5 x hx y (by simp [hy]); omega)
        have eq : (LL ++ r :: L1) ++ n :: R = LL ++ r :: (L1 ++ n :: R) := by simp
        rw [eq]
        obtain ⟨xs, hxs⟩ : ∃ xs, xs = LL ++ r :: (L1 ++ n :: R) := ⟨_, rfl⟩
        obtain ⟨ys, hys⟩ : ∃ ys, ys = L1 ++ n :: R := ⟨_, rfl⟩
        have hle : (LL ++ r :: (L1 ++ n :: R)).length ≤ 4000000000 := by simp at len ⊢; omega
        have S1 : Hid (∀ nq, Calls Try.prog 49 #[pv pr, .pointer (some ⟨n.b, 0, none⟩)] (w.drewN nq) (TPost (InR ys) (w.drewN nq) ys)) := fun nq => by rw [hys]; exact ih (tr.drewN nq) hn (fun x hx => hL x (by simp [hx])) hR s2 (by simp at len ⊢; omega)
        rw [← hxs] at hsn hle ⊢
        rw [← hys] at hnr hno hxs
        have HX : Hid (xs = LL ++ r :: ys) := hxs
        have HS : Hid (Srt xs ∧ xs.length ≤ 4000000000) := ⟨hsn, hle⟩
        have HN : Hid (∀ x ∈ ys, x.b ≠ r.b) := hnr
        have HO : Hid (∀ x ∈ LL, x.b ≠ r.b ∧ ∀ y ∈ ys, y.b ≠ x.b) := hno
        have HB : Hid (w.heap[r.b]? = some (ndC r m ht pl pr)) := hb
        have TO : Hid (TT w h none pl ml hl LL) := tl
        clear ih s1 s2 s3 s4 s5 hsn hnr hno eq hle hxs hys hs hL hR len e e0 t tl tr hb hn hrm hrn hbn
        go_enter Try.func49, Try.ntmps49
        go_upto_region 3 with fail
        go_quiet (fail)
        go_upto_region 6 with (first | (go_at_call 49; refine (S1.out _).mono ?_; rintro e2 w2 ⟨p2, k2, m2, ht2, rfl, t2, f2⟩; have hr2 := (f2.block r.b (fun ⟨x, hx, he⟩ => HN.out x hx he)).trans HB.out; have fz2 := (nd_cells hr2).2.2.2.2.2.2.2.1; have cz2 := (nd_cells hr2).2.2.2.2.2.2.1; have lz2 := (nd_cells hr2).2.2.2.2.2.2.2.2))
        have S2 : Calls Try.prog 56 #[.pointer (some ⟨r.b, 0, none⟩)] (w2.setCell ⟨r.b, 6, none⟩ (pv p2)) (TPost (InR xs) (w2.setCell ⟨r.b, 6, none⟩ (pv p2)) xs) := by
          have t3 := t2.frame (w' := w2.setCell ⟨r.b, 6, none⟩ (pv p2)) (fun x hx => Below.heap_setCell _ ⟨r.b, 6, none⟩ _ _ (HN.out x hx))
          have q2 := TO.out.frame (w' := w2.setCell ⟨r.b, 6, none⟩ (pv p2)) (fun x hx => (Below.heap_setCell _ ⟨r.b, 6, none⟩ _ _ (HO.out x hx).1).trans (f2.block _ (fun ⟨y, hy, e⟩ => (HO.out x hx).2 y hy e)))
          have hS := HS.out
          rw [HX.out] at hS ⊢
          exact level20 (nd_set6 hr2 p2) (q2.up (Nat.le_max_right k2 _)) (t3.up (Nat.le_max_left _ _)) hS.1 hS.2
        have f3 : Hid (FX (InR xs) w (w2.setCell ⟨r.b, 6, none⟩ (pv p2))) := (((FX.refl (InR xs) w).drewN _).trans (f2.mono (fun b ⟨x, hx, e⟩ => ⟨x, by rw [HX.out]; simp [hx], e⟩))).setCell (p := ⟨r.b, 6, none⟩) ⟨r, by rw [HX.out]; simp, rfl⟩ _
        generalize w2.setCell ⟨r.b, 6, none⟩ (pv p2) = w3 at *
        clear t2 f2 hr2 fz2 cz2 lz2 S1
        go_wp2_with (go_at_call 56; refine S2.mono ?_; rintro e3 w4 ⟨p4, k4, m4, ht4, rfl, t4, f4⟩)
        go_ret
        exact ⟨p4, k4, m4, ht4, rfl, t4, f3.out.trans f4⟩
end Go.Proofs.Ytpoepbmomfohlaa
namespace Go.Proofs.Ytpoepbmomfohlaa
open Go.RowKit
set_option linter.all false
/-- The first one of a tree: it is the top, or the first one on the left. -/
theorem TT.first {w : World} {h : Nat} {d : Option Int} {b : Nat} {m ht : Int} {x : Rw} {xs : List Rw} (t : TT w h d (some b) m ht (x :: xs)) : ∃ (k : Nat) (r : Rw) (pl pr : Option Nat), h = k + 1 ∧ b = r.b ∧ w.heap[r.b]? = some (ndC r m ht pl pr) ∧ ((pl = none ∧ r = x) ∨ ∃ c ml hl ys, pl = some c ∧ TT w k (dl d r.a) (some c) ml hl (x :: ys)) := by
  obtain ⟨k, r, pl, pr, ml, mr, hl, hr, L, R, e0, e1, hc, tl, tr, e, -, -⟩ := t.out
  refine ⟨k, r, pl, pr, e0, e1, hc, ?_⟩
  cases pl with
  | none =>
    obtain ⟨-, -, rfl⟩ := tl.of_none
    simp at e
    exact .inl ⟨rfl, e.1.symm⟩
  | some c =>
    cases L with
    | nil => have := tl.none_iff.2 rfl; simp at this
    | cons y ys =>
      simp at e
      obtain ⟨rfl, e⟩ := e
      exact .inr ⟨c, ml, hl, ys, rfl, tl⟩
set_option maxRecDepth 100000 in
set_option maxHeartbeats 1000000 in
theorem first18 {w : World} {h : Nat} {d : Option Int} {b : Nat} {m ht : Int} {x : Rw} {xs : List Rw} (t : TT w h d (some b) m ht (x :: xs)) : Calls Try.prog 57 #[.pointer (some ⟨b, 0, none⟩)] w (fun e w' => e = .returned (.pointer (some ⟨x.b, 0, none⟩)) ∧ w' = w) := by
  have T : Hid (TT w h d (some b) m ht (x :: xs)) := t
  clear t
  go_enter Try.func57, Try.ntmps57
  go_wp2_with fail
  go_loopg [0] h (fun gg v0 wr => ∃ b' d' m' ht' ys, v0 = .pointer (some ⟨b', 0, none⟩) ∧ Hid (TT w gg d' (some b') m' ht' (x :: ys)) ∧ wr = w)
  case atStart => exact ⟨b, d, m, ht, xs, rfl, T.out, rfl⟩
  case round =>
    obtain ⟨b', d', m', ht', ys, rfl, T', rfl⟩ := hrel
    obtain ⟨k, r, pl, pr, hk, rfl, hc, hh⟩ := T'.out.first
    obtain ⟨-, -, -, -, -, cb5, -, -, lb⟩ := nd_cells hc
    rcases hh with ⟨rfl, rfl⟩ | ⟨c, ml, hl, zs, rfl, t2⟩
    · replace cb5 : wr.cell? ⟨r.b, 5, none⟩ = some (.pointer none) := cb5
      clear hc T'
      go_wp2_with fail
      go_ret
      exact ⟨rfl, rfl⟩
    · replace cb5 : wr.cell? ⟨r.b, 5, none⟩ = some (.pointer (some ⟨c, 0, none⟩)) := cb5
      have T2 : Hid (TT wr k (dl d' r.a) (some c) ml hl (x :: zs)) := t2
      clear hc T' t2
      go_wp2_with fail
      go_roundg k
      case measure => omega
      case rel => exact ⟨c, _, ml, hl, zs, rfl, T2.out, rfl⟩
set_option maxRecDepth 100000 in
set_option maxHeartbeats 1000000 in
theorem withoutFirst19 {a : Int} {x : Rw} : ∀ {h : Nat} {w : World} {b : Nat} {m ht : Int} {xs : List Rw}, TT w h (some a) (some b) m ht (x :: xs) → (∀ y ∈ x :: xs, a < y.a) → Srt (x :: xs) → (x :: xs).length ≤ 4000000000 → Calls Try.prog 58 #[.pointer (some ⟨b, 0, none⟩)] w (TPost (InR xs) w xs) := by
  intro h
  induction h with
  | zero => intro w b m ht xs t; obtain ⟨h1, -⟩ := t; simp at h1
  | succ h ih =>
    intro w b m ht xs t ha hs len
    obtain ⟨k, r, pl, pr, ml, mr, hl, hr, LL, RR, e0, rfl, hb, tl, tr, e, -, -⟩ := t.out
    obtain rfl : h = k := by omega
    obtain ⟨-, -, -, -, -, cb5, cb6, fb, lb⟩ := nd_cells hb
    have hlt : a < r.a := ha r (by rw [e]; simp)
    simp only [dl, dr, if_pos hlt] at tl tr
    cases pl with
    | none =>
      obtain ⟨-, -, rfl⟩ := tl.of_none
      simp at e
      obtain ⟨rfl, rfl⟩ := e
      replace cb5 : w.cell? ⟨x.b, 5, none⟩ = some (.pointer none) := cb5
      have KK : Hid (TPost (InR xs) w xs (.returned (pv pr)) w) := ⟨pr, h, mr, hr, rfl, tr, FX.refl _ _⟩
      clear ih t ha hs len hb tl tr e0 hlt
      go_enter Try.func58, Try.ntmps58
      go_wp2_with fail
      go_ret
      exact KK.out
    | some c =>
      obtain ⟨ys, hys⟩ : ∃ ys, LL = x :: ys := by
        cases LL with
        | nil => have := tl.none_iff.2 rfl; simp at this
        | cons y ys => simp at e; exact ⟨ys, by rw [e.1]⟩
      subst hys
      simp at e
      have hs' : Srt ((x :: ys) ++ r :: RR) := by rw [e] at hs; exact hs
      obtain ⟨s1, s2, s3, s4, s5⟩ := hs'.mid
      have S1 := ih tl (fun y hy => ha y (by rw [e]; simp at hy ⊢; rcases hy with h | h <;> simp [h])) s1 (by rw [e] at len; simp at len ⊢; omega)
      replace cb5 : w.cell? ⟨r.b, 5, none⟩ = some (.pointer (some ⟨c, 0, none⟩)) := cb5
      have HN : Hid (∀ y ∈ ys, y.b ≠ r.b) := fun y hy => tl.ne hb (by simp [hy]) (by have := s3 y (by simp [hy]); omega)
      have HO : Hid (∀ z ∈ RR, z.b ≠ r.b ∧ ∀ y ∈ ys, y.b ≠ z.b) := fun z hz => ⟨tr.ne hb hz (by have := s4 z hz; omega), fun y hy => tl.ne2 tr (by simp [hy]) hz (by have := s5 y (by simp [hy]) z hz; omega)⟩
      have HS : Hid (Srt xs ∧ xs.length ≤ 4000000000) := ⟨(List.pairwise_cons.1 hs).2, by simp at len; omega⟩
      have HX : Hid (xs = ys ++ r :: RR) := e
      have HB : Hid (w.heap[r.b]? = some (ndC r m ht (some c) pr)) := hb
      have TO : Hid (TT w h none pr mr hr RR) := tr
      clear ih s1 s2 s3 s4 s5 hs' hs ha len e e0 t tl tr hb hlt
      go_enter Try.func58, Try.ntmps58
      go_upto_region 4 with (first | (go_at_call 58; refine S1.mono ?_; rintro e2 w2 ⟨p2, k2, m2, ht2, rfl, t2, f2⟩; have hr2 := (f2.block r.b (fun ⟨x, hx, he⟩ => HN.out x hx he)).trans HB.out; have fz2 := (nd_cells hr2).2.2.2.2.2.2.2.1; have cz2 := (nd_cells hr2).2.2.2.2.2.1; have lz2 := (nd_cells hr2).2.2.2.2.2.2.2.2))
      have S2 : Calls Try.prog 56 #[.pointer (some ⟨r.b, 0, none⟩)] (w2.setCell ⟨r.b, 5, none⟩ (pv p2)) (TPost (InR xs) (w2.setCell ⟨r.b, 5, none⟩ (pv p2)) xs) := by
        have t3 := t2.frame (w' := w2.setCell ⟨r.b, 5, none⟩ (pv p2)) (fun x hx => Below.heap_setCell _ ⟨r.b, 5, none⟩ _ _ (HN.out x hx))
        have q2 := TO.out.frame (w' := w2.setCell ⟨r.b, 5, none⟩ (pv p2)) (fun x hx => (Below.heap_setCell _ ⟨r.b, 5, none⟩ _ _ (HO.out x hx).1).trans (f2.block _ (fun ⟨y, hy, e⟩ => (HO.out x hx).2 y hy e)))
        have hS := HS.out
        rw [HX.out] at hS ⊢
        exact level20 (nd_set5 hr2 p2) (t3.up (Nat.le_max_left _ _)) (q2.up (Nat.le_max_right k2 _)) hS.1 hS.2
      have f3 : Hid (FX (InR xs) w (w2.setCell ⟨r.b, 5, none⟩ (pv p2))) := (f2.mono (fun b ⟨x, hx, e⟩ => ⟨x, by rw [HX.out]; simp [hx], e⟩)).setCell (p := ⟨r.b, 5, none⟩) ⟨r, by rw [HX.out]; simp, rfl⟩ _
      generalize w2.setCell ⟨r.b, 5, none⟩ (pv p2) = w3 at *
      clear t2 f2 hr2 fz2 cz2 lz2 S1
      go_wp2_with (go_at_call 56; refine S2.mono ?_; rintro e3 w4 ⟨p4, k4, m4, ht4, rfl, t4, f4⟩)
      go_ret
      exact ⟨p4, k4, m4, ht4, rfl, t4, f3.out.trans f4⟩
end Go.Proofs.Ytpoepbmomfohlaa
