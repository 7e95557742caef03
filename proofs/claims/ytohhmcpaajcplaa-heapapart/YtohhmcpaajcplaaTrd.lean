/- The heap's tree: level. -/
import Derived.Test.YtohhmcpaajcplaaTrc
namespace Go.Proofs.Ytohhmcpaajcplaa
open Go.RowKit
set_option linter.all false
abbrev InR (xs : List Rw) (b : Nat) : Prop := ∃ x ∈ xs, x.b = b
theorem TT.drewN {w : World} {h : Nat} {d : Option Int} {p : Option Nat} {m ht : Int} {xs : List Rw} (t : TT w h d p m ht xs) (n : Nat) : TT (w.drewN n) h d p m ht xs := t.frame (fun _ _ => rfl)
theorem TPost.wide {X Y : Nat → Prop} {w w1 w' : World} {xs : List Rw} {e : Ending} (P : TPost X w1 xs e w') (k : FX Y w w1) (hX : ∀ k, X k → Y k) : TPost Y w xs e w' := by
  obtain ⟨p, h, m, ht, h1, h2, h3⟩ := P
  exact ⟨p, h, m, ht, h1, h2, k.trans (h3.mono hX)⟩
theorem turnRight {w : World} {r : Rw} {m0 h0 : Int} {c : Nat} {pr : Option Nat} (hb : w.heap[r.b]? = some (ndC r m0 h0 (some c) pr)) {h : Nat} {ml mr hl hr : Int} {L R : List Rw} (tl : TT w h none (some c) ml hl L) (tr : TT w h none pr mr hr R) (hs : Srt (L ++ r :: R)) (len : (L ++ r :: R).length ≤ 4000000000) : Calls Try.prog 24 #[.pointer (some ⟨r.b, 0, none⟩)] w (TPost (InR (L ++ r :: R)) w (L ++ r :: R)) := by
  obtain ⟨k, rc, pll, plr, mll, mlm, hll, hlm, LL, LM, rfl, rfl, hcn, tll, tlm, rfl, -, -⟩ := tl.out
  have e : LL ++ rc :: LM ++ r :: R = LL ++ rc :: (LM ++ r :: R) := by simp
  rw [e] at hs len ⊢
  refine (turnRight24 hb hcn (TT.up tll (Nat.le_succ k)) (TT.up tlm (Nat.le_succ k)) tr hs len).mono ?_
  intro e w' P
  exact P.wide (FX.refl _ _) (fun b hb => by rcases hb with rfl | rfl; exact ⟨r, by simp, rfl⟩; exact ⟨rc, by simp, rfl⟩)
theorem turnLeft {w : World} {r : Rw} {m0 h0 : Int} {c : Nat} {pl : Option Nat} (hb : w.heap[r.b]? = some (ndC r m0 h0 pl (some c))) {h : Nat} {ml mr hl hr : Int} {L R : List Rw} (tl : TT w h none pl ml hl L) (tr : TT w h none (some c) mr hr R) (hs : Srt (L ++ r :: R)) (len : (L ++ r :: R).length ≤ 4000000000) : Calls Try.prog 23 #[.pointer (some ⟨r.b, 0, none⟩)] w (TPost (InR (L ++ r :: R)) w (L ++ r :: R)) := by
  obtain ⟨k, rc, pll, plr, mll, mlm, hll, hlm, LL, LM, rfl, rfl, hcn, tll, tlm, rfl, -, -⟩ := tr.out
  refine (turnLeft23 hb hcn tl (TT.up tll (Nat.le_succ k)) (TT.up tlm (Nat.le_succ k)) hs len).mono ?_
  intro e w' P
  exact P.wide (FX.refl _ _) (fun b hb => by rcases hb with rfl | rfl; exact ⟨r, by simp, rfl⟩; exact ⟨rc, by simp, rfl⟩)
theorem TT.some_of {w : World} {h : Nat} {d : Option Int} {p : Option Nat} {m ht : Int} {xs : List Rw} (t : TT w h d p m ht xs) (hx : xs ≠ []) : ∃ b, p = some b := by
  cases p with
  | none => exact absurd (t.none_iff.1 rfl) hx
  | some b => exact ⟨b, rfl⟩
set_option maxRecDepth 100000 in
set_option maxHeartbeats 1000000 in
theorem level20 {w : World} {r : Rw} {m0 h0 : Int} {pl pr : Option Nat} (hb : w.heap[r.b]? = some (ndC r m0 h0 pl pr)) {h : Nat} {ml mr hl hr : Int} {L R : List Rw} (tl : TT w h none pl ml hl L) (tr : TT w h none pr mr hr R) (hs : Srt (L ++ r :: R)) (len : (L ++ r :: R).length ≤ 4000000000) : Calls Try.prog 20 #[.pointer (some ⟨r.b, 0, none⟩)] w (TPost (InR (L ++ r :: R)) w (L ++ r :: R)) := by
  obtain ⟨s1, s2, s3, s4, s5⟩ := hs.mid
  have nl : ∀ x ∈ L, x.b ≠ r.b := fun x hx => tl.ne hb hx (by have := s3 x hx; omega)
  have nr : ∀ x ∈ R, x.b ≠ r.b := fun x hx => tr.ne hb hx (by have := s4 x hx; omega)
  have S1 := settle21 hb tl tr nl nr (by simp at len; omega) (by simp at len; omega)
  have HT : Hid (0 ≤ hl ∧ hl ≤ 4000000000 ∧ 0 ≤ hr ∧ hr ≤ 4000000000) := by
    have h1 := tl.tall
    have h2 := tr.tall
    simp at len
    exact ⟨by omega, by omega, by omega, by omega⟩
  obtain ⟨xs, hxs⟩ : ∃ xs, xs = L ++ r :: R := ⟨_, rfl⟩
  rw [← hxs]
  have HX : Hid (xs = L ++ r :: R) := hxs
  have HS : Hid (Srt (L ++ r :: R) ∧ (L ++ r :: R).length ≤ 4000000000) := ⟨hs, len⟩
  clear hxs hs len
  go_enter Try.func20, Try.ntmps20
  go_upto_region 2 with (go_at_call 21; refine S1.mono ?_; rintro e w1 ⟨rfl, hb1, f1⟩)
  have tl1 := tl.frame (w' := w1) (fun x hx => f1.block _ (nl x hx))
  have tr1 := tr.frame (w' := w1) (fun x hx => f1.block _ (nr x hx))
  have HF : Hid (FX (InR xs) w w1) := f1.mono (fun k e => ⟨r, by rw [HX.out]; simp, e.symm⟩)
  clear hb tl tr s1 s2 s3 s4 s5 S1 nl nr f1
  have TL : Hid (TT w1 h none pl ml hl L) := tl1
  have TR : Hid (TT w1 h none pr mr hr R) := tr1
  have HB : Hid (w1.heap[r.b]? = some (ndC r (max r.g (max ml mr)) (1 + max hl hr) pl pr)) := hb1
  clear tl1 tr1
  obtain ⟨-, -, -, -, -, cb5, cb6, fb, lb⟩ := nd_cells hb1
  clear hb1
  have hw : wrap64 (hl - hr) = hl - hr := by have := HT.out; unfold wrap64; omega
  go_quiet ((first | (go_at_call_of 22 (pv pl); exact Calls.quiet_of_same (tall22 (TL.out.drewN _))) | (go_at_call_of 22 (pv pr); exact Calls.quiet_of_same (tall22 (TR.out.drewN _)))))
  have TL2 : Hid (TT (w1.drewN nq) h none pl ml hl L) := TL.out.drewN nq
  have TR2 : Hid (TT (w1.drewN nq) h none pr mr hr R) := TR.out.drewN nq
  have HB2 : Hid ((w1.drewN nq).heap[r.b]? = some (ndC r (max r.g (max ml mr)) (1 + max hl hr) pl pr)) := HB.out
  have HF2 : Hid (FX (InR xs) w (w1.drewN nq)) := HF.out.drewN nq
  clear cb5 cb6 fb lb TL TR HB HF
  generalize w1.drewN nq = wq at *
  obtain ⟨-, -, -, -, -, cb5, cb6, fb, lb⟩ := nd_cells HB2.out
  by_cases h1 : 1 < hl - hr
  · obtain ⟨c, hc⟩ := TL2.out.of_tall (by have := HT.out; omega)
    subst hc
    obtain ⟨k, rc, pll, plr, mll, mlm, hll, hlm, LL, LM, rfl, rfl, hcn, tll, tlm, hL, -, -⟩ := TL2.out.out
    have HL : Hid (L = LL ++ rc :: LM) := hL
    have TLL : Hid (TT wq k none pll mll hll LL) := tll
    have TLM : Hid (TT wq k none plr mlm hlm LM) := tlm
    have HC : Hid (∃ m ht, wq.heap[rc.b]? = some (ndC rc m ht pll plr)) := ⟨_, _, hcn⟩
    obtain ⟨-, -, -, -, -, cc5, cc6, fc, lc⟩ := nd_cells hcn
    replace cb5 : wq.cell? ⟨r.b, 5, none⟩ = some (.pointer (some ⟨rc.b, 0, none⟩)) := cb5
    clear hcn tll tlm hL
    go_upto_region 4 with fail
    go_quiet ((first | (go_at_call_of 22 (pv pll); exact Calls.quiet_of_same (tall22 (TLL.out.drewN _))) | (go_at_call_of 22 (pv plr); exact Calls.quiet_of_same (tall22 (TLM.out.drewN _)))))
    by_cases h3 : hll < hlm
    · obtain ⟨e, he⟩ := TLM.out.of_tall (by have := TLL.out.tall; omega)
      subst he
      have SA : Hid (Srt (LL ++ rc :: LM) ∧ (LL ++ rc :: LM).length ≤ 4000000000 ∧ ∀ x ∈ LL ++ rc :: LM, x.b ≠ r.b) := by
        obtain ⟨s1, s2, s3, s4, s5⟩ := HS.out.1.mid
        rw [← HL.out]
        exact ⟨s1, by have := HS.out.2; simp at this; omega, fun x hx => TL2.out.ne HB2.out hx (by have := s3 x hx; omega)⟩
      have S1 : Calls Try.prog 23 #[.pointer (some ⟨rc.b, 0, none⟩)] (wq.drewN nq) (TPost (InR (LL ++ rc :: LM)) (wq.drewN nq) (LL ++ rc :: LM)) := by
        obtain ⟨m, ht, hcn⟩ := HC.out
        exact turnLeft (w := wq.drewN nq) hcn (TLL.out.drewN nq) (TLM.out.drewN nq) SA.out.1 SA.out.2.1
      rw [← HL.out] at S1
      go_upto_region 6 with (first | (go_at_call 23; refine S1.mono ?_; rintro e2 w2 ⟨p2, k2, m2, ht2, rfl, t2, f2⟩; obtain ⟨c2, rfl⟩ := t2.some_of (by rw [HL.out]; simp); have hr2 := (f2.block r.b (fun hx => by obtain ⟨x, hx, he⟩ := hx; rw [HL.out] at hx; exact SA.out.2.2 x hx he)).trans HB2.out; have fz2 := (nd_cells hr2).2.2.2.2.2.2.2.1; have cz2 := (nd_cells hr2).2.2.2.2.2.1; have lz2 := (nd_cells hr2).2.2.2.2.2.2.2.2))
      have S2 : Calls Try.prog 24 #[.pointer (some ⟨r.b, 0, none⟩)] (w2.setCell ⟨r.b, 5, none⟩ (.pointer (some ⟨c2, 0, none⟩))) (TPost (InR xs) (w2.setCell ⟨r.b, 5, none⟩ (.pointer (some ⟨c2, 0, none⟩))) xs) := by
        obtain ⟨s1, s2, s3, s4, s5⟩ := HS.out.1.mid
        have n1 : ∀ x ∈ L, x.b ≠ r.b := fun x hx => SA.out.2.2 x (by rw [← HL.out]; exact hx)
        have n2 : ∀ x ∈ R, x.b ≠ r.b := fun x hx => TR2.out.ne HB2.out hx (by have := s4 x hx; omega)
        have t3 := t2.frame (w' := w2.setCell ⟨r.b, 5, none⟩ (.pointer (some ⟨c2, 0, none⟩))) (fun x hx => Below.heap_setCell _ ⟨r.b, 5, none⟩ _ _ (n1 x hx))
        have q2 := TR2.out.frame (w' := w2.setCell ⟨r.b, 5, none⟩ (.pointer (some ⟨c2, 0, none⟩))) (fun x hx => (Below.heap_setCell _ ⟨r.b, 5, none⟩ _ _ (n2 x hx)).trans (f2.block _ (fun ⟨y, hy, e⟩ => TL2.out.ne2 TR2.out hy hx (by have := s5 y hy x hx; omega) e)))
        rw [HX.out]
        exact turnRight (nd_set5 hr2 (some c2)) (t3.up (Nat.le_max_left _ _)) (q2.up (Nat.le_max_right k2 _)) HS.out.1 HS.out.2
      have f3 : Hid (FX (InR xs) w (w2.setCell ⟨r.b, 5, none⟩ (.pointer (some ⟨c2, 0, none⟩)))) := ((HF2.out.drewN nq).trans (f2.mono (fun b ⟨x, hx, e⟩ => ⟨x, by rw [HX.out]; simp [hx], e⟩))).setCell (p := ⟨r.b, 5, none⟩) ⟨r, by rw [HX.out]; simp, rfl⟩ _
      generalize w2.setCell ⟨r.b, 5, none⟩ (.pointer (some ⟨c2, 0, none⟩)) = w3 at *
      clear t2 f2 hr2 fz2 cz2 lz2 S1
      go_wp2_with (go_at_call 24; refine S2.mono ?_; rintro e3 w4 ⟨p4, k4, m4, ht4, rfl, t4, f4⟩)
      go_ret
      exact ⟨p4, k4, m4, ht4, rfl, t4, f3.out.trans f4⟩
    · have S1 : Calls Try.prog 24 #[.pointer (some ⟨r.b, 0, none⟩)] (wq.drewN nq) (TPost (InR xs) (wq.drewN nq) xs) := by
        rw [HX.out]
        exact turnRight (w := wq.drewN nq) HB2.out (TL2.out.drewN nq) (TR2.out.drewN nq) HS.out.1 HS.out.2
      go_wp2_with (go_at_call 24; refine S1.mono ?_; rintro e2 w2 ⟨p2, k2, m2, ht2, rfl, t2, f2⟩)
      go_ret
      exact ⟨p2, k2, m2, ht2, rfl, t2, (HF2.out.drewN nq).trans f2⟩
  · by_cases h2 : hl - hr < -1
    · obtain ⟨c, hc⟩ := TR2.out.of_tall (by have := HT.out; omega)
      subst hc
      obtain ⟨k, rc, pll, plr, mll, mlm, hll, hlm, LL, LM, rfl, rfl, hcn, tll, tlm, hL, -, -⟩ := TR2.out.out
      have HR : Hid (R = LL ++ rc :: LM) := hL
      have TLL : Hid (TT wq k none pll mll hll LL) := tll
      have TLM : Hid (TT wq k none plr mlm hlm LM) := tlm
      have HC : Hid (∃ m ht, wq.heap[rc.b]? = some (ndC rc m ht pll plr)) := ⟨_, _, hcn⟩
      obtain ⟨-, -, -, -, -, cc5, cc6, fc, lc⟩ := nd_cells hcn
      replace cb6 : wq.cell? ⟨r.b, 6, none⟩ = some (.pointer (some ⟨rc.b, 0, none⟩)) := cb6
      clear hcn tll tlm hL
      go_upto_region 8 with fail
      go_quiet ((first | (go_at_call_of 22 (pv plr); exact Calls.quiet_of_same (tall22 (TLM.out.drewN _))) | (go_at_call_of 22 (pv pll); exact Calls.quiet_of_same (tall22 (TLL.out.drewN _)))))
      by_cases h3 : hlm < hll
      · obtain ⟨e, he⟩ := TLL.out.of_tall (by have := TLM.out.tall; omega)
        subst he
        have SA : Hid (Srt (LL ++ rc :: LM) ∧ (LL ++ rc :: LM).length ≤ 4000000000 ∧ ∀ x ∈ LL ++ rc :: LM, x.b ≠ r.b) := by
          obtain ⟨s1, s2, s3, s4, s5⟩ := HS.out.1.mid
          rw [← HR.out]
          exact ⟨s2, by have := HS.out.2; simp at this; omega, fun x hx => TR2.out.ne HB2.out hx (by have := s4 x hx; omega)⟩
        have S1 : Calls Try.prog 24 #[.pointer (some ⟨rc.b, 0, none⟩)] (wq.drewN nq) (TPost (InR (LL ++ rc :: LM)) (wq.drewN nq) (LL ++ rc :: LM)) := by
          obtain ⟨m, ht, hcn⟩ := HC.out
          exact turnRight (w := wq.drewN nq) hcn (TLL.out.drewN nq) (TLM.out.drewN nq) SA.out.1 SA.out.2.1
        rw [← HR.out] at S1
        go_upto_region 10 with (first | (go_at_call 24; refine S1.mono ?_; rintro e2 w2 ⟨p2, k2, m2, ht2, rfl, t2, f2⟩; obtain ⟨c2, rfl⟩ := t2.some_of (by rw [HR.out]; simp); have hr2 := (f2.block r.b (fun hx => by obtain ⟨x, hx, he⟩ := hx; rw [HR.out] at hx; exact SA.out.2.2 x hx he)).trans HB2.out; have fz2 := (nd_cells hr2).2.2.2.2.2.2.2.1; have cz2 := (nd_cells hr2).2.2.2.2.2.2.1; have lz2 := (nd_cells hr2).2.2.2.2.2.2.2.2))
        have S2 : Calls Try.prog 23 #[.pointer (some ⟨r.b, 0, none⟩)] (w2.setCell ⟨r.b, 6, none⟩ (.pointer (some ⟨c2, 0, none⟩))) (TPost (InR xs) (w2.setCell ⟨r.b, 6, none⟩ (.pointer (some ⟨c2, 0, none⟩))) xs) := by
          obtain ⟨s1, s2, s3, s4, s5⟩ := HS.out.1.mid
          have n1 : ∀ x ∈ R, x.b ≠ r.b := fun x hx => SA.out.2.2 x (by rw [← HR.out]; exact hx)
          have n2 : ∀ x ∈ L, x.b ≠ r.b := fun x hx => TL2.out.ne HB2.out hx (by have := s3 x hx; omega)
          have t3 := t2.frame (w' := w2.setCell ⟨r.b, 6, none⟩ (.pointer (some ⟨c2, 0, none⟩))) (fun x hx => Below.heap_setCell _ ⟨r.b, 6, none⟩ _ _ (n1 x hx))
          have q2 := TL2.out.frame (w' := w2.setCell ⟨r.b, 6, none⟩ (.pointer (some ⟨c2, 0, none⟩))) (fun x hx => (Below.heap_setCell _ ⟨r.b, 6, none⟩ _ _ (n2 x hx)).trans (f2.block _ (fun ⟨y, hy, e⟩ => TL2.out.ne2 TR2.out hx hy (by have := s5 x hx y hy; omega) e.symm)))
          rw [HX.out]
          exact turnLeft (nd_set6 hr2 (some c2)) (q2.up (Nat.le_max_right k2 _)) (t3.up (Nat.le_max_left _ _)) HS.out.1 HS.out.2
        have f3 : Hid (FX (InR xs) w (w2.setCell ⟨r.b, 6, none⟩ (.pointer (some ⟨c2, 0, none⟩)))) := ((HF2.out.drewN nq).trans (f2.mono (fun b ⟨x, hx, e⟩ => ⟨x, by rw [HX.out]; simp [hx], e⟩))).setCell (p := ⟨r.b, 6, none⟩) ⟨r, by rw [HX.out]; simp, rfl⟩ _
        generalize w2.setCell ⟨r.b, 6, none⟩ (.pointer (some ⟨c2, 0, none⟩)) = w3 at *
        clear t2 f2 hr2 fz2 cz2 lz2 S1
        go_wp2_with (go_at_call 23; refine S2.mono ?_; rintro e3 w4 ⟨p4, k4, m4, ht4, rfl, t4, f4⟩)
        go_ret
        exact ⟨p4, k4, m4, ht4, rfl, t4, f3.out.trans f4⟩
      · have S1 : Calls Try.prog 23 #[.pointer (some ⟨r.b, 0, none⟩)] (wq.drewN nq) (TPost (InR xs) (wq.drewN nq) xs) := by
          rw [HX.out]
          exact turnLeft (w := wq.drewN nq) HB2.out (TL2.out.drewN nq) (TR2.out.drewN nq) HS.out.1 HS.out.2
        go_wp2_with (go_at_call 23; refine S1.mono ?_; rintro e2 w2 ⟨p2, k2, m2, ht2, rfl, t2, f2⟩)
        go_ret
        exact ⟨p2, k2, m2, ht2, rfl, t2, (HF2.out.drewN nq).trans f2⟩
    · have KK : Hid (TPost (InR xs) w xs (.returned (pv (some r.b))) wq) := ⟨some r.b, _, _, _, rfl, by rw [HX.out]; exact TT.top HB2.out TL2.out TR2.out, HF2.out⟩
      go_wp2_with fail
      go_ret
      exact KK.out
end Go.Proofs.Ytohhmcpaajcplaa
