/- The heap's tree: with. -/
import Derived.Test.YtohhmcpaajcplaaTrd
namespace Go.Proofs.Ytohhmcpaajcplaa
open Go.RowKit
set_option linter.all false
theorem split_right {L R LL RR : List Rw} {r : Rw} (h : L ++ R = LL ++ r :: RR) (hr : r ∉ L) : ∃ R1, LL = L ++ R1 ∧ R = R1 ++ r :: RR := by
  rcases List.append_eq_append_iff.1 h with ⟨a, h1, h2⟩ | ⟨a, h1, h2⟩
  · exact ⟨a, h1, h2⟩
  · cases a with
    | nil => exact ⟨[], by simpa using h1.symm, by simpa using h2.symm⟩
    | cons x a =>
      simp at h2
      exact absurd (by rw [h1, h2.1]; simp) hr
theorem split_left {L R LL RR : List Rw} {r : Rw} (h : L ++ R = LL ++ r :: RR) (hr : r ∉ R) : ∃ L1, L = LL ++ r :: L1 ∧ RR = L1 ++ R := by
  rcases List.append_eq_append_iff.1 h with ⟨a, h1, h2⟩ | ⟨a, h1, h2⟩
  · exact absurd (by rw [h2]; simp) hr
  · cases a with
    | nil =>
      simp at h2
      exact absurd (by rw [← h2]; simp) hr
    | cons x a =>
      simp at h2
      exact ⟨a, by rw [h1, h2.1], h2.2⟩
set_option maxRecDepth 100000 in
set_option maxHeartbeats 1000000 in
theorem with17 {n : Rw} (hg : 0 ≤ n.g) : ∀ {h : Nat} {w : World} {p : Option Nat} {m ht : Int} {L R : List Rw}, TT w h (some n.a) p m ht (L ++ R) → w.heap[n.b]? = some (ndC n n.g 1 none none) → (∀ x ∈ L, x.a < n.a) → (∀ x ∈ R, n.a < x.a) → Srt (L ++ R) → (L ++ R).length ≤ 3999999999 → Calls Try.prog 17 #[pv p, .pointer (some ⟨n.b, 0, none⟩)] w (TPost (InR (L ++ n :: R)) w (L ++ n :: R)) := by
  intro h
  induction h with
  | zero =>
    intro w p m ht L R t hn hL hR hs len
    obtain ⟨rfl, rfl, rfl, e⟩ := t
    simp at e
    obtain ⟨rfl, rfl⟩ := e
    have KK : Hid (TPost (InR [n]) w [n] (.returned (pv (some n.b))) w) := ⟨some n.b, 1, n.g, 1, rfl, .inr ⟨n, none, none, 0, 0, 0, 0, [], [], rfl, hn, TT.nil _ _ _, TT.nil _ _ _, rfl, rfl, fun _ => by omega⟩, FX.refl _ _⟩
    show Calls Try.prog 17 #[.pointer none, .pointer (some ⟨n.b, 0, none⟩)] w (TPost (InR [n]) w [n])
    clear hn hL hR hs len
    go_enter Try.func17, Try.ntmps17
    go_wp2_with fail
    go_ret
    exact KK.out
  | succ h ih =>
    intro w p m ht L R t hn hL hR hs len
    cases p with
    | none =>
      have e := t.of_none.2.2
      simp at e
      obtain ⟨rfl, rfl⟩ := e
      have KK : Hid (TPost (InR [n]) w [n] (.returned (pv (some n.b))) w) := ⟨some n.b, 1, n.g, 1, rfl, .inr ⟨n, none, none, 0, 0, 0, 0, [], [], rfl, hn, TT.nil _ _ _, TT.nil _ _ _, rfl, rfl, fun _ => by omega⟩, FX.refl _ _⟩
      show Calls Try.prog 17 #[.pointer none, .pointer (some ⟨n.b, 0, none⟩)] w (TPost (InR [n]) w [n])
      clear hn hL hR hs len t ih
      go_enter Try.func17, Try.ntmps17
      go_wp2_with fail
      go_ret
      exact KK.out
    | some b =>
      obtain ⟨k, r, pl, pr, ml, mr, hl, hr, LL, RR, e0, rfl, hb, tl, tr, e, -, -⟩ := t.out
      obtain rfl : h = k := by omega
      obtain ⟨cb0, -, -, -, -, cb5, cb6, fb, lb⟩ := nd_cells hb
      obtain ⟨cn0, -, -, -, -, -, -, -, ln⟩ := nd_cells hn
      have hrm : r ∈ L ++ R := by rw [e]; simp
      have hrn : r.a ≠ n.a := by
        rcases List.mem_append.1 hrm with hm | hm
        · have := hL r hm; omega
        · have := hR r hm; omega
      have hbn : n.b ≠ r.b := node_ne hn hb (Ne.symm hrn)
      show Calls Try.prog 17 #[.pointer (some ⟨r.b, 0, none⟩), .pointer (some ⟨n.b, 0, none⟩)] w _
      by_cases hlt : n.a < r.a
      · obtain ⟨R1, rfl, rfl⟩ := split_right e (fun hm => by have := hL r hm; omega)
        simp only [dl, dr, if_pos hlt] at tl tr
        obtain ⟨s1, s2, s3, s4, s5⟩ := (show Srt ((L ++ R1) ++ r :: RR) by rw [← e]; exact hs).mid
        have hsn : Srt ((L ++ n :: R1) ++ r :: RR) := by
          refine Srt.mk (Srt.mk ?_ ?_ hL (fun x hx => hR x (by simp [hx]))) s2 (fun x hx => ?_) s4
          · exact (List.pairwise_append.1 s1).1
          · exact (List.pairwise_append.1 s1).2.1
          · simp at hx
            rcases hx with hx | rfl | hx
            · exact s3 x (by simp [hx])
            · exact hlt
            · exact s3 x (by simp [hx])
        have hnr : ∀ x ∈ L ++ n :: R1, x.b ≠ r.b := fun x hx => by
          simp at hx
          rcases hx with hx | rfl | hx
          · exact tl.ne hb (by simp [hx]) (by have := s3 x (by simp [hx]); omega)
          · exact hbn
          · exact tl.ne hb (by simp [hx]) (by have := s3 x (by simp [hx]); omega)
        have hno : ∀ x ∈ RR, x.b ≠ r.b ∧ ∀ y ∈ L ++ n :: R1, y.b ≠ x.b := fun x hx => by
          refine ⟨tr.ne hb hx (by have := s4 x hx; omega), fun y hy => ?_⟩
          simp at hy
          rcases hy with hy | rfl | hy
          · exact tl.ne2 tr (by simp [hy]) hx (by have := s5 y (by simp [hy]) x hx; omega)
          · exact Ne.symm (tr.ne hn hx (by have := s4 x hx; omega))
          · exact tl.ne2 tr (by simp [hy]) hx (by have := s5 y (by simp [hy]) x hx; omega)
        have eq : L ++ n :: (R1 ++ r :: RR) = (L ++ n :: R1) ++ r :: RR := by simp
        rw [eq]
        obtain ⟨xs, hxs⟩ : ∃ xs, xs = (L ++ n :: R1) ++ r :: RR := ⟨_, rfl⟩
        obtain ⟨ys, hys⟩ : ∃ ys, ys = L ++ n :: R1 := ⟨_, rfl⟩
        have hle : ((L ++ n :: R1) ++ r :: RR).length ≤ 4000000000 := by simp at len ⊢; omega
        have S1 : Hid (∀ nq, Calls Try.prog 17 #[pv pl, .pointer (some ⟨n.b, 0, none⟩)] (w.drewN nq) (TPost (InR ys) (w.drewN nq) ys)) := fun nq => by rw [hys]; exact ih (tl.drewN nq) hn hL (fun x hx => hR x (by simp [hx])) s1 (by simp at len ⊢; omega)
        rw [← hxs] at hsn hle ⊢
        rw [← hys] at hnr hno hxs
        have HX : Hid (xs = ys ++ r :: RR) := hxs
        have HS : Hid (Srt xs ∧ xs.length ≤ 4000000000) := ⟨hsn, hle⟩
        have HN : Hid (∀ x ∈ ys, x.b ≠ r.b) := hnr
        have HO : Hid (∀ x ∈ RR, x.b ≠ r.b ∧ ∀ y ∈ ys, y.b ≠ x.b) := hno
        have HB : Hid (w.heap[r.b]? = some (ndC r m ht pl pr)) := hb
        have TO : Hid (TT w h none pr mr hr RR) := tr
        clear ih s1 s2 s3 s4 s5 hsn hnr hno eq hle hxs hys hs hL hR len e e0 t tl tr hb hn hrm hrn hbn
        go_enter Try.func17, Try.ntmps17
        go_upto_region 3 with fail
        go_quiet (fail)
        go_upto_region 6 with (first | (go_at_call 17; refine (S1.out _).mono ?_; rintro e2 w2 ⟨p2, k2, m2, ht2, rfl, t2, f2⟩; have hr2 := (f2.block r.b (fun ⟨x, hx, he⟩ => HN.out x hx he)).trans HB.out; have fz2 := (nd_cells hr2).2.2.2.2.2.2.2.1; have cz2 := (nd_cells hr2).2.2.2.2.2.1; have lz2 := (nd_cells hr2).2.2.2.2.2.2.2.2))
        have S2 : Calls Try.prog 20 #[.pointer (some ⟨r.b, 0, none⟩)] (w2.setCell ⟨r.b, 5, none⟩ (pv p2)) (TPost (InR xs) (w2.setCell ⟨r.b, 5, none⟩ (pv p2)) xs) := by
          have t3 := t2.frame (w' := w2.setCell ⟨r.b, 5, none⟩ (pv p2)) (fun x hx => Below.heap_setCell _ ⟨r.b, 5, none⟩ _ _ (HN.out x hx))
          have q2 := TO.out.frame (w' := w2.setCell ⟨r.b, 5, none⟩ (pv p2)) (fun x hx => (Below.heap_setCell _ ⟨r.b, 5, none⟩ _ _ (HO.out x hx).1).trans (f2.block _ (fun ⟨y, hy, e⟩ => (HO.out x hx).2 y hy e)))
          have hS := HS.out
          rw [HX.out] at hS ⊢
          exact level20 (nd_set5 hr2 p2) (t3.up (Nat.le_max_left _ _)) (q2.up (Nat.le_max_right k2 _)) hS.1 hS.2
        have f3 : Hid (FX (InR xs) w (w2.setCell ⟨r.b, 5, none⟩ (pv p2))) := (((FX.refl (InR xs) w).drewN _).trans (f2.mono (fun b ⟨x, hx, e⟩ => ⟨x, by rw [HX.out]; simp [hx], e⟩))).setCell (p := ⟨r.b, 5, none⟩) ⟨r, by rw [HX.out]; simp, rfl⟩ _
        generalize w2.setCell ⟨r.b, 5, none⟩ (pv p2) = w3 at *
        clear t2 f2 hr2 fz2 cz2 lz2 S1
        go_wp2_with (go_at_call 20; refine S2.mono ?_; rintro e3 w4 ⟨p4, k4, m4, ht4, rfl, t4, f4⟩)
        go_ret
        exact ⟨p4, k4, m4, ht4, rfl, t4, f3.out.trans f4⟩
      · obtain ⟨L1, rfl, rfl⟩ := split_left e (fun hm => by have := hR r hm; omega)
        simp only [dl, dr, if_neg hlt] at tl tr
        obtain ⟨s1, s2, s3, s4, s5⟩ := (show Srt (LL ++ r :: (L1 ++ R)) by rw [← e]; exact hs).mid
        have hsn : Srt (LL ++ r :: (L1 ++ n :: R)) := by
          refine Srt.mk s1 (Srt.mk ?_ ?_ (fun x hx => hL x (by simp [hx])) hR) s3 (fun x hx => ?_)
          · exact (List.pairwise_append.1 s2).1
          · exact (List.pairwise_append.1 s2).2.1
          · simp at hx
            rcases hx with hx | rfl | hx
            · exact s4 x (by simp [hx])
            · omega
            · exact s4 x (by simp [hx])
        have hnr : ∀ x ∈ L1 ++ n :: R, x.b ≠ r.b := fun x hx => by
          simp at hx
          rcases hx with hx | rfl | hx
          · exact tr.ne hb (by simp [hx]) (by have := s4 x (by simp [hx]); omega)
          · exact hbn
          · exact tr.ne hb (by simp [hx]) (by have := s4 x (by simp [hx]); omega)
        have hno : ∀ x ∈ LL, x.b ≠ r.b ∧ ∀ y ∈ L1 ++ n :: R, y.b ≠ x.b := fun x hx => by
          refine ⟨tl.ne hb hx (by have := s3 x hx; omega), fun y hy => ?_⟩
          simp at hy
          rcases hy with hy | rfl | hy
          · exact tr.ne2 tl (by simp [hy]) hx (by have := s5 x hx y (by simp [hy]); omega)
          · exact Ne.symm (tl.ne hn hx (by have := s3 x hx; omega))
          · exact tr.ne2 tl (by simp [hy]) hx (by have := s5 x hx y (by simp [hy]); omega)
        have eq : (LL ++ r :: L1) ++ n :: R = LL ++ r :: (L1 ++ n :: R) := by simp
        rw [eq]
        obtain ⟨xs, hxs⟩ : ∃ xs, xs = LL ++ r :: (L1 ++ n :: R) := ⟨_, rfl⟩
        obtain ⟨ys, hys⟩ : ∃ ys, ys = L1 ++ n :: R := ⟨_, rfl⟩
        have hle : (LL ++ r :: (L1 ++ n :: R)).length ≤ 4000000000 := by simp at len ⊢; omega
        have S1 : Hid (∀ nq, Calls Try.prog 17 #[pv pr, .pointer (some ⟨n.b, 0, none⟩)] (w.drewN nq) (TPost (InR ys) (w.drewN nq) ys)) := fun nq => by rw [hys]; exact ih (tr.drewN nq) hn (fun x hx => hL x (by simp [hx])) hR s2 (by simp at len ⊢; omega)
        rw [← hxs] at hsn hle ⊢
        rw [← hys] at hnr hno hxs
        have HX : Hid (xs = LL ++ r :: ys) := hxs
        have HS : Hid (Srt xs ∧ xs.length ≤ 4000000000) := ⟨hsn, hle⟩
        have HN : Hid (∀ x ∈ ys, x.b ≠ r.b) := hnr
        have HO : Hid (∀ x ∈ LL, x.b ≠ r.b ∧ ∀ y ∈ ys, y.b ≠ x.b) := hno
        have HB : Hid (w.heap[r.b]? = some (ndC r m ht pl pr)) := hb
        have TO : Hid (TT w h none pl ml hl LL) := tl
        clear ih s1 s2 s3 s4 s5 hsn hnr hno eq hle hxs hys hs hL hR len e e0 t tl tr hb hn hrm hrn hbn
        go_enter Try.func17, Try.ntmps17
        go_upto_region 3 with fail
        go_quiet (fail)
        go_upto_region 6 with (first | (go_at_call 17; refine (S1.out _).mono ?_; rintro e2 w2 ⟨p2, k2, m2, ht2, rfl, t2, f2⟩; have hr2 := (f2.block r.b (fun ⟨x, hx, he⟩ => HN.out x hx he)).trans HB.out; have fz2 := (nd_cells hr2).2.2.2.2.2.2.2.1; have cz2 := (nd_cells hr2).2.2.2.2.2.2.1; have lz2 := (nd_cells hr2).2.2.2.2.2.2.2.2))
        have S2 : Calls Try.prog 20 #[.pointer (some ⟨r.b, 0, none⟩)] (w2.setCell ⟨r.b, 6, none⟩ (pv p2)) (TPost (InR xs) (w2.setCell ⟨r.b, 6, none⟩ (pv p2)) xs) := by
          have t3 := t2.frame (w' := w2.setCell ⟨r.b, 6, none⟩ (pv p2)) (fun x hx => Below.heap_setCell _ ⟨r.b, 6, none⟩ _ _ (HN.out x hx))
          have q2 := TO.out.frame (w' := w2.setCell ⟨r.b, 6, none⟩ (pv p2)) (fun x hx => (Below.heap_setCell _ ⟨r.b, 6, none⟩ _ _ (HO.out x hx).1).trans (f2.block _ (fun ⟨y, hy, e⟩ => (HO.out x hx).2 y hy e)))
          have hS := HS.out
          rw [HX.out] at hS ⊢
          exact level20 (nd_set6 hr2 p2) (q2.up (Nat.le_max_right k2 _)) (t3.up (Nat.le_max_left _ _)) hS.1 hS.2
        have f3 : Hid (FX (InR xs) w (w2.setCell ⟨r.b, 6, none⟩ (pv p2))) := (((FX.refl (InR xs) w).drewN _).trans (f2.mono (fun b ⟨x, hx, e⟩ => ⟨x, by rw [HX.out]; simp [hx], e⟩))).setCell (p := ⟨r.b, 6, none⟩) ⟨r, by rw [HX.out]; simp, rfl⟩ _
        generalize w2.setCell ⟨r.b, 6, none⟩ (pv p2) = w3 at *
        clear t2 f2 hr2 fz2 cz2 lz2 S1
        go_wp2_with (go_at_call 20; refine S2.mono ?_; rintro e3 w4 ⟨p4, k4, m4, ht4, rfl, t4, f4⟩)
        go_ret
        exact ⟨p4, k4, m4, ht4, rfl, t4, f3.out.trans f4⟩
end Go.Proofs.Ytohhmcpaajcplaa
