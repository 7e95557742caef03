/- The heap's tree: without. -/
import Derived.Test.YtohhmcpaajcplaaTrf
namespace Go.Proofs.Ytohhmcpaajcplaa
open Go.RowKit
set_option linter.all false
theorem split_same {L R LL RR : List Rw} {x r : Rw} (h : L ++ x :: R = LL ++ r :: RR) (hs : Srt (L ++ x :: R)) (he : x.a = r.a) : L = LL ∧ x = r ∧ R = RR := by
  obtain ⟨-, -, s3, s4, -⟩ := hs.mid
  obtain ⟨R1, h1, h2⟩ := split_right h (fun hm => by have := s3 r hm; omega)
  cases R1 with
  | nil => simp at h1 h2; exact ⟨h1.symm, h2.1, h2.2⟩
  | cons y R1 =>
    simp at h2
    have := s4 r (by rw [h2.2]; simp)
    omega
set_option maxRecDepth 100000 in
set_option maxHeartbeats 1000000 in
theorem without14 {x : Rw} : ∀ {h : Nat} {w : World} {b : Nat} {m ht : Int} {L R : List Rw}, TT w h (some x.a) (some b) m ht (L ++ x :: R) → Srt (L ++ x :: R) → (L ++ x :: R).length ≤ 4000000000 → Calls Try.prog 14 #[.pointer (some ⟨b, 0, none⟩), .int .i64 x.a] w (TPost (InR (L ++ x :: R)) w (L ++ R)) := by
  intro h
  induction h with
  | zero => intro w b m ht L R t; obtain ⟨h1, -⟩ := t; simp at h1
  | succ h ih =>
    intro w b m ht L R t hs len
    obtain ⟨k, r, pl, pr, ml, mr, hl, hr, LL, RR, e0, rfl, hb, tl, tr, e, -, -⟩ := t.out
    obtain rfl : h = k := by omega
    obtain ⟨cb0, -, -, -, -, cb5, cb6, fb, lb⟩ := nd_cells hb
    rcases Int.lt_trichotomy x.a r.a with hlt | heq | hgt
    · obtain ⟨R1, hLL, rfl⟩ := split_right (L := L ++ [x]) (R := R) (by simpa using e) (fun hm => by
        simp at hm
        rcases hm with hm | rfl
        · have := hs.mid.2.2.1 r hm; omega
        · omega)
      simp only [dl, dr, if_pos hlt] at tl tr
      have hLL : LL = L ++ x :: R1 := by simpa using hLL
      subst hLL
      have e2 : L ++ x :: (R1 ++ r :: RR) = (L ++ x :: R1) ++ r :: RR := by simp
      have e3 : L ++ (R1 ++ r :: RR) = (L ++ R1) ++ r :: RR := by simp
      rw [e2] at hs len ⊢
      rw [e3]
      obtain ⟨s1, s2, s3, s4, s5⟩ := hs.mid
      obtain ⟨c, hc⟩ := tl.some_of (by simp)
      subst hc
      have S1 := ih tl s1 (by simp at len ⊢; omega)
      have hin : ∀ y ∈ L ++ R1, y ∈ L ++ x :: R1 := fun y hy => by simp at hy ⊢; rcases hy with h | h <;> simp [h]
      have HN : Hid (∀ y ∈ L ++ x :: R1, y.b ≠ r.b) := fun y hy => tl.ne hb hy (by have := s3 y hy; omega)
      have HO : Hid (∀ z ∈ RR, z.b ≠ r.b ∧ ∀ y ∈ L ++ x :: R1, y.b ≠ z.b) := fun z hz => ⟨tr.ne hb hz (by have := s4 z hz; omega), fun y hy => tl.ne2 tr hy hz (by have := s5 y hy z hz; omega)⟩
      have HS : Hid (Srt ((L ++ R1) ++ r :: RR) ∧ ((L ++ R1) ++ r :: RR).length ≤ 4000000000) := ⟨Srt.mk (by have := s1.mid; exact List.pairwise_append.2 ⟨this.1, this.2.1, this.2.2.2.2⟩) s2 (fun y hy => s3 y (by simp at hy ⊢; rcases hy with h | h <;> simp [h])) s4, by simp at len ⊢; omega⟩
      have HB : Hid (w.heap[r.b]? = some (ndC r m ht (some c) pr)) := hb
      have TO : Hid (TT w h none pr mr hr RR) := tr
      have HI : Hid (∀ y ∈ L ++ R1, y ∈ L ++ x :: R1) := hin
      obtain ⟨xs, hxs⟩ : ∃ xs, xs = (L ++ R1) ++ r :: RR := ⟨_, rfl⟩
      obtain ⟨os, hos⟩ : ∃ os, os = (L ++ x :: R1) ++ r :: RR := ⟨_, rfl⟩
      have HX : Hid (xs = (L ++ R1) ++ r :: RR) := hxs
      have HOS : Hid (os = (L ++ x :: R1) ++ r :: RR) := hos
      rw [← hxs, ← hos]
      rw [← hxs] at HS
      replace cb5 : w.cell? ⟨r.b, 5, none⟩ = some (.pointer (some ⟨c, 0, none⟩)) := cb5
      clear ih s1 s2 s3 s4 s5 hs len e e0 e2 e3 t tl tr hb hin hxs hos
      go_enter Try.func14, Try.ntmps14
      go_upto_region 11 with (first | (go_at_call 14; refine S1.mono ?_; rintro e2 w2 ⟨p2, k2, m2, ht2, rfl, t2, f2⟩; have hr2 := (f2.block r.b (fun ⟨x, hx, he⟩ => HN.out x hx he)).trans HB.out; have fz2 := (nd_cells hr2).2.2.2.2.2.2.2.1; have cz2 := (nd_cells hr2).2.2.2.2.2.1; have lz2 := (nd_cells hr2).2.2.2.2.2.2.2.2))
      have S2 : Calls Try.prog 20 #[.pointer (some ⟨r.b, 0, none⟩)] (w2.setCell ⟨r.b, 5, none⟩ (pv p2)) (TPost (InR xs) (w2.setCell ⟨r.b, 5, none⟩ (pv p2)) xs) := by
        have t3 := t2.frame (w' := w2.setCell ⟨r.b, 5, none⟩ (pv p2)) (fun x hx => Below.heap_setCell _ ⟨r.b, 5, none⟩ _ _ (HN.out x (HI.out x hx)))
        have q2 := TO.out.frame (w' := w2.setCell ⟨r.b, 5, none⟩ (pv p2)) (fun x hx => (Below.heap_setCell _ ⟨r.b, 5, none⟩ _ _ (HO.out x hx).1).trans (f2.block _ (fun ⟨y, hy, e⟩ => (HO.out x hx).2 y hy e)))
        have hS := HS.out
        rw [HX.out] at hS ⊢
        exact level20 (nd_set5 hr2 p2) (t3.up (Nat.le_max_left _ _)) (q2.up (Nat.le_max_right k2 _)) hS.1 hS.2
      have f3 : Hid (FX (InR os) w (w2.setCell ⟨r.b, 5, none⟩ (pv p2))) := (f2.mono (fun b ⟨x, hx, e⟩ => ⟨x, by rw [HOS.out]; exact List.mem_append.2 (.inl hx), e⟩)).setCell (p := ⟨r.b, 5, none⟩) ⟨r, by rw [HOS.out]; simp, rfl⟩ _
      have HXO : Hid (∀ b, InR xs b → InR os b) := fun b ⟨y, hy, e⟩ => ⟨y, by rw [HOS.out]; rw [HX.out] at hy; simp at hy ⊢; rcases hy with h | h | h | h <;> simp [h], e⟩
      generalize w2.setCell ⟨r.b, 5, none⟩ (pv p2) = w3 at *
      clear t2 f2 hr2 fz2 cz2 lz2 S1
      go_wp2_with (go_at_call 20; refine S2.mono ?_; rintro e3 w4 ⟨p4, k4, m4, ht4, rfl, t4, f4⟩)
      go_ret
      exact ⟨p4, k4, m4, ht4, rfl, t4, f3.out.trans (f4.mono HXO.out)⟩
    · obtain ⟨rfl, rfl, rfl⟩ := split_same e hs heq
      simp only [dl, dr, if_neg (Int.lt_irrefl x.a)] at tl tr
      cases pr with
      | none =>
        obtain ⟨-, -, rfl⟩ := tr.of_none
        replace cb6 : w.cell? ⟨x.b, 6, none⟩ = some (.pointer none) := cb6
        have KK : Hid (TPost (InR (L ++ [x])) w (L ++ []) (.returned (pv pl)) w) := ⟨pl, h, ml, hl, rfl, by simpa using tl, FX.refl _ _⟩
        generalize TPost (InR (L ++ [x])) w (L ++ []) = Q at *
        clear ih t hs len hb tl tr e0 e
        go_enter Try.func14, Try.ntmps14
        go_wp2_with fail
        exact KK.out
      | some c =>
        obtain ⟨y, ys, rfl⟩ : ∃ y ys, R = y :: ys := by
          cases R with
          | nil => have := tr.none_iff.2 rfl; simp at this
          | cons y ys => exact ⟨y, ys, rfl⟩
        obtain ⟨s1, s2, s3, s4, s5⟩ := hs.mid
        have F1 := first18 tr
        have S1 := withoutFirst19 tr s4 s2 (by simp at len ⊢; omega)
        obtain ⟨my, hy, py1, py2, hyc⟩ := tr.row y (by simp)
        have HY : Hid (w.heap[y.b]? = some (ndC y my hy py1 py2)) := hyc
        have HN : Hid (∀ z ∈ ys, z.b ≠ y.b ∧ z.b ≠ x.b) := fun z hz => ⟨tr.ne hyc (by simp [hz]) (by have := (List.pairwise_cons.1 s2).1 z hz; omega), tr.ne hb (by simp [hz]) (by have := s4 z (by simp [hz]); omega)⟩
        have HO : Hid (∀ z ∈ L, z.b ≠ y.b ∧ ∀ v ∈ ys, v.b ≠ z.b) := fun z hz => ⟨tl.ne hyc hz (by have := s5 z hz y (by simp); omega), fun v hv => tr.ne2 tl (by simp [hv]) hz (by have := s5 z hz v (by simp [hv]); omega)⟩
        have HS : Hid (Srt (L ++ y :: ys) ∧ (L ++ y :: ys).length ≤ 4000000000) := ⟨Srt.mk s1 (List.pairwise_cons.1 s2).2 (fun z hz => s5 z hz y (by simp)) (List.pairwise_cons.1 s2).1, by simp at len ⊢; omega⟩
        have HB : Hid (w.heap[x.b]? = some (ndC x m ht pl (some c))) := hb
        have hxy : y.b ≠ x.b := tr.ne hb (by simp) (by have := s4 y (by simp); omega)
        have TO : Hid (TT w h none pl ml hl L) := tl
        obtain ⟨xs, hxs⟩ : ∃ xs, xs = L ++ y :: ys := ⟨_, rfl⟩
        obtain ⟨os, hos⟩ : ∃ os, os = L ++ x :: (y :: ys) := ⟨_, rfl⟩
        have HX : Hid (xs = L ++ y :: ys) := hxs
        have HOS : Hid (os = L ++ x :: (y :: ys)) := hos
        rw [← hxs, ← hos]
        rw [← hxs] at HS
        replace cb6 : w.cell? ⟨x.b, 6, none⟩ = some (.pointer (some ⟨c, 0, none⟩)) := cb6
        clear ih s1 s2 s3 s4 s5 hs len e e0 t tl tr hb hyc hxs hos
        go_enter Try.func14, Try.ntmps14
        go_upto_region 2 with (first | (go_at_call 18; refine F1.mono ?_; rintro e2 wx ⟨rfl, hwx⟩; replace hwx := hwx.symm; subst hwx))
        go_upto_region 3 with (first | (go_at_call 19; refine S1.mono ?_; rintro e2 w2 ⟨p2, k2, m2, ht2, rfl, t2, f2⟩))
        have hx2 := (f2.block x.b (fun ⟨z, hz, he⟩ => (HN.out z hz).2 he)).trans HB.out
        have hy2 := (f2.block y.b (fun ⟨z, hz, he⟩ => (HN.out z hz).1 he)).trans HY.out
        obtain ⟨-, -, -, -, -, cz5, cz6, fz, lz⟩ := nd_cells hy2
        obtain ⟨-, -, -, -, -, cx5, -, -, lx⟩ := nd_cells hx2
        go_upto_region 4 with fail
        have S2 : Calls Try.prog 20 #[.pointer (some ⟨y.b, 0, none⟩)] ((w2.setCell ⟨y.b, 5, none⟩ (pv pl)).setCell ⟨y.b, 6, none⟩ (pv p2)) (TPost (InR xs) ((w2.setCell ⟨y.b, 5, none⟩ (pv pl)).setCell ⟨y.b, 6, none⟩ (pv p2)) xs) := by
          have t3 := t2.frame (w' := (w2.setCell ⟨y.b, 5, none⟩ (pv pl)).setCell ⟨y.b, 6, none⟩ (pv p2)) (fun z hz => (Below.heap_setCell _ ⟨y.b, 6, none⟩ _ _ (HN.out z hz).1).trans (Below.heap_setCell _ ⟨y.b, 5, none⟩ _ _ (HN.out z hz).1))
          have q2 := TO.out.frame (w' := (w2.setCell ⟨y.b, 5, none⟩ (pv pl)).setCell ⟨y.b, 6, none⟩ (pv p2)) (fun z hz => ((Below.heap_setCell _ ⟨y.b, 6, none⟩ _ _ (HO.out z hz).1).trans (Below.heap_setCell _ ⟨y.b, 5, none⟩ _ _ (HO.out z hz).1)).trans (f2.block _ (fun ⟨v, hv, e⟩ => (HO.out z hz).2 v hv e)))
          have hS := HS.out
          rw [HX.out] at hS ⊢
          exact level20 (nd_set6 (nd_set5 hy2 pl) p2) (q2.up (Nat.le_max_right k2 _)) (t3.up (Nat.le_max_left _ _)) hS.1 hS.2
        have f3 : Hid (FX (InR os) w ((w2.setCell ⟨y.b, 5, none⟩ (pv pl)).setCell ⟨y.b, 6, none⟩ (pv p2))) := ((f2.mono (fun b ⟨x, hx, e⟩ => ⟨x, by rw [HOS.out]; simp [hx], e⟩)).setCell (p := ⟨y.b, 5, none⟩) ⟨y, by rw [HOS.out]; simp, rfl⟩ _).setCell (p := ⟨y.b, 6, none⟩) ⟨y, by rw [HOS.out]; simp, rfl⟩ _
        have HXO : Hid (∀ b, InR xs b → InR os b) := fun b ⟨z, hz, e⟩ => ⟨z, by rw [HOS.out]; rw [HX.out] at hz; simp at hz ⊢; rcases hz with h | h | h <;> simp [h], e⟩
        generalize (w2.setCell ⟨y.b, 5, none⟩ (pv pl)).setCell ⟨y.b, 6, none⟩ (pv p2) = w3 at *
        clear t2 f2 hx2 hy2 cz5 cz6 fz lz cx5 lx S1 F1
        go_wp2_with (go_at_call 20; refine S2.mono ?_; rintro e3 w4 ⟨p4, k4, m4, ht4, rfl, t4, f4⟩)
        try go_ret
        exact ⟨p4, k4, m4, ht4, rfl, t4, f3.out.trans (f4.mono HXO.out)⟩
    · obtain ⟨L1, rfl, rfl⟩ := split_left (L := L) (R := x :: R) e (fun hm => by
        simp at hm
        rcases hm with rfl | hm
        · omega
        · have := hs.mid.2.2.2.1 r hm; omega)
      have hlt : ¬ x.a < r.a := by omega
      simp only [dl, dr, if_neg hlt] at tl tr
      have e2 : (LL ++ r :: L1) ++ x :: R = LL ++ r :: (L1 ++ x :: R) := by simp
      have e3 : (LL ++ r :: L1) ++ R = LL ++ r :: (L1 ++ R) := by simp
      rw [e2] at hs len ⊢
      rw [e3]
      obtain ⟨s1, s2, s3, s4, s5⟩ := hs.mid
      obtain ⟨c, hc⟩ := tr.some_of (by simp)
      subst hc
      have S1 := ih tr s2 (by simp at len ⊢; omega)
      have hin : ∀ y ∈ L1 ++ R, y ∈ L1 ++ x :: R := fun y hy => by simp at hy ⊢; rcases hy with h | h <;> simp [h]
      have HN : Hid (∀ y ∈ L1 ++ x :: R, y.b ≠ r.b) := fun y hy => tr.ne hb hy (by have := s4 y hy; omega)
      have HO : Hid (∀ z ∈ LL, z.b ≠ r.b ∧ ∀ y ∈ L1 ++ x :: R, y.b ≠ z.b) := fun z hz => ⟨tl.ne hb hz (by have := s3 z hz; omega), fun y hy => tr.ne2 tl hy hz (by have := s5 z hz y hy; omega)⟩
      have HS : Hid (Srt (LL ++ r :: (L1 ++ R)) ∧ (LL ++ r :: (L1 ++ R)).length ≤ 4000000000) := ⟨Srt.mk s1 (by have := s2.mid; exact List.pairwise_append.2 ⟨this.1, this.2.1, this.2.2.2.2⟩) s3 (fun y hy => s4 y (by simp at hy ⊢; rcases hy with h | h <;> simp [h])), by simp at len ⊢; omega⟩
      have HB : Hid (w.heap[r.b]? = some (ndC r m ht pl (some c))) := hb
      have TO : Hid (TT w h none pl ml hl LL) := tl
      have HI : Hid (∀ y ∈ L1 ++ R, y ∈ L1 ++ x :: R) := hin
      obtain ⟨xs, hxs⟩ : ∃ xs, xs = LL ++ r :: (L1 ++ R) := ⟨_, rfl⟩
      obtain ⟨os, hos⟩ : ∃ os, os = LL ++ r :: (L1 ++ x :: R) := ⟨_, rfl⟩
      have HX : Hid (xs = LL ++ r :: (L1 ++ R)) := hxs
      have HOS : Hid (os = LL ++ r :: (L1 ++ x :: R)) := hos
      rw [← hxs, ← hos]
      rw [← hxs] at HS
      replace cb6 : w.cell? ⟨r.b, 6, none⟩ = some (.pointer (some ⟨c, 0, none⟩)) := cb6
      clear ih s1 s2 s3 s4 s5 hs len e e0 e2 e3 t tl tr hb hin hxs hos
      go_enter Try.func14, Try.ntmps14
      go_upto_region 11 with (first | (go_at_call 14; refine S1.mono ?_; rintro e2 w2 ⟨p2, k2, m2, ht2, rfl, t2, f2⟩; have hr2 := (f2.block r.b (fun ⟨x, hx, he⟩ => HN.out x hx he)).trans HB.out; have fz2 := (nd_cells hr2).2.2.2.2.2.2.2.1; have cz2 := (nd_cells hr2).2.2.2.2.2.2.1; have lz2 := (nd_cells hr2).2.2.2.2.2.2.2.2))
      have S2 : Calls Try.prog 20 #[.pointer (some ⟨r.b, 0, none⟩)] (w2.setCell ⟨r.b, 6, none⟩ (pv p2)) (TPost (InR xs) (w2.setCell ⟨r.b, 6, none⟩ (pv p2)) xs) := by
        have t3 := t2.frame (w' := w2.setCell ⟨r.b, 6, none⟩ (pv p2)) (fun x hx => Below.heap_setCell _ ⟨r.b, 6, none⟩ _ _ (HN.out x (HI.out x hx)))
        have q2 := TO.out.frame (w' := w2.setCell ⟨r.b, 6, none⟩ (pv p2)) (fun x hx => (Below.heap_setCell _ ⟨r.b, 6, none⟩ _ _ (HO.out x hx).1).trans (f2.block _ (fun ⟨y, hy, e⟩ => (HO.out x hx).2 y hy e)))
        have hS := HS.out
        rw [HX.out] at hS ⊢
        exact level20 (nd_set6 hr2 p2) (q2.up (Nat.le_max_right k2 _)) (t3.up (Nat.le_max_left _ _)) hS.1 hS.2
      have f3 : Hid (FX (InR os) w (w2.setCell ⟨r.b, 6, none⟩ (pv p2))) := (f2.mono (fun b ⟨x, hx, e⟩ => ⟨x, by rw [HOS.out]; exact List.mem_append.2 (.inr (List.mem_cons_of_mem _ hx)), e⟩)).setCell (p := ⟨r.b, 6, none⟩) ⟨r, by rw [HOS.out]; simp, rfl⟩ _
      have HXO : Hid (∀ b, InR xs b → InR os b) := fun b ⟨y, hy, e⟩ => ⟨y, by rw [HOS.out]; rw [HX.out] at hy; simp at hy ⊢; rcases hy with h | h | h | h <;> simp [h], e⟩
      generalize w2.setCell ⟨r.b, 6, none⟩ (pv p2) = w3 at *
      clear t2 f2 hr2 fz2 cz2 lz2 S1
      go_wp2_with (go_at_call 20; refine S2.mono ?_; rintro e3 w4 ⟨p4, k4, m4, ht4, rfl, t4, f4⟩)
      go_ret
      exact ⟨p4, k4, m4, ht4, rfl, t4, f3.out.trans (f4.mono HXO.out)⟩
end Go.Proofs.Ytohhmcpaajcplaa
