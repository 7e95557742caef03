/- The heap's tree: without. -/
import Derived.Test.YtpoepbmomfohlaaTrd
import Derived.Test.YtpoepbmomfohlaaMba
namespace Go.Proofs.Ytpoepbmomfohlaa
open Go.RowKit
set_option linter.all false
theorem split_same {L R LL RR : List Rw} {x r : Rw} (h : L ++ x :: R = LL ++ r :: RR) (hs : Srt (L ++ x :: R)) (he : x.a = r.a) : L = LL ∧ x = r ∧ R = RR := by
  obtain ⟨-, -, s3, s4, -⟩ := hs.mid
  obtain ⟨R1, h1, h2⟩ := split_right h (fun hm => by have := s3 r hm; omega)
  cases R1 with
  | nil => simp at h1 h2; exact ⟨h1.symm, h2.1, h2.2⟩
  | cons y R1 =>
    simp at h2
    have := s4 r (by rw [h2.2]; simp)
    omega
set_option maxRecDepth 100000 in
set_option maxHeartbeats 1000000 in
theorem without14 {x : Rw} : ∀ {h : Nat} {w : World} {b : Nat} {m ht : Int} {L R : List Rw}, TT w h (some x.a) (some b) m ht (L ++ x :: R) → Srt (L ++ x :: R) → (L ++ x :: R).length ≤ 4000000000 → Calls Try.prog 51 #[.pointer (some ⟨b, 0, none⟩), .int .i64 x.a] w (TPost (InR (L ++ x :: R)) w (L ++ R)) := by
  intro h
  induction h with
  | zero => intro w b m ht L R t; obtain ⟨h1, -⟩ := t; simp at h1
  | succ h ih =>
    intro w b m ht L R t hs len
    obtain ⟨k, r, pl, pr, ml, mr, hl, hr, LL, RR, e0, rfl, hb, tl, tr, e, -, -⟩ := t.out
    obtain rfl : h = k := by omega
    obtain ⟨cb0, -, -, -, -, cb5, cb6, fb, lb⟩ := nd_cells hb
    rcases Int.lt_trichotomy x.a r.a with hlt | heq | hgt
    · obtain ⟨R1, hLL, rfl⟩ := split_right (L := L ++ [x]) (R := R) (by simpa using e) (fun hm => by
        simp at hm
        rcases hm with hm | rfl
        · have := hs.mid.2.2.1 r hm; omega
        · omega)
      simp only [dl, dr, if_pos hlt] at tl tr
      have hLL : LL = L ++ x :: R1 := by simpa using hLL
      subst hLL
      have e2 : L ++ x :: (R1 ++ r :: RR) = (L ++ x :: R1) ++ r :: RR := by simp
      have e3 : L ++ (R1 ++ r :: RR) = (L ++ R1) ++ r :: RR := by simp
      rw [e2] at hs len ⊢
      rw [e3]
      obtain ⟨s1, s2, s3, s4, s5⟩ := hs.mid
      obtain ⟨c, hc⟩ := tl.some_of (by simp)
      subst hc
      have S1 := ih tl s1 (by simp at len ⊢; omega)
      have hin : ∀ y ∈ L ++ R1, y ∈ L ++ x :: R1 := fun y hy => by simp at hy ⊢; rcases hy with h | h <;> simp [h]
      have HN : Hid (∀ y ∈ L ++ x :: R1, y.b ≠ r.b) := fun y hy => tl.ne hb hy (by have := s3 y hy; omega)
      have HO : Hid (∀ z ∈ RR, z.b ≠ r.b ∧ ∀ y ∈ L ++ x :: R1, y.b ≠ z.b) := fun z hz => ⟨tr.ne hb hz (by have := s4 z hz; omega), fun y hy => tl.ne2 tr hy hz (by have := s5 y hy z hz; omega)⟩
      have HS : Hid (Srt ((L ++ R1) ++ r :: RR) ∧ ((L ++ R1) ++ r :: RR).length ≤ 4000000000) := ⟨Srt.mk (by have := s1.mid; exact List.pairwise_append.2 ⟨this.1, this.2.1, this.2.2.2.2⟩) s2 (fun y hy => s3 y (by simp at hy ⊢; rcases hy with h | h <;> simp [h])) s4, by simp at len ⊢; omega⟩
      have HB : Hid (w.heap[r.b]? = some (ndC r m ht (some c) pr)) := hb
      have TO : Hid (TT w h none pr mr hr RR) := tr
      have HI : Hid (∀ y ∈ L ++ R1, y ∈ L ++ x :: R1) := hin
      obtain ⟨xs, hxs⟩ : ∃ xs, xs = (L ++ R1) ++ r :: RR := ⟨_, rfl⟩
      obtain ⟨os, hos⟩ : ∃ os, os = (L ++ x :: R1) ++ r :: RR := ⟨_, rfl⟩
      have HX : Hid (xs = (L ++ R1) ++ r :: RR) := hxs
      have HOS : Hid (os = (L ++ x :: R1) ++ r :: RR) := hos
      rw [← hxs, ← hos]
      rw [← hxs] at HS
      replace cb5 : w.cell? ⟨r.b, 5, none⟩ = some (.pointer (some ⟨c, 0, none⟩)) := cb5
      clear ih s1 s2 s3 s4 s5 hs len e e0 e2 e3 t tl tr hb hin hxs hos
      go_enter Try.func51, Try.ntmps51
      go_upto_region 11 with (first | (go_at_call 51; refine S1.mono ?_; rintro e2 w2 ⟨p2, k2, m2, ht2, rfl, t2, f2⟩; have hr2 := (f2.block r.b (fun ⟨x, hx, he⟩ => HN.out x hx he)).trans HB.out; have fz2 := (nd_cells hr2).2.2.2.2.2.2.2.1; have cz2 := (nd_cells hr2).2.2.2.2.2.1; have lz2 := (nd_cells hr2).2.2.2.2.2.2.2.2))
      have S2 : Calls Try.prog 56 #[.pointer (some ⟨r.b, 0, none⟩)] (w2.setCell ⟨r.b, 5, none⟩ (pv p2)) (TPost (InR xs) (w2.setCell ⟨r.b, 5, none⟩ (pv p2)) xs) := by
        have t3 := t2.frame (w' := w2.setCell ⟨r.b, 5, none⟩ (pv p2)) (fun x hx => Below.heap_setCell _ ⟨r.b, 5, none⟩ _ _ (HN.out x (HI.out x hx)))
        have q2 := TO.out.frame (w' := w2.setCell ⟨r.b, 5, none⟩ (pv p2)) (fun x hx => (Below.heap_setCell _ ⟨r.b, 5, none⟩ _ _ (HO.out x hx).1).trans (f2.block _ (fun ⟨y, hy, e⟩ => (HO.out x hx).2 y hy e)))
        have hS := HS.out
        rw [HX.out] at hS ⊢
        exact level20 (nd_set5 hr2 p2) (t3.up (Nat.le_max_left _ _)) (q2.up (Nat.le_max_right k2 _)) hS.1 hS.2
      have f3 : Hid (FX (InR os) w (w2.setCell ⟨r.b, 5, none⟩ (pv p2))) := (f2.mono (fun b ⟨x, hx, e⟩ => ⟨x, by rw [HOS.out]; exact List.mem_append.2 (.inl hx), e⟩)).setCell (p := ⟨r.b, 5, none⟩) ⟨r, by rw [HOS.out]; simp, rfl⟩ _
      have HXO : Hid (∀ b, InR xs b → InR os b) := fun b ⟨y, hy, e⟩ => ⟨y, by rw [HOS.out]; rw [HX.out] at hy; simp at hy ⊢; rcases hy with h | h | h | h <;> simp [h], e⟩
      generalize w2.setCell ⟨r.b, 5, none⟩ (pv p2) = w3 at *
      clear t2 f2 hr2 fz2 cz2 lz2 S1
      go_wp2_with (go_at_call 56; refine S2.mono ?_; rintro e3 w4 ⟨p4, k4, m4, ht4, rfl, t4, f4⟩)
      go_ret
      exact ⟨p4, k4, m4, ht4, rfl, t4, f3.out.trans (f4.mono HXO.out)⟩
    · obtain ⟨rfl, rfl, rfl⟩ := split_same e hs heq
      simp only [dl, dr, if_neg (Int.lt_irrefl x.a)] at tl tr
      cases pr with
      | none =>
        obtain ⟨-, -, rfl⟩ := tr.of_none
        replace cb6 : w.cell? ⟨x.b, 6, none⟩ = some (.pointer none) := cb6
        have KK : Hid (TPost (InR (L ++ [x])) w (L ++ []) (.returned (pv pl)) w) := ⟨pl, h, ml, hl, rfl, by simpa using tl, FX.refl _ _⟩
        generalize TPost (InR (L ++ [x])) w (L ++ []) = Q at *
        clear ih t hs len hb tl tr e0 e
        go_enter Try.func51, Try.ntmps51
        go_wp2_with fail
        exact KK.out
      | some c =>
        obtain ⟨y, ys, rfl⟩ : ∃ y ys, R = y :: ys := by
          cases R with
          | nil => have := tr.none_iff.2 rfl; simp at this
          | cons y ys => exact ⟨y, ys, rfl⟩
        obtain ⟨s1, s2, s3, s4, s5⟩ := hs.mid
        have F1 := first18 tr
        have S1 := withoutFirst19 tr s4 s2 (by simp at len ⊢; omega)
        obtain ⟨my, hy, py1, py2, hyc⟩ := tr.row y (by simp)
        have HY : Hid (w.heap[y.b]? = some (ndC y my hy py1 py2)) := hyc
        have HN : Hid (∀ z ∈ ys, z.b ≠ y.b ∧ z.b ≠ x.b) := fun z hz => ⟨tr.ne hyc (by simp [hz]) (by have := (List.pairwise_cons.1 s2).1 z hz; omega), tr.ne hb (by simp [hz]) (by have := s4 z (by simp [hz]); omega)⟩
        have HO : Hid (∀ z ∈ L, z.b ≠ y.b ∧ ∀ v ∈ ys, v.b ≠ z.b) := fun z hz => ⟨tl.ne hyc hz (by have := s5 z hz y (by simp); omega), fun v hv => tr.ne2 tl (by simp [hv]) hz (by have := s5 z hz v (by simp [hv]); omega)⟩
        have HS : Hid (Srt (L ++ y :: ys) ∧ (L ++ y :: ys).length ≤ 4000000000) := ⟨Srt.mk s1 (List.pairwise_cons.1 s2).2 (fun z hz => s5 z hz y (by simp)) (List.pairwise_cons.1 s2).1, by simp at len ⊢; omega⟩
        have HB : Hid (w.heap[x.b]? = some (ndC x m ht pl (some c))) := hb
        have hxy : y.b ≠ x.b := tr.ne hb (by simp) (by have := s4 y (by simp); omega)
        have TO : Hid (TT w h none pl ml hl L) := tl
        obtain ⟨xs, hxs⟩ : ∃ xs, xs = L ++ y :: ys := ⟨_, rfl⟩
        obtain ⟨os, hos⟩ : ∃ os, os = L ++ x :: (y :: ys) := ⟨_, rfl⟩
        have HX : Hid (xs = L ++ y :: ys) := hxs
        have HOS : Hid (os = L ++ x :: (y :: ys)) := hos
        rw [← hxs, ← hos]
        rw [← hxs] at HS
        replace cb6 : w.cell? ⟨x.b, 6, none⟩ = some (.pointer (some ⟨c, 0, none⟩)) := cb6
        clear ih s1 s2 s3 s4 s5 hs len e e0 t tl tr hb hyc hxs hos
        go_enter Try.func51, Try.ntmps51
        go_upto_region 2 with (first | (go_at_call 57; refine F1.mono ?_; rintro e2 wx ⟨rfl, hwx⟩; replace hwx := hwx.symm; subst hwx))
        go_upto_region 3 with (first | (go_at_call 58; refine S1.mono ?_; rintro e2 w2 ⟨p2, k2, m2, ht2, rfl, t2, f2⟩))
        have hx2 := (f2.block x.b (fun ⟨z, hz, he⟩ => (HN.out z hz).2 he)).trans HB.out
        have hy2 := (f2.block y.b (fun ⟨z, hz, he⟩ => (HN.out z hz).1 he)).trans HY.out
        obtain ⟨-, -, -, -, -, cz5, cz6, fz, lz⟩ := nd_cells hy2
        obtain ⟨-, -, -, -, -, cx5, -, -, lx⟩ := nd_cells hx2
        go_upto_region 4 with fail
        have S2 : Calls Try.prog 56 #[.pointer (some ⟨y.b, 0, none⟩)] ((w2.setCell ⟨y.b, 5, none⟩ (pv pl)).setCell ⟨y.b, 6, none⟩ (pv p2)) (TPost (InR xs) ((w2.setCell ⟨y.b, 5, none⟩ (pv pl)).setCell ⟨y.b, 6, none⟩ (pv p2)) xs) := by
          have t3 := t2.frame (w' := (w2.setCell ⟨y.b, 5, none⟩ (pv pl)).setCell ⟨y.b, 6, none⟩ (pv p2)) (fun z hz => (Below.heap_setCell _ ⟨y.b, 6, none⟩ _ _ (HN.out z hz).1).trans (Below.heap_setCell _ ⟨y.b, 5, none⟩ _ _ (HN.out z hz).1))
          have q2 := TO.out.frame (w' := (w2.setCell ⟨y.b, 5, none⟩ (pv pl)).setCell ⟨y.b, 6, none⟩ (pv p2)) (fun z hz => ((Below.heap_setCell _ ⟨y.b, 6, none⟩ _ _ (HO.out z hz).1).trans (Below.heap_setCell _ ⟨y.b, 5, none⟩ _ _ (HO.out z hz).1)).trans (f2.block _ (fun ⟨v, hv, e⟩ => (HO.out z hz).2 v hv e)))
          have hS := HS.out
          rw [HX.out] at hS ⊢
          exact level20 (nd_set6 (nd_set5 hy2 pl) p2) (q2.up (Nat.le_max_right k2 _)) (t3.up (Nat.le_max_left _ _)) hS.1 hS.2
        have f3 : Hid (FX (InR os) w ((w2.setCell ⟨y.b, 5, none⟩ (pv pl)).setCell ⟨y.b, 6, none⟩ (pv p2))) := ((f2.mono (fun b ⟨x, hx, e⟩ => ⟨x, by rw [HOS.out]; simp [hx], e⟩)).setCell (p := ⟨y.b, 5, none⟩) ⟨y, by rw [HOS.out]; simp, rfl⟩ _).setCell (p := ⟨y.b, 6, none⟩) ⟨y, by rw [HOS.out]; simp, rfl⟩ _
        have HXO : Hid (∀ b, InR xs b → InR os b) := fun b ⟨z, hz, e⟩ => ⟨z, by rw [HOS.out]; rw [HX.out] at hz; simp at hz ⊢; rcases hz with h | h | h <;> simp [h], e⟩
        generalize (w2.setCell ⟨y.b, 5, none⟩ (pv pl)).setCell ⟨y.b, 6, none⟩ (pv p2) = w3 at *
        clear t2 f2 hx2 hy2 cz5 cz6 fz lz cx5 lx S1 F1
        go_wp2_with (go_at_call 56; refine S2.mono ?_; rintro e3 w4 ⟨p4, k4, m4, ht4, rfl, t4, f4⟩)
        try go_ret
        exact ⟨p4, k4, m4, ht4, rfl, t4, f3.out.trans (f4.mono HXO.out)⟩
    · obtain ⟨L1, rfl, rfl⟩ := split_left (L := L) (R := x :: R) e (fun hm => by
        simp at hm
        rcases hm with rfl | hm
        · omega
        · have := hs.mid.2.2.2.1 r hm; omega)
      have hlt : ¬ x.a < r.a := by omega
      simp only [dl, dr, if_neg hlt] at tl tr
      have e2 : (LL ++ r :: L1) ++ x :: R = LL ++ r :: (L1 ++ x :: R) := by simp
      have e3 : (LL ++ r :: L1) ++ R = LL ++ r :: (L1 ++ R) := by simp
      rw [e2] at hs len ⊢
      rw [e3]
      obtain ⟨s1, s2, s3, s4, s5⟩ := hs.mid
      obtain ⟨c, hc⟩ := tr.some_of (by simp)
      subst hc
      have S1 := ih tr s2 (by simp at len ⊢; omega)
      have hin : ∀ y ∈ L1 ++ R, y ∈ L1 ++ x :: R := fun y hy => by simp at hy ⊢; rcases hy with h | h <;> simp [h]
      have HN : Hid (∀ y ∈ L1 ++ x :: R, y.b ≠ r.b) := fun y hy => tr.ne hb hy (by have := s4 y hy; omega)
      have HO : Hid (∀ z ∈ LL, z.b ≠ r.b ∧ ∀ y ∈ L1 ++ x :: R, y.b ≠ z.b) := fun z hz => ⟨tl.ne hb hz (by have := s3 z hz; omega), fun y hy => tr.ne2 tl hy hz (by have := s5 z hz y hy; omega)⟩
      have HS : Hid (Srt (LL ++ r :: (L1 ++ R)) ∧ (LL ++ r :: (L1 ++ R)).length ≤ 4000000000) := ⟨Srt.mk s1 (by have := s2.mid; exact List.pairwise_append.2 ⟨this.1, this.2.1, this.2.2.2.2⟩) s3 (fun y hy => s4 y (by simp at hy ⊢; rcases hy with h | h <;> simp [h])), by simp at len ⊢; omega⟩
      have HB : Hid (w.heap[r.b]? = some (ndC r m ht pl (some c))) := hb
      have TO : Hid (TT w h none pl ml hl LL) := tl
      have HI : Hid (∀ y ∈ L1 ++ R, y ∈ L1 ++ x :: R) := hin
      obtain ⟨xs, hxs⟩ : ∃ xs, xs = LL ++ r :: (L1 ++ R) := ⟨_, rfl⟩
      obtain ⟨os, hos⟩ : ∃ os, os = LL ++ r :: (L1 ++ x :: R) := ⟨_, rfl⟩
      have HX : Hid (xs = LL ++ r :: (L1 ++ R)) := hxs
      have HOS : Hid (os = LL ++ r :: (L1 ++ x :: R)) := hos
      rw [← hxs, ← hos]
      rw [← hxs] at HS
      replace cb6 : w.cell? ⟨r.b, 6, none⟩ = some (.pointer (some ⟨c, 0, none⟩)) := cb6
      clear ih s1 s2 s3 s4 s5 hs len e e0 e2 e3 t tl tr hb hin hxs hos
      go_enter Try.func51, Try.ntmps51
      go_upto_region 11 with (first | (go_at_call 51; refine S1.mono ?_; rintro e2 w2 ⟨p2, k2, m2, ht2, rfl, t2, f2⟩; have hr2 := (f2.block r.b (fun ⟨x, hx, he⟩ => HN.out x hx he)).trans HB.out; have fz2 := (nd_cells hr2).2.2.2.2.2.2.2.1; have cz2 := (nd_cells hr2).2.2.2.2.2.2.1; have lz2 := (nd_cells hr2).2.2.2.2.2.2.2.2))
      have S2 : Calls Try.prog 56 #[.pointer (some ⟨r.b, 0, none⟩)] (w2.setCell ⟨r.b, 6, none⟩ (pv p2)) (TPost (InR xs) (w2.setCell ⟨r.b, 6, none⟩ (pv p2)) xs) := by
        have t3 := t2.frame (w' := w2.setCell ⟨r.b, 6, none⟩ (pv p2)) (fun x hx => Below.heap_setCell _ ⟨r.b, 6, none⟩ _ _ (HN.out x (HI.out x hx)))
        have q2 := TO.out.frame (w' := w2.setCell ⟨r.b, 6, none⟩ (pv p2)) (fun x hx => (Below.heap_setCell _ ⟨r.b, 6, none⟩ _ _ (HO.out x hx).1).trans (f2.block _ (fun ⟨y, hy, e⟩ => (HO.out x hx).2 y hy e)))
        have hS := HS.out
        rw [HX.out] at hS ⊢
        exact level20 (nd_set6 hr2 p2) (q2.up (Nat.le_max_right k2 _)) (t3.up (Nat.le_max_left _ _)) hS.1 hS.2
      have f3 : Hid (FX (InR os) w (w2.setCell ⟨r.b, 6, none⟩ (pv p2))) := (f2.mono (fun b ⟨x, hx, e⟩ => ⟨x, by rw [HOS.out]; exact List.mem_append.2 (.inr (List.mem_cons_of_mem _ hx)), e⟩)).setCell (p := ⟨r.b, 6, none⟩) ⟨r, by rw [HOS.out]; simp, rfl⟩ _
      have HXO : Hid (∀ b, InR xs b → InR os b) := fun b ⟨y, hy, e⟩ => ⟨y, by rw [HOS.out]; rw [HX.out] at hy; simp at hy ⊢; rcases hy with h | h | h | h <;> simp [h], e⟩
      generalize w2.setCell ⟨r.b, 6, none⟩ (pv p2) = w3 at *
      clear t2 f2 hr2 fz2 cz2 lz2 S1
      go_wp2_with (go_at_call 56; refine S2.mono ?_; rintro e3 w4 ⟨p4, k4, m4, ht4, rfl, t4, f4⟩)
      go_ret
      exact ⟨p4, k4, m4, ht4, rfl, t4, f3.out.trans (f4.mono HXO.out)⟩
end Go.Proofs.Ytpoepbmomfohlaa
namespace Go.Proofs.Ytpoepbmomfohlaa
open Go.RowKit
set_option linter.all false
def lastB (L : List Rw) : Option Nat := L.getLast?.map (·.b)
def headB (L : List Rw) : Option Nat := L.head?.map (·.b)
theorem pv_none : pv none = .pointer none := rfl
theorem pv_some (b : Nat) : pv (some b) = .pointer (some ⟨b, 0, none⟩) := rfl
theorem lastB_snoc (L : List Rw) (r : Rw) : lastB (L ++ [r]) = some r.b := by simp [lastB]
set_option maxRecDepth 100000 in
set_option maxHeartbeats 1000000 in
theorem upTo12 {w : World} {h : Nat} {d : Option Int} {p : Option Nat} {m ht at_ : Int} {L R : List Rw} (t : TT w h d p m ht (L ++ R)) (hL : ∀ x ∈ L, x.a ≤ at_) (hR : ∀ x ∈ R, at_ < x.a) : Calls Try.prog 52 #[pv p, .int .i64 at_] w (Gives w (pv (lastB L))) := by
  have T : Hid (TT w h d p m ht (L ++ R)) := t
  have HL : Hid (∀ x ∈ L, x.a ≤ at_) := hL
  have HR : Hid (∀ x ∈ R, at_ < x.a) := hR
  clear t hL hR
  go_enter Try.func52, Try.ntmps52
  go_wp2_with fail

  go_loopg [0, 5] h (fun gg v0 v3 wr => ∃ p' d' m' ht' L0 L' R', v0 = pv p' ∧ v3 = pv (lastB L0) ∧ Hid (TT wr gg d' p' m' ht' (L' ++ R')) ∧ Hid (L = L0 ++ L') ∧ Hid (∀ x ∈ R', at_ < x.a) ∧ Hid (∃ n, wr = w.drewN n))
  case atStart => exact ⟨p, d, m, ht, [], L, R, rfl, rfl, T.out, rfl, HR.out, ⟨0, rfl⟩⟩
  case round =>
    obtain ⟨p', d', m', ht', L0, L', R', rfl, rfl, T', HE, HR', HW⟩ := hrel
    cases p' with
    | none =>
      have e := T'.out.of_none.2.2
      simp at e
      obtain ⟨rfl, rfl⟩ := e
      have HE2 : Hid (L = L0) := by show L = L0; simpa using HE.out
      rw [pv_none]
      go_wp2_with fail
      go_ret
      exact ⟨by rw [HE2.out]; rfl, HW.out⟩
    | some b =>
      obtain ⟨k, r, pl, pr, ml, mr, hl, hr, LL, RR, hk, rfl, hb, tl, tr, e, -, -⟩ := T'.out.out
      obtain ⟨cb0, -, -, -, -, cb5, cb6, -, lb⟩ := nd_cells hb
      rw [pv_some]
      by_cases hc : at_ < r.a
      · obtain ⟨R1, rfl, rfl⟩ := split_right e (fun hm => by have := HL.out r (by rw [HE.out]; simp [hm]); omega)
        have T2 : Hid (TT wr k (dl d' r.a) pl ml hl (L' ++ R1)) := tl
        clear e hb tl tr T'
        go_wp2_with fail
        go_roundg k
        case measure => omega
        case rel => exact ⟨pl, _, ml, hl, L0, L', R1, rfl, rfl, T2.out, HE.out, fun x hx => HR'.out x (by simp [hx]), HW.out⟩
      · obtain ⟨L1, rfl, rfl⟩ := split_left e (fun hm => by have := HR'.out r hm; omega)
        have T2 : Hid (TT wr k (dr d' r.a) pr mr hr (L1 ++ R')) := tr
        clear e hb tl tr T'
        go_wp2_with fail
        go_quiet (fail)
        go_wp2_with fail
        go_roundg k
        case measure => omega
        case rel =>
          obtain ⟨n0, hn0⟩ := HW.out
          exact ⟨pr, _, mr, hr, L0 ++ LL ++ [r], L1, R', rfl, by rw [lastB_snoc]; rfl, T2.out.drewN _, by show L = _; rw [HE.out]; simp, HR'.out, ⟨n0 + nq, by rw [hn0]; exact World.drewN_drewN _ _ _⟩⟩
end Go.Proofs.Ytpoepbmomfohlaa
namespace Go.Proofs.Ytpoepbmomfohlaa
open Go.RowKit
set_option linter.all false
set_option maxRecDepth 100000 in
set_option maxHeartbeats 1000000 in
theorem find13 {w : World} {h : Nat} {d : Option Int} {p : Option Nat} {m ht : Int} {x : Rw} {L R : List Rw} (t : TT w h d p m ht (L ++ x :: R)) (hs : Srt (L ++ x :: R)) : Calls Try.prog 50 #[pv p, .int .i64 x.a] w (Gives w (.tuple #[.pointer (some ⟨x.b, 0, none⟩), pv (headB R)])) := by
  have T : Hid (TT w h d p m ht (L ++ x :: R)) := t
  have HS : Hid (Srt (L ++ x :: R)) := hs
  clear t hs
  go_enter Try.func50, Try.ntmps50
  go_wp2_with fail
  go_loopg [0, 5] h (fun gg v0 v3 wr => ∃ p' d' m' ht' L' R' R0, v0 = pv p' ∧ v3 = pv (headB R0) ∧ Hid (TT wr gg d' p' m' ht' (L' ++ x :: R')) ∧ Hid (R = R' ++ R0) ∧ Hid (Srt (L' ++ x :: R')) ∧ Hid (∃ n, wr = w.drewN n))
  case atStart => exact ⟨p, d, m, ht, L, R, [], rfl, rfl, T.out, by show R = _; simp, HS.out, ⟨0, rfl⟩⟩
  case round =>
    obtain ⟨p', d', m', ht', L', R', R0, rfl, rfl, T', HE, HS', HW⟩ := hrel
    obtain ⟨b, hb⟩ := T'.out.some_of (by simp)
    subst hb
    obtain ⟨k, r, pl, pr, ml, mr, hl, hr, LL, RR, hk, rfl, hb, tl, tr, e, -, -⟩ := T'.out.out
    obtain ⟨cb0, -, -, -, -, cb5, cb6, -, lb⟩ := nd_cells hb
    rw [pv_some]
    rcases Int.lt_trichotomy x.a r.a with hlt | heq | hgt
    · obtain ⟨R1, hLL, rfl⟩ := split_right (L := L' ++ [x]) (R := R') (by simpa using e) (fun hm => by
        simp at hm
        rcases hm with hm | rfl
        · have := HS'.out.mid.2.2.1 r hm; omega
        · omega)
      have hLL : LL = L' ++ x :: R1 := by simpa using hLL
      subst hLL
      have T2 : Hid (TT wr k (dl d' r.a) pl ml hl (L' ++ x :: R1)) := tl
      have S2 : Hid (Srt (L' ++ x :: R1)) := by
        have h1 := HS'.out
        rw [e] at h1
        exact h1.mid.1
      clear e hb tl tr T'
      go_wp2_with fail
      go_quiet (fail)
      go_wp2_with fail
      go_roundg k
      case measure => omega
      case rel =>
        obtain ⟨n0, hn0⟩ := HW.out
        exact ⟨pl, _, ml, hl, L', R1, r :: (RR ++ R0), rfl, rfl, T2.out.drewN _, by show R = _; rw [HE.out]; simp, S2.out, ⟨n0 + nq, by rw [hn0]; exact World.drewN_drewN _ _ _⟩⟩
    · obtain ⟨rfl, rfl, rfl⟩ := split_same e HS'.out heq
      cases pr with
      | none =>
        obtain ⟨-, -, rfl⟩ := tr.of_none
        replace cb6 : wr.cell? ⟨x.b, 6, none⟩ = some (.pointer none) := cb6
        have HE2 : Hid (R = R0) := by show R = R0; simpa using HE.out
        clear e hb tl tr T'
        go_wp2_with fail
        try go_ret2
        exact ⟨by rw [HE2.out]; rfl, HW.out⟩
      | some c =>
        obtain ⟨y, ys, rfl⟩ : ∃ y ys, R' = y :: ys := by
          cases R' with
          | nil => have := tr.none_iff.2 rfl; simp at this
          | cons y ys => exact ⟨y, ys, rfl⟩
        replace cb6 : wr.cell? ⟨x.b, 6, none⟩ = some (.pointer (some ⟨c, 0, none⟩)) := cb6
        have HE2 : Hid (headB R = some y.b) := by show headB R = _; rw [HE.out]; rfl
        have F1 := first18 tr
        clear e hb tl tr T'
        go_wp2_with (go_at_call 57; refine F1.mono ?_; rintro e2 wx ⟨rfl, hwx⟩; replace hwx := hwx.symm; subst hwx)
        try go_ret2
        exact ⟨by rw [HE2.out]; rfl, HW.out⟩
    · obtain ⟨L1, rfl, rfl⟩ := split_left (L := L') (R := x :: R') e (fun hm => by
        simp at hm
        rcases hm with rfl | hm
        · omega
        · have := HS'.out.mid.2.2.2.1 r hm; omega)
      have T2 : Hid (TT wr k (dr d' r.a) pr mr hr (L1 ++ x :: R')) := tr
      have S2 : Hid (Srt (L1 ++ x :: R')) := by
        have h1 := HS'.out
        rw [e] at h1
        exact h1.mid.2.1
      clear e hb tl tr T'
      go_wp2_with fail
      go_roundg k
      case measure => omega
      case rel => exact ⟨pr, _, mr, hr, L1, R', R0, rfl, rfl, T2.out, HE.out, S2.out, HW.out⟩
set_option maxRecDepth 100000 in
set_option maxHeartbeats 1000000 in
theorem find13n {w : World} {h : Nat} {d : Option Int} {p : Option Nat} {m ht at_ : Int} {xs : List Rw} (t : TT w h d p m ht xs) (hs : ∀ x ∈ xs, x.a ≠ at_) : Calls Try.prog 50 #[pv p, .int .i64 at_] w (Gives w (.tuple #[.pointer none, .pointer none])) := by
  have T : Hid (TT w h d p m ht xs) := t
  have HS : Hid (∀ x ∈ xs, x.a ≠ at_) := hs
  clear t hs
  go_enter Try.func50, Try.ntmps50
  go_wp2_with fail
  go_loopg [0, 5] h (fun gg v0 v3 wr => ∃ p' d' m' ht' ys q, v0 = pv p' ∧ v3 = pv q ∧ Hid (TT wr gg d' p' m' ht' ys) ∧ Hid (∀ x ∈ ys, x.a ≠ at_) ∧ Hid (∃ n, wr = w.drewN n))
  case atStart => exact ⟨p, d, m, ht, xs, none, rfl, rfl, T.out, HS.out, ⟨0, rfl⟩⟩
  case round =>
    obtain ⟨p', d', m', ht', ys, q, rfl, rfl, T', HS', HW⟩ := hrel
    cases p' with
    | none =>
      rw [pv_none]
      clear T'
      go_wp2_with fail
      try go_ret2
      exact ⟨rfl, HW.out⟩
    | some b =>
      obtain ⟨k, r, pl, pr, ml, mr, hl, hr, LL, RR, hk, rfl, hb, tl, tr, rfl, -, -⟩ := T'.out.out
      obtain ⟨cb0, -, -, -, -, cb5, cb6, -, lb⟩ := nd_cells hb
      rw [pv_some]
      have hne := HS'.out r (by simp)
      by_cases hlt : at_ < r.a
      · have T2 : Hid (TT wr k (dl d' r.a) pl ml hl LL) := tl
        clear hb tl tr T'
        go_wp2_with fail
        go_quiet (fail)
        go_wp2_with fail
        go_roundg k
        case measure => omega
        case rel =>
          obtain ⟨n0, hn0⟩ := HW.out
          exact ⟨pl, _, ml, hl, LL, some r.b, rfl, rfl, T2.out.drewN _, fun x hx => HS'.out x (by simp [hx]), ⟨n0 + nq, by rw [hn0]; exact World.drewN_drewN _ _ _⟩⟩
      · have hgt : r.a < at_ := by omega
        have T2 : Hid (TT wr k (dr d' r.a) pr mr hr RR) := tr
        clear hb tl tr T' hne
        go_wp2_with fail
        go_roundg k
        case measure => omega
        case rel => exact ⟨pr, _, mr, hr, RR, q, rfl, rfl, T2.out, fun x hx => HS'.out x (by simp [hx]), HW.out⟩
set_option maxRecDepth 100000 in
set_option maxHeartbeats 1000000 in
theorem behindGap16 {w : World} {h : Nat} {b : Nat} {m ht n : Int} {xs : List Rw} (t : TT w h none (some b) m ht xs) (hg : ∀ r ∈ xs, 0 ≤ r.g) (hn : 1 ≤ n) (hm : n ≤ m) : Calls Try.prog 48 #[.pointer (some ⟨b, 0, none⟩), .int .i64 n] w (fun e w' => ∃ L x R, xs = L ++ x :: R ∧ (∀ y ∈ L, y.g < n) ∧ n ≤ x.g ∧ e = .returned (.pointer (some ⟨x.b, 0, none⟩)) ∧ ∃ k, w' = w.drewN k) := by
  have T : Hid (TT w h none (some b) m ht xs) := t
  have HG : Hid (∀ r ∈ xs, 0 ≤ r.g) := hg
  clear t hg
  go_enter Try.func48, Try.ntmps48
  go_wp2_with fail
  go_loopg [0] h (fun gg v0 wr => ∃ b' m' ht' L0 ys R0, v0 = .pointer (some ⟨b', 0, none⟩) ∧ Hid (TT w gg none (some b') m' ht' ys) ∧ Hid (xs = L0 ++ ys ++ R0) ∧ Hid (∀ y ∈ L0, y.g < n) ∧ n ≤ m' ∧ wr = w)
  case atStart => exact ⟨b, m, ht, [], xs, [], rfl, T.out, by show xs = _; simp, fun y hy => by simp at hy, hm, rfl⟩
  case round =>
    obtain ⟨b', m', ht', L0, ys, R0, rfl, T', HE, HL, hm', rfl⟩ := hrel
    obtain ⟨k, r, pl, pr, ml, mr, hl, hr, LL, RR, hk, rfl, hb, tl, tr, rfl, -, hmx⟩ := T'.out.out
    have hmx := hmx rfl
    have tl : TT wr k none pl ml hl LL := tl
    have tr : TT wr k none pr mr hr RR := tr
    obtain ⟨-, -, cb2, -, -, cb5, cb6, -, lb⟩ := nd_cells hb
    have W1 := widest15 tl
    have hml := tl.most (fun y hy => HG.out y (by rw [HE.out]; simp [hy]))
    by_cases h1 : n ≤ ml
    · obtain ⟨c, rfl⟩ : ∃ c, pl = some c := by
        cases pl with
        | none => have := tl.of_none; omega
        | some c => exact ⟨c, rfl⟩
      replace cb5 : wr.cell? ⟨r.b, 5, none⟩ = some (.pointer (some ⟨c, 0, none⟩)) := cb5
      have T2 : Hid (TT wr k none (some c) ml hl LL) := tl
      clear hb tl tr T' hmx hml
      go_wp2_with (go_at_call 47; refine W1.mono ?_; rintro e2 wx ⟨rfl, hwx⟩; replace hwx := hwx.symm; subst hwx)
      go_roundg k
      case measure => omega
      case rel => exact ⟨c, ml, hl, L0, LL, r :: (RR ++ R0), rfl, T2.out, by show xs = _; rw [HE.out]; simp, HL.out, h1, rfl⟩
    · by_cases h2 : n ≤ r.g
      · have KK : Hid (∃ L x R, xs = L ++ x :: R ∧ (∀ y ∈ L, y.g < n) ∧ n ≤ x.g ∧ Ending.returned (.pointer (some ⟨r.b, 0, none⟩)) = .returned (.pointer (some ⟨x.b, 0, none⟩)) ∧ ∃ k, wr = wr.drewN k) := ⟨L0 ++ LL, r, RR ++ R0, by rw [HE.out]; simp, fun y hy => by
          rcases List.mem_append.1 hy with hy | hy
          · exact HL.out y hy
          · have := hml.2.1 y hy; omega, h2, rfl, 0, rfl⟩
        clear hb tl tr T' hmx hml
        go_wp2_with (go_at_call 47; refine W1.mono ?_; rintro e2 wx ⟨rfl, hwx⟩; replace hwx := hwx.symm; subst hwx)
        try go_ret
        exact KK.out
      · have h3 : n ≤ mr := by omega
        obtain ⟨c, rfl⟩ : ∃ c, pr = some c := by
          cases pr with
          | none => have := tr.of_none; omega
          | some c => exact ⟨c, rfl⟩
        replace cb6 : wr.cell? ⟨r.b, 6, none⟩ = some (.pointer (some ⟨c, 0, none⟩)) := cb6
        have T2 : Hid (TT wr k none (some c) mr hr RR) := tr
        have HL2 : Hid (∀ y ∈ L0 ++ LL ++ [r], y.g < n) := fun y hy => by
          simp at hy
          rcases hy with hy | hy | rfl
          · exact HL.out y hy
          · have := hml.2.1 y hy; omega
          · omega
        clear hb tl tr T' hmx hml
        go_wp2_with (go_at_call 47; refine W1.mono ?_; rintro e2 wx ⟨rfl, hwx⟩; replace hwx := hwx.symm; subst hwx)
        go_roundg k
        case measure => omega
        case rel => exact ⟨c, mr, hr, L0 ++ LL ++ [r], RR, R0, rfl, T2.out, by show xs = _; rw [HE.out]; simp, HL2.out, h3, rfl⟩
end Go.Proofs.Ytpoepbmomfohlaa
namespace Go.Proofs.Ytpoepbmomfohlaa
open Go.RowKit
set_option linter.all false
def bsOf : List Rw → List (Int × Int)
  | [] => []
  | [_] => []
  | x :: y :: r => (x.a + 1, x.s) :: bsOf (y :: r)
/-- One behind the other from s on, up to the end. -/
def CH (N : Int) : Int → List Rw → Prop
  | _, [] => False
  | s, [x] => x.a = s + x.g ∧ 0 ≤ x.g ∧ x.s = 0 ∧ x.a = N
  | s, x :: y :: r => x.a = s + x.g ∧ 0 ≤ x.g ∧ 1 ≤ x.s ∧ CH N (x.a + x.s) (y :: r)
theorem bsOf_len : ∀ {xs : List Rw}, xs ≠ [] → (bsOf xs).length + 1 = xs.length
  | [], h => absurd rfl h
  | [_], _ => rfl
  | x :: y :: r, _ => by
    have := bsOf_len (xs := y :: r) (by simp)
    simp only [bsOf, List.length_cons] at this ⊢
    omega
theorem CH.ne {N s : Int} : ∀ {xs : List Rw}, CH N s xs → xs ≠ []
  | [], h => absurd h (by simp [CH])
  | _ :: _, _ => by simp
theorem CH.hok {N : Int} : ∀ {xs : List Rw} {s : Int}, CH N s xs → HOK N (s + 1) (bsOf xs)
  | [], _, h => absurd h (by simp [CH])
  | [x], s, ⟨h1, h2, h3, h4⟩ => by show s + 1 ≤ N + 1; omega
  | x :: y :: r, s, ⟨h1, h2, h3, h4⟩ => by
    have := CH.hok h4
    refine ⟨by omega, h3, ?_⟩
    rw [show x.a + 1 + x.s = x.a + x.s + 1 by omega]
    exact this
theorem CH.all {N : Int} : ∀ {xs : List Rw} {s : Int}, CH N s xs → Srt xs ∧ s ≤ N ∧ ∀ x ∈ xs, s ≤ x.a - x.g ∧ 0 ≤ x.g ∧ x.a ≤ N ∧ 0 ≤ x.s ∧ x.a + x.s ≤ N
  | [], _, h => absurd h (by simp [CH])
  | [x], s, ⟨h1, h2, h3, h4⟩ => by
    refine ⟨List.pairwise_singleton _ _, by omega, fun z hz => ?_⟩
    simp at hz
    subst hz
    omega
  | x :: y :: r, s, ⟨h1, h2, h3, h4⟩ => by
    obtain ⟨i1, i2, i3⟩ := CH.all h4
    refine ⟨List.pairwise_cons.2 ⟨fun z hz => by have := i3 z hz; omega, i1⟩, by omega, fun z hz => ?_⟩
    rcases List.mem_cons.1 hz with rfl | hz
    · omega
    · have := i3 z hz; omega
/-- Where a block goes. -/
theorem CH.fit {N n : Int} {x : Rw} {R : List Rw} : ∀ {L : List Rw} {s : Int}, CH N s (L ++ x :: R) → (∀ y ∈ L, y.g < n) → n ≤ x.g → hfit n (s + 1) (bsOf (L ++ x :: R)) = (L.length, x.a - x.g + 1)
  | [], s, h, _, hx => by
    cases R with
    | nil =>
      obtain ⟨h1, -⟩ := h
      show (0, s + 1) = (0, x.a - x.g + 1)
      rw [show x.a - x.g + 1 = s + 1 by omega]
    | cons z R =>
      obtain ⟨h1, -⟩ := h
      show hfit n (s + 1) ((x.a + 1, x.s) :: _) = _
      unfold hfit
      rw [if_neg (by omega), show x.a - x.g + 1 = s + 1 by omega]
      rfl
  | y :: L, s, h, hL, hx => by
    have hy := hL y (by simp)
    have key : ∀ z zs, L ++ x :: R = z :: zs → hfit n (s + 1) (bsOf (y :: (L ++ x :: R))) = ((y :: L).length, x.a - x.g + 1) := fun z zs e => by
      have h' : CH N s (y :: (L ++ x :: R)) := h
      rw [e] at h'
      obtain ⟨h1, h2, h3, h4⟩ := h'
      rw [← e] at h4
      have ih := CH.fit h4 (fun v hv => hL v (by simp [hv])) hx
      have e2 : bsOf (y :: (L ++ x :: R)) = (y.a + 1, y.s) :: bsOf (L ++ x :: R) := by rw [e]; rfl
      rw [e2]
      unfold hfit
      rw [if_pos (by omega), show y.a + 1 + y.s = y.a + y.s + 1 by omega, ih]
      rfl
    cases hL : L ++ x :: R with
    | nil => simp at hL
    | cons z zs =>
      have := key z zs hL
      rw [hL] at this
      show hfit n (s + 1) (bsOf (y :: (L ++ x :: R))) = _
      rw [hL]
      exact this
theorem CH.nofit {N n : Int} : ∀ {xs : List Rw} {s : Int}, CH N s xs → (∀ x ∈ xs, x.g < n) → N - n + 1 < (hfit n (s + 1) (bsOf xs)).2
  | [], _, h, _ => absurd h (by simp [CH])
  | [x], s, ⟨h1, h2, h3, h4⟩, hx => by
    have := hx x (by simp)
    show N - n + 1 < s + 1
    omega
  | x :: y :: r, s, ⟨h1, h2, h3, h4⟩, hx => by
    have h5 := hx x (by simp)
    have ih := CH.nofit h4 (fun z hz => hx z (by simp at hz ⊢; rcases hz with h | h <;> simp [h]))
    show N - n + 1 < (hfit n (s + 1) ((x.a + 1, x.s) :: bsOf (y :: r))).2
    unfold hfit
    rw [if_pos (by omega), show x.a + 1 + x.s = x.a + x.s + 1 by omega]
    exact ih
theorem bsOf_cons {y : Rw} {xs : List Rw} (h : xs ≠ []) : bsOf (y :: xs) = (y.a + 1, y.s) :: bsOf xs := by
  cases xs with
  | nil => exact absurd rfl h
  | cons z zs => rfl
theorem CH_cons {N s : Int} {y : Rw} {xs : List Rw} (h : xs ≠ []) : CH N s (y :: xs) ↔ (y.a = s + y.g ∧ 0 ≤ y.g ∧ 1 ≤ y.s ∧ CH N (y.a + y.s) xs) := by
  cases xs with
  | nil => exact absurd rfl h
  | cons z zs => exact Iff.rfl
/-- A block more. -/
theorem CH.put {N n : Int} {x : Rw} {R : List Rw} (nb : Nat) (hn : 1 ≤ n) (hx : n ≤ x.g) : ∀ {L : List Rw} {s : Int}, CH N s (L ++ x :: R) → CH N s (L ++ ⟨nb, x.a - x.g, n, 0⟩ :: { x with g := x.g - n } :: R) ∧ bsOf (L ++ ⟨nb, x.a - x.g, n, 0⟩ :: { x with g := x.g - n } :: R) = (bsOf (L ++ x :: R)).take L.length ++ (x.a - x.g + 1, n) :: (bsOf (L ++ x :: R)).drop L.length
  | [], s, h => by
    cases R with
    | nil =>
      obtain ⟨h1, h2, h3, h4⟩ := h
      refine ⟨⟨?_, Int.le_refl _, hn, ?_, ?_, h3, h4⟩, rfl⟩
      · show x.a - x.g = s + 0; omega
      · show x.a = x.a - x.g + n + (x.g - n); omega
      · show 0 ≤ x.g - n; omega
    | cons z R =>
      obtain ⟨h1, h2, h3, h4⟩ := h
      refine ⟨⟨?_, Int.le_refl _, hn, ?_, ?_, h3, h4⟩, rfl⟩
      · show x.a - x.g = s + 0; omega
      · show x.a = x.a - x.g + n + (x.g - n); omega
      · show 0 ≤ x.g - n; omega
  | y :: L, s, h => by
    have h' := (CH_cons (by simp)).1 (show CH N s (y :: (L ++ x :: R)) from h)
    obtain ⟨i1, i2⟩ := CH.put nb hn hx h'.2.2.2
    refine ⟨(CH_cons (by simp)).2 ⟨h'.1, h'.2.1, h'.2.2.1, i1⟩, ?_⟩
    rw [List.cons_append, List.cons_append, bsOf_cons (by simp), bsOf_cons (by simp), i2]
    rfl
/-- A block less. -/
theorem CH.del {N : Int} {x y : Rw} {R : List Rw} : ∀ {L : List Rw} {s : Int}, CH N s (L ++ x :: y :: R) → CH N s (L ++ { y with g := y.g + (x.g + x.s) } :: R) ∧ bsOf (L ++ { y with g := y.g + (x.g + x.s) } :: R) = (bsOf (L ++ x :: y :: R)).take L.length ++ (bsOf (L ++ x :: y :: R)).drop (L.length + 1) ∧ (bsOf (L ++ x :: y :: R))[L.length]? = some (x.a + 1, x.s)
  | [], s, h => by
    obtain ⟨h1, h2, h3, h4⟩ := h
    cases R with
    | nil =>
      obtain ⟨k1, k2, k3, k4⟩ := h4
      refine ⟨⟨?_, ?_, k3, k4⟩, rfl, rfl⟩
      · show y.a = s + (y.g + (x.g + x.s)); omega
      · show 0 ≤ y.g + (x.g + x.s); omega
    | cons z R =>
      obtain ⟨k1, k2, k3, k4⟩ := h4
      refine ⟨⟨?_, ?_, k3, k4⟩, rfl, rfl⟩
      · show y.a = s + (y.g + (x.g + x.s)); omega
      · show 0 ≤ y.g + (x.g + x.s); omega
  | v :: L, s, h => by
    have h' := (CH_cons (by simp)).1 (show CH N s (v :: (L ++ x :: y :: R)) from h)
    obtain ⟨i1, i2, i3⟩ := CH.del h'.2.2.2
    refine ⟨(CH_cons (by simp)).2 ⟨h'.1, h'.2.1, h'.2.2.1, i1⟩, ?_, ?_⟩
    · rw [List.cons_append, List.cons_append, bsOf_cons (by simp), bsOf_cons (by simp), i2]
      rfl
    · show (bsOf (v :: (L ++ x :: y :: R)))[(v :: L).length]? = _
      rw [bsOf_cons (by simp)]
      simpa using i3
/-- Another gap ahead of a block that is on the way to a. -/
theorem TT.poke {a g : Int} {x : Rw} (hx : a < x.a) : ∀ {h : Nat} {w : World} {p : Option Nat} {m ht : Int} {L R : List Rw}, TT w h none p m ht (L ++ x :: R) → Srt (L ++ x :: R) → (∀ y ∈ L, y.a ≤ a) → TT (w.setCell ⟨x.b, 2, none⟩ (.int .i64 g)) h (some a) p m ht (L ++ { x with g := g } :: R) := by
  intro h
  induction h with
  | zero => intro w p m ht L R t; obtain ⟨-, -, -, h1⟩ := t; simp at h1
  | succ h ih =>
    intro w p m ht L R t hs hL
    obtain ⟨b, rfl⟩ := t.some_of (by simp)
    obtain ⟨k, r, pl, pr, ml, mr, hl, hr, LL, RR, e0, rfl, hb, tl, tr, e, eh, -⟩ := t.out
    obtain rfl : h = k := by omega
    have tl : TT w h none pl ml hl LL := tl
    have tr : TT w h none pr mr hr RR := tr
    obtain ⟨mx, hx', px, qx, hxc⟩ := t.row x (by simp)
    have fr : ∀ {h' : Nat} {p' : Option Nat} {m' ht' : Int} {zs : List Rw}, TT w h' none p' m' ht' zs → (∀ z ∈ zs, z.a ≠ x.a) → TT (w.setCell ⟨x.b, 2, none⟩ (.int .i64 g)) h' none p' m' ht' zs := fun t' hz => t'.frame (fun z hz' => Below.heap_setCell _ ⟨x.b, 2, none⟩ _ _ (t'.ne hxc hz' (hz z hz')))
    have hs2 := hs
    rw [e] at hs2
    obtain ⟨s1, s2, s3, s4, s5⟩ := hs2.mid
    rcases Int.lt_trichotomy x.a r.a with hlt | heq | hgt
    · obtain ⟨R1, hLL, rfl⟩ := split_right (L := L ++ [x]) (R := R) (by simpa using e) (fun hm => by
        simp at hm
        rcases hm with hm | rfl
        · have := hs.mid.2.2.1 r hm; omega
        · omega)
      have hLL : LL = L ++ x :: R1 := by simpa using hLL
      subst hLL
      have t1 := ih tl s1 hL
      have t2 := fr tr (fun z hz => by have := s4 z hz; omega)
      have hb2 := (Below.heap_setCell w ⟨x.b, 2, none⟩ (.int .i64 g) r.b (Ne.symm (tl.ne hb (by simp) (by omega)))).trans hb
      refine .inr ⟨r, pl, pr, ml, mr, hl, hr, L ++ { x with g := g } :: R1, RR, rfl, hb2, ?_, ?_, by simp, eh, fun hh => by simp at hh⟩
      · simp only [dl, if_pos (show a < r.a by omega)]; exact t1
      · simp only [dr, if_pos (show a < r.a by omega)]; exact t2
    · obtain ⟨rfl, rfl, rfl⟩ := split_same e hs heq
      have t1 := fr tl (fun z hz => by have := s3 z hz; omega)
      have t2 := fr tr (fun z hz => by have := s4 z hz; omega)
      have hb2 := nd_set2 hb g
      refine .inr ⟨{ x with g := g }, pl, pr, ml, mr, hl, hr, L, R, rfl, hb2, t1.weak _, t2.weak _, rfl, eh, fun hh => by simp at hh⟩
    · obtain ⟨L1, rfl, rfl⟩ := split_left (L := L) (R := x :: R) e (fun hm => by
        simp at hm
        rcases hm with rfl | hm
        · omega
        · have := hs.mid.2.2.2.1 r hm; omega)
      have hra := hL r (by simp)
      have t1 := fr tl (fun z hz => by have := s3 z hz; omega)
      have t2 := ih tr s2 (fun z hz => hL z (by simp [hz]))
      have hb2 := (Below.heap_setCell w ⟨x.b, 2, none⟩ (.int .i64 g) r.b (Ne.symm (tr.ne hb (by simp) (by omega)))).trans hb
      refine .inr ⟨r, pl, pr, ml, mr, hl, hr, LL, L1 ++ { x with g := g } :: R, rfl, hb2, ?_, ?_, by simp, eh, fun hh => by simp at hh⟩
      · simp only [dl, if_neg (show ¬ a < r.a by omega)]; exact t1
      · simp only [dr, if_neg (show ¬ a < r.a by omega)]; exact t2
end Go.Proofs.Ytpoepbmomfohlaa
