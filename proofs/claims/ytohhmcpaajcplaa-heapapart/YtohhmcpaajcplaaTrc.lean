/- The heap's tree: turns. -/
import Derived.Test.YtohhmcpaajcplaaTrb
namespace Go.Proofs.Ytohhmcpaajcplaa
open Go.RowKit
set_option linter.all false
/-- A top over two trees. -/
theorem TT.top {w : World} {r : Rw} {ml mr hl hr : Int} {pl pr : Option Nat} {h : Nat} {L R : List Rw} (hc : w.heap[r.b]? = some (ndC r (max r.g (max ml mr)) (1 + max hl hr) pl pr)) (tl : TT w h none pl ml hl L) (tr : TT w h none pr mr hr R) : TT w (h + 1) none (some r.b) (max r.g (max ml mr)) (1 + max hl hr) (L ++ r :: R) :=
  .inr ⟨r, pl, pr, ml, mr, hl, hr, L, R, rfl, hc, tl, tr, rfl, rfl, fun _ => rfl⟩
/-- What a call leaves that turns a tree: all is known in it. -/
def TPost (X : Nat → Prop) (w : World) (xs : List Rw) (e : Ending) (w' : World) : Prop := ∃ p h m ht, e = .returned (pv p) ∧ TT w' h none p m ht xs ∧ FX X w w'
set_option maxRecDepth 100000 in
set_option maxHeartbeats 1000000 in
theorem turnLeft23 {w : World} {rb rc : Rw} {m1 h1 m2 h2 : Int} {pl pm pr : Option Nat} (hb : w.heap[rb.b]? = some (ndC rb m1 h1 pl (some rc.b))) (hc : w.heap[rc.b]? = some (ndC rc m2 h2 pm pr)) {h : Nat} {ml mm mr hl hm hr : Int} {L M R : List Rw} (tl : TT w h none pl ml hl L) (tm : TT w h none pm mm hm M) (tr : TT w h none pr mr hr R) (hs : Srt (L ++ rb :: (M ++ rc :: R))) (len : (L ++ rb :: (M ++ rc :: R)).length ≤ 4000000000) : Calls Try.prog 23 #[.pointer (some ⟨rb.b, 0, none⟩)] w (TPost (fun b => b = rb.b ∨ b = rc.b) w (L ++ rb :: (M ++ rc :: R))) := by
  obtain ⟨s1, s2, s3, s4, s5⟩ := hs.mid
  obtain ⟨s6, s7, s8, s9, s10⟩ := s2.mid
  have hbc : rb.b ≠ rc.b := node_ne hb hc (by have := s4 rc (by simp); omega)
  have nL : ∀ x ∈ L, x.b ≠ rb.b ∧ x.b ≠ rc.b := fun x hx => ⟨tl.ne hb hx (by have := s3 x hx; omega), tl.ne hc hx (by have := s5 x hx rc (by simp); omega)⟩
  have nM : ∀ x ∈ M, x.b ≠ rb.b ∧ x.b ≠ rc.b := fun x hx => ⟨tm.ne hb hx (by have := s4 x (by simp [hx]); omega), tm.ne hc hx (by have := s8 x hx; omega)⟩
  have nR : ∀ x ∈ R, x.b ≠ rb.b ∧ x.b ≠ rc.b := fun x hx => ⟨tr.ne hb hx (by have := s4 x (by simp [hx]); omega), tr.ne hc hx (by have := s9 x hx; omega)⟩
  simp at len
  have TL : Hid (∀ W, FX (fun b => b = rb.b ∨ b = rc.b) w W → TT W h none pl ml hl L) := fun W k => tl.frame (fun x hx => k.block _ (by have := nL x hx; omega))
  have TM : Hid (∀ W, FX (fun b => b = rb.b ∨ b = rc.b) w W → TT W h none pm mm hm M) := fun W k => tm.frame (fun x hx => k.block _ (by have := nM x hx; omega))
  have TR : Hid (∀ W, FX (fun b => b = rb.b ∨ b = rc.b) w W → TT W h none pr mr hr R) := fun W k => tr.frame (fun x hx => k.block _ (by have := nR x hx; omega))
  have HB : Hid (w.heap[rb.b]? = some (ndC rb m1 h1 pl (some rc.b))) := hb
  have HC : Hid (w.heap[rc.b]? = some (ndC rc m2 h2 pm pr)) := hc
  have NL : Hid (∀ x ∈ L, x.b ≠ rb.b ∧ x.b ≠ rc.b) := nL
  have NM : Hid (∀ x ∈ M, x.b ≠ rb.b ∧ x.b ≠ rc.b) := nM
  have NR : Hid (∀ x ∈ R, x.b ≠ rb.b ∧ x.b ≠ rc.b) := nR
  have HS : Hid (L.length ≤ 4000000000 ∧ M.length ≤ 4000000000 ∧ R.length ≤ 4000000000 ∧ (L ++ rb :: M).length ≤ 4000000000) := ⟨by omega, by omega, by omega, by simp; omega⟩
  obtain ⟨-, -, -, -, -, cb5, cb6, fb, lb⟩ := nd_cells hb
  obtain ⟨-, -, -, -, -, cc5, cc6, fc, lc⟩ := nd_cells hc
  replace cb6 : w.cell? ⟨rb.b, 6, none⟩ = some (.pointer (some ⟨rc.b, 0, none⟩)) := cb6
  clear hb hc s1 s2 s3 s4 s5 s6 s7 s8 s9 s10 nL nM nR tl tm tr hs len
  go_enter Try.func23, Try.ntmps23
  go_upto_region 3 with fail
  have H2 : Hid (((w.setCell ⟨rb.b, 6, none⟩ (pv pm)).setCell ⟨rc.b, 5, none⟩ (.pointer (some ⟨rb.b, 0, none⟩))).heap[rb.b]? = some (ndC rb m1 h1 pl pm) ∧ ((w.setCell ⟨rb.b, 6, none⟩ (pv pm)).setCell ⟨rc.b, 5, none⟩ (.pointer (some ⟨rb.b, 0, none⟩))).heap[rc.b]? = some (ndC rc m2 h2 (some rb.b) pr) ∧ FX (fun b => b = rb.b ∨ b = rc.b) w ((w.setCell ⟨rb.b, 6, none⟩ (pv pm)).setCell ⟨rc.b, 5, none⟩ (.pointer (some ⟨rb.b, 0, none⟩)))) := by
    refine ⟨(Below.heap_setCell _ ⟨rc.b, 5, none⟩ _ _ hbc).trans (nd_set6 HB.out pm), nd_set5 (p := some rb.b) ((Below.heap_setCell _ ⟨rb.b, 6, none⟩ _ _ (Ne.symm hbc)).trans HC.out), ?_⟩
    exact ((FX.refl (fun b => b = rb.b ∨ b = rc.b) w).setCell (p := ⟨rb.b, 6, none⟩) (.inl rfl) _).setCell (p := ⟨rc.b, 5, none⟩) (.inr rfl) _
  generalize (w.setCell ⟨rb.b, 6, none⟩ (pv pm)).setCell ⟨rc.b, 5, none⟩ (.pointer (some ⟨rb.b, 0, none⟩)) = wv at *
  clear cb5 cb6 fb lb cc5 cc6 fc lc
  have S1 := settle21 H2.out.1 (TL.out _ H2.out.2.2) (TM.out _ H2.out.2.2) (fun x hx => (NL.out x hx).1) (fun x hx => (NM.out x hx).1) HS.out.1 HS.out.2.1
  go_upto_region 4 with (go_at_call 21; refine S1.mono ?_; rintro e w2 ⟨rfl, hb2, f2⟩)
  have f3 : FX (fun b => b = rb.b ∨ b = rc.b) w w2 := H2.out.2.2.trans (f2.mono (fun k e => .inl e))
  have hc2 := (f2.block rc.b (Ne.symm hbc)).trans H2.out.2.1
  have T1 := TT.top hb2 (TL.out _ f3) (TM.out _ f3)
  have S2 := settle21 hc2 T1 (TR.out _ f3) (fun x hx => by
    simp at hx
    rcases hx with hx | rfl | hx
    · exact (NL.out x hx).2
    · exact hbc
    · exact (NM.out x hx).2) (fun x hx => (NR.out x hx).2) HS.out.2.2.2 HS.out.2.2.1
  have K : Hid (TT w2 (h + 1) none (some rb.b) (max rb.g (max ml mm)) (1 + max hl hm) (L ++ rb :: M) ∧ FX (fun b => b = rb.b ∨ b = rc.b) w w2) := ⟨T1, f3⟩
  clear S1 H2 hb2 f2 f3 hc2 T1
  go_upto_region 5 with (go_at_call 21; refine S2.mono ?_; rintro e w3 ⟨rfl, hc3, f3⟩)
  clear S2
  have f4 : FX (fun b => b = rb.b ∨ b = rc.b) w w3 := K.out.2.trans (f3.mono (fun k e => .inr e))
  have T2 := K.out.1.frame (w' := w3) (fun x hx => f3.block _ (by
    simp at hx
    rcases hx with hx | rfl | hx
    · exact (NL.out x hx).2
    · exact hbc
    · exact (NM.out x hx).2))
  have T3 := TT.top hc3 T2 ((TR.out _ f4).up (Nat.le_succ h))
  have KK : Hid (∀ e, e = .returned (pv (some rc.b)) → TPost (fun b => b = rb.b ∨ b = rc.b) w (L ++ rb :: (M ++ rc :: R)) e w3) := fun e he => ⟨some rc.b, _, _, _, he, by simpa using T3, f4⟩
  clear f4 T2 T3 hc3 f3
  go_wp2_with fail
  go_ret
  exact KK.out _ rfl
set_option maxRecDepth 100000 in
set_option maxHeartbeats 1000000 in
theorem turnRight24 {w : World} {rb rc : Rw} {m1 h1 m2 h2 : Int} {pl pm pr : Option Nat} (hb : w.heap[rb.b]? = some (ndC rb m1 h1 (some rc.b) pr)) (hc : w.heap[rc.b]? = some (ndC rc m2 h2 pl pm)) {h : Nat} {ml mm mr hl hm hr : Int} {L M R : List Rw} (tl : TT w h none pl ml hl L) (tm : TT w h none pm mm hm M) (tr : TT w h none pr mr hr R) (hs : Srt (L ++ rc :: (M ++ rb :: R))) (len : (L ++ rc :: (M ++ rb :: R)).length ≤ 4000000000) : Calls Try.prog 24 #[.pointer (some ⟨rb.b, 0, none⟩)] w (TPost (fun b => b = rb.b ∨ b = rc.b) w (L ++ rc :: (M ++ rb :: R))) := by
  obtain ⟨s1, s2, s3, s4, s5⟩ := hs.mid
  obtain ⟨s6, s7, s8, s9, s10⟩ := s2.mid
  have hbc : rb.b ≠ rc.b := node_ne hb hc (by have := s4 rb (by simp); omega)
  have nL : ∀ x ∈ L, x.b ≠ rb.b ∧ x.b ≠ rc.b := fun x hx => ⟨tl.ne hb hx (by have := s5 x hx rb (by simp); omega), tl.ne hc hx (by have := s3 x hx; omega)⟩
  have nM : ∀ x ∈ M, x.b ≠ rb.b ∧ x.b ≠ rc.b := fun x hx => ⟨tm.ne hb hx (by have := s8 x hx; omega), tm.ne hc hx (by have := s4 x (by simp [hx]); omega)⟩
  have nR : ∀ x ∈ R, x.b ≠ rb.b ∧ x.b ≠ rc.b := fun x hx => ⟨tr.ne hb hx (by have := s9 x hx; omega), tr.ne hc hx (by have := s4 x (by simp [hx]); omega)⟩
  simp at len
  have TL : Hid (∀ W, FX (fun b => b = rb.b ∨ b = rc.b) w W → TT W h none pl ml hl L) := fun W k => tl.frame (fun x hx => k.block _ (by have := nL x hx; omega))
  have TM : Hid (∀ W, FX (fun b => b = rb.b ∨ b = rc.b) w W → TT W h none pm mm hm M) := fun W k => tm.frame (fun x hx => k.block _ (by have := nM x hx; omega))
  have TR : Hid (∀ W, FX (fun b => b = rb.b ∨ b = rc.b) w W → TT W h none pr mr hr R) := fun W k => tr.frame (fun x hx => k.block _ (by have := nR x hx; omega))
  have HB : Hid (w.heap[rb.b]? = some (ndC rb m1 h1 (some rc.b) pr)) := hb
  have HC : Hid (w.heap[rc.b]? = some (ndC rc m2 h2 pl pm)) := hc
  have NL : Hid (∀ x ∈ L, x.b ≠ rb.b ∧ x.b ≠ rc.b) := nL
  have NM : Hid (∀ x ∈ M, x.b ≠ rb.b ∧ x.b ≠ rc.b) := nM
  have NR : Hid (∀ x ∈ R, x.b ≠ rb.b ∧ x.b ≠ rc.b) := nR
  have HS : Hid (L.length ≤ 4000000000 ∧ M.length ≤ 4000000000 ∧ R.length ≤ 4000000000 ∧ (M ++ rb :: R).length ≤ 4000000000) := ⟨by omega, by omega, by omega, by simp; omega⟩
  obtain ⟨-, -, -, -, -, cb5, cb6, fb, lb⟩ := nd_cells hb
  obtain ⟨-, -, -, -, -, cc5, cc6, fc, lc⟩ := nd_cells hc
  replace cb5 : w.cell? ⟨rb.b, 5, none⟩ = some (.pointer (some ⟨rc.b, 0, none⟩)) := cb5
  clear hb hc s1 s2 s3 s4 s5 s6 s7 s8 s9 s10 nL nM nR tl tm tr hs len
  go_enter Try.func24, Try.ntmps24
  go_upto_region 3 with fail
  have H2 : Hid (((w.setCell ⟨rb.b, 5, none⟩ (pv pm)).setCell ⟨rc.b, 6, none⟩ (.pointer (some ⟨rb.b, 0, none⟩))).heap[rb.b]? = some (ndC rb m1 h1 pm pr) ∧ ((w.setCell ⟨rb.b, 5, none⟩ (pv pm)).setCell ⟨rc.b, 6, none⟩ (.pointer (some ⟨rb.b, 0, none⟩))).heap[rc.b]? = some (ndC rc m2 h2 pl (some rb.b)) ∧ FX (fun b => b = rb.b ∨ b = rc.b) w ((w.setCell ⟨rb.b, 5, none⟩ (pv pm)).setCell ⟨rc.b, 6, none⟩ (.pointer (some ⟨rb.b, 0, none⟩)))) := by
    refine ⟨(Below.heap_setCell _ ⟨rc.b, 6, none⟩ _ _ hbc).trans (nd_set5 HB.out pm), nd_set6 (p := some rb.b) ((Below.heap_setCell _ ⟨rb.b, 5, none⟩ _ _ (Ne.symm hbc)).trans HC.out), ?_⟩
    exact ((FX.refl (fun b => b = rb.b ∨ b = rc.b) w).setCell (p := ⟨rb.b, 5, none⟩) (.inl rfl) _).setCell (p := ⟨rc.b, 6, none⟩) (.inr rfl) _
  generalize (w.setCell ⟨rb.b, 5, none⟩ (pv pm)).setCell ⟨rc.b, 6, none⟩ (.pointer (some ⟨rb.b, 0, none⟩)) = wv at *
  clear cb5 cb6 fb lb cc5 cc6 fc lc
  have S1 := settle21 H2.out.1 (TM.out _ H2.out.2.2) (TR.out _ H2.out.2.2) (fun x hx => (NM.out x hx).1) (fun x hx => (NR.out x hx).1) HS.out.2.1 HS.out.2.2.1
  go_upto_region 4 with (go_at_call 21; refine S1.mono ?_; rintro e w2 ⟨rfl, hb2, f2⟩)
  have f3 : FX (fun b => b = rb.b ∨ b = rc.b) w w2 := H2.out.2.2.trans (f2.mono (fun k e => .inl e))
  have hc2 := (f2.block rc.b (Ne.symm hbc)).trans H2.out.2.1
  have T1 := TT.top hb2 (TM.out _ f3) (TR.out _ f3)
  have S2 := settle21 hc2 (TL.out _ f3) T1 (fun x hx => (NL.out x hx).2) (fun x hx => by
    simp at hx
    rcases hx with hx | rfl | hx
    · exact (NM.out x hx).2
    · exact hbc
    · exact (NR.out x hx).2) HS.out.1 HS.out.2.2.2
  have K : Hid (TT w2 (h + 1) none (some rb.b) (max rb.g (max mm mr)) (1 + max hm hr) (M ++ rb :: R) ∧ FX (fun b => b = rb.b ∨ b = rc.b) w w2) := ⟨T1, f3⟩
  clear S1 H2 hb2 f2 f3 hc2 T1
  go_upto_region 5 with (go_at_call 21; refine S2.mono ?_; rintro e w3 ⟨rfl, hc3, f3⟩)
  clear S2
  have f4 : FX (fun b => b = rb.b ∨ b = rc.b) w w3 := K.out.2.trans (f3.mono (fun k e => .inr e))
  have T2 := K.out.1.frame (w' := w3) (fun x hx => f3.block _ (by
    simp at hx
    rcases hx with hx | rfl | hx
    · exact (NM.out x hx).2
    · exact hbc
    · exact (NR.out x hx).2))
  have T3 := TT.top hc3 ((TL.out _ f4).up (Nat.le_succ h)) T2
  have KK : Hid (∀ e, e = .returned (pv (some rc.b)) → TPost (fun b => b = rb.b ∨ b = rc.b) w (L ++ rc :: (M ++ rb :: R)) e w3) := fun e he => ⟨some rc.b, _, _, _, he, T3, f4⟩
  clear f4 T2 T3 hc3 f3
  go_wp2_with fail
  go_ret
  exact KK.out _ rfl
end Go.Proofs.Ytohhmcpaajcplaa
