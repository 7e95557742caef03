/- The heap's tree: first, withoutFirst. -/
import Derived.Test.YtohhmcpaajcplaaTre
namespace Go.Proofs.Ytohhmcpaajcplaa
open Go.RowKit
set_option linter.all false
/-- The first one of a tree: it is the top, or the first one on the left. -/
theorem TT.first {w : World} {h : Nat} {d : Option Int} {b : Nat} {m ht : Int} {x : Rw} {xs : List Rw} (t : TT w h d (some b) m ht (x :: xs)) : ∃ (k : Nat) (r : Rw) (pl pr : Option Nat), h = k + 1 ∧ b = r.b ∧ w.heap[r.b]? = some (ndC r m ht pl pr) ∧ ((pl = none ∧ r = x) ∨ ∃ c ml hl ys, pl = some c ∧ TT w k (dl d r.a) (some c) ml hl (x :: ys)) := by
  obtain ⟨k, r, pl, pr, ml, mr, hl, hr, L, R, e0, e1, hc, tl, tr, e, -, -⟩ := t.out
  refine ⟨k, r, pl, pr, e0, e1, hc, ?_⟩
  cases pl with
  | none =>
    obtain ⟨-, -, rfl⟩ := tl.of_none
    simp at e
    exact .inl ⟨rfl, e.1.symm⟩
  | some c =>
    cases L with
    | nil => have := tl.none_iff.2 rfl; simp at this
    | cons y ys =>
      simp at e
      obtain ⟨rfl, e⟩ := e
      exact .inr ⟨c, ml, hl, ys, rfl, tl⟩
set_option maxRecDepth 100000 in
set_option maxHeartbeats 1000000 in
theorem first18 {w : World} {h : Nat} {d : Option Int} {b : Nat} {m ht : Int} {x : Rw} {xs : List Rw} (t : TT w h d (some b) m ht (x :: xs)) : Calls Try.prog 18 #[.pointer (some ⟨b, 0, none⟩)] w (fun e w' => e = .returned (.pointer (some ⟨x.b, 0, none⟩)) ∧ w' = w) := by
  have T : Hid (TT w h d (some b) m ht (x :: xs)) := t
  clear t
  go_enter Try.func18, Try.ntmps18
  go_wp2_with fail
  go_loopg [0] h (fun gg v0 wr => ∃ b' d' m' ht' ys, v0 = .pointer (some ⟨b', 0, none⟩) ∧ Hid (TT w gg d' (some b') m' ht' (x :: ys)) ∧ wr = w)
  case atStart => exact ⟨b, d, m, ht, xs, rfl, T.out, rfl⟩
  case round =>
    obtain ⟨b', d', m', ht', ys, rfl, T', rfl⟩ := hrel
    obtain ⟨k, r, pl, pr, hk, rfl, hc, hh⟩ := T'.out.first
    obtain ⟨-, -, -, -, -, cb5, -, -, lb⟩ := nd_cells hc
    rcases hh with ⟨rfl, rfl⟩ | ⟨c, ml, hl, zs, rfl, t2⟩
    · replace cb5 : wr.cell? ⟨r.b, 5, none⟩ = some (.pointer none) := cb5
      clear hc T'
      go_wp2_with fail
      go_ret
      exact ⟨rfl, rfl⟩
    · replace cb5 : wr.cell? ⟨r.b, 5, none⟩ = some (.pointer (some ⟨c, 0, none⟩)) := cb5
      have T2 : Hid (TT wr k (dl d' r.a) (some c) ml hl (x :: zs)) := t2
      clear hc T' t2
      go_wp2_with fail
      go_roundg k
      case measure => omega
      case rel => exact ⟨c, _, ml, hl, zs, rfl, T2.out, rfl⟩
set_option maxRecDepth 100000 in
set_option maxHeartbeats 1000000 in
theorem withoutFirst19 {a : Int} {x : Rw} : ∀ {h : Nat} {w : World} {b : Nat} {m ht : Int} {xs : List Rw}, TT w h (some a) (some b) m ht (x :: xs) → (∀ y ∈ x :: xs, a < y.a) → Srt (x :: xs) → (x :: xs).length ≤ 4000000000 → Calls Try.prog 19 #[.pointer (some ⟨b, 0, none⟩)] w (TPost (InR xs) w xs) := by
  intro h
  induction h with
  | zero => intro w b m ht xs t; obtain ⟨h1, -⟩ := t; simp at h1
  | succ h ih =>
    intro w b m ht xs t ha hs len
    obtain ⟨k, r, pl, pr, ml, mr, hl, hr, LL, RR, e0, rfl, hb, tl, tr, e, -, -⟩ := t.out
    obtain rfl : h = k := by omega
    obtain ⟨-, -, -, -, -, cb5, cb6, fb, lb⟩ := nd_cells hb
    have hlt : a < r.a := ha r (by rw [e]; simp)
    simp only [dl, dr, if_pos hlt] at tl tr
    cases pl with
    | none =>
      obtain ⟨-, -, rfl⟩ := tl.of_none
      simp at e
      obtain ⟨rfl, rfl⟩ := e
      replace cb5 : w.cell? ⟨x.b, 5, none⟩ = some (.pointer none) := cb5
      have KK : Hid (TPost (InR xs) w xs (.returned (pv pr)) w) := ⟨pr, h, mr, hr, rfl, tr, FX.refl _ _⟩
      clear ih t ha hs len hb tl tr e0 hlt
      go_enter Try.func19, Try.ntmps19
      go_wp2_with fail
      go_ret
      exact KK.out
    | some c =>
      obtain ⟨ys, hys⟩ : ∃ ys, LL = x :: ys := by
        cases LL with
        | nil => have := tl.none_iff.2 rfl; simp at this
        | cons y ys => simp at e; exact ⟨ys, by rw [e.1]⟩
      subst hys
      simp at e
      have hs' : Srt ((x :: ys) ++ r :: RR) := by rw [e] at hs; exact hs
      obtain ⟨s1, s2, s3, s4, s5⟩ := hs'.mid
      have S1 := ih tl (fun y hy => ha y (by rw [e]; simp at hy ⊢; rcases hy with h | h <;> simp [h])) s1 (by rw [e] at len; simp at len ⊢; omega)
      replace cb5 : w.cell? ⟨r.b, 5, none⟩ = some (.pointer (some ⟨c, 0, none⟩)) := cb5
      have HN : Hid (∀ y ∈ ys, y.b ≠ r.b) := fun y hy => tl.ne hb (by simp [hy]) (by have := s3 y (by simp [hy]); omega)
      have HO : Hid (∀ z ∈ RR, z.b ≠ r.b ∧ ∀ y ∈ ys, y.b ≠ z.b) := fun z hz => ⟨tr.ne hb hz (by have := s4 z hz; omega), fun y hy => tl.ne2 tr (by simp [hy]) hz (by have := s5 y (by simp [hy]) z hz; omega)⟩
      have HS : Hid (Srt xs ∧ xs.length ≤ 4000000000) := ⟨(List.pairwise_cons.1 hs).2, by simp at len; omega⟩
      have HX : Hid (xs = ys ++ r :: RR) := e
      have HB : Hid (w.heap[r.b]? = some (ndC r m ht (some c) pr)) := hb
      have TO : Hid (TT w h none pr mr hr RR) := tr
      clear ih s1 s2 s3 s4 s5 hs' hs ha len e e0 t tl tr hb hlt
      go_enter Try.func19, Try.ntmps19
      go_upto_region 4 with (first | (go_at_call 19; refine S1.mono ?_; rintro e2 w2 ⟨p2, k2, m2, ht2, rfl, t2, f2⟩; have hr2 := (f2.block r.b (fun ⟨x, hx, he⟩ => HN.out x hx he)).trans HB.out; have fz2 := (nd_cells hr2).2.2.2.2.2.2.2.1; have cz2 := (nd_cells hr2).2.2.2.2.2.1; have lz2 := (nd_cells hr2).2.2.2.2.2.2.2.2))
      have S2 : Calls Try.prog 20 #[.pointer (some ⟨r.b, 0, none⟩)] (w2.setCell ⟨r.b, 5, none⟩ (pv p2)) (TPost (InR xs) (w2.setCell ⟨r.b, 5, none⟩ (pv p2)) xs) := by
        have t3 := t2.frame (w' := w2.setCell ⟨r.b, 5, none⟩ (pv p2)) (fun x hx => Below.heap_setCell _ ⟨r.b, 5, none⟩ _ _ (HN.out x hx))
        have q2 := TO.out.frame (w' := w2.setCell ⟨r.b, 5, none⟩ (pv p2)) (fun x hx => (Below.heap_setCell _ ⟨r.b, 5, none⟩ _ _ (HO.out x hx).1).trans (f2.block _ (fun ⟨y, hy, e⟩ => (HO.out x hx).2 y hy e)))
        have hS := HS.out
        rw [HX.out] at hS ⊢
        exact level20 (nd_set5 hr2 p2) (t3.up (Nat.le_max_left _ _)) (q2.up (Nat.le_max_right k2 _)) hS.1 hS.2
      have f3 : Hid (FX (InR xs) w (w2.setCell ⟨r.b, 5, none⟩ (pv p2))) := (f2.mono (fun b ⟨x, hx, e⟩ => ⟨x, by rw [HX.out]; simp [hx], e⟩)).setCell (p := ⟨r.b, 5, none⟩) ⟨r, by rw [HX.out]; simp, rfl⟩ _
      generalize w2.setCell ⟨r.b, 5, none⟩ (pv p2) = w3 at *
      clear t2 f2 hr2 fz2 cz2 lz2 S1
      go_wp2_with (go_at_call 20; refine S2.mono ?_; rintro e3 w4 ⟨p4, k4, m4, ht4, rfl, t4, f4⟩)
      go_ret
      exact ⟨p4, k4, m4, ht4, rfl, t4, f3.out.trans f4⟩
end Go.Proofs.Ytohhmcpaajcplaa
