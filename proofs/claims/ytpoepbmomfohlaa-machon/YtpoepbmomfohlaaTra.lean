/- The heap's tree in memory: its blocks in order. -/
import Derived.Test.YtpoepbmomfohlaaHpd
namespace Go.Proofs.Ytpoepbmomfohlaa
open Go.RowKit
set_option linter.all false
/-- A block: where it lies in memory; its first word, its size, the gap ahead of it. -/
structure Rw where
  b : Nat
  a : Int
  s : Int
  g : Int
abbrev pv (p : Option Nat) : Value := .pointer (p.map fun b => ⟨b, 0, none⟩)
abbrev ndC (r : Rw) (m ht : Int) (pl pr : Option Nat) : Obj := .cells #[.int .i64 r.a, .int .i64 r.s, .int .i64 r.g, .int .i64 m, .int .i64 ht, pv pl, pv pr] 70 (0, 0)
def dl : Option Int → Int → Option Int
  | none, _ => none
  | some x, a => if x < a then some x else none
def dr : Option Int → Int → Option Int
  | none, _ => none
  | some x, a => if x < a then none else some x
/-- A tree of height h at most, with its blocks in order; d: a word on whose way down the widest gaps may not be known. -/
def TT (w : World) : Nat → Option Int → Option Nat → Int → Int → List Rw → Prop
  | 0, _, p, m, ht, xs => p = none ∧ m = 0 ∧ ht = 0 ∧ xs = []
  | h + 1, d, p, m, ht, xs => (p = none ∧ m = 0 ∧ ht = 0 ∧ xs = []) ∨ ∃ (r : Rw) (pl pr : Option Nat) (ml mr hl hr : Int) (L R : List Rw), p = some r.b ∧ w.heap[r.b]? = some (ndC r m ht pl pr) ∧ TT w h (dl d r.a) pl ml hl L ∧ TT w h (dr d r.a) pr mr hr R ∧ xs = L ++ r :: R ∧ ht = 1 + max hl hr ∧ (d = none → m = max r.g (max ml mr))
/-- In order. -/
def Srt (xs : List Rw) : Prop := xs.Pairwise (fun x y => x.a < y.a)
section
variable {w w' : World} {h : Nat} {d : Option Int} {p : Option Nat} {m ht : Int} {xs : List Rw}
theorem TT.nil (w : World) (h : Nat) (d : Option Int) : TT w h d none 0 0 [] := by
  cases h with
  | zero => exact ⟨rfl, rfl, rfl, rfl⟩
  | succ h => exact .inl ⟨rfl, rfl, rfl, rfl⟩
theorem TT.frame (t : TT w h d p m ht xs) (k : ∀ r ∈ xs, w'.heap[r.b]? = w.heap[r.b]?) : TT w' h d p m ht xs := by
  induction h generalizing d p m ht xs with
  | zero => exact t
  | succ h ih =>
    rcases t with t | ⟨r, pl, pr, ml, mr, hl, hr, L, R, e1, e2, e3, e4, e5, e6, e7⟩
    · exact .inl t
    · subst e5
      exact .inr ⟨r, pl, pr, ml, mr, hl, hr, L, R, e1, (k r (by simp)).trans e2, ih e3 (fun x hx => k x (by simp [hx])), ih e4 (fun x hx => k x (by simp [hx])), rfl, e6, e7⟩
theorem TT.up (t : TT w h d p m ht xs) {h' : Nat} (hh : h ≤ h') : TT w h' d p m ht xs := by
  induction h generalizing d p m ht xs h' with
  | zero =>
    obtain ⟨rfl, rfl, rfl, rfl⟩ := t
    exact TT.nil _ _ _
  | succ h ih =>
    obtain ⟨k, rfl⟩ : ∃ k, h' = k + 1 := ⟨h' - 1, by omega⟩
    rcases t with t | ⟨r, pl, pr, ml, mr, hl, hr, L, R, e1, e2, e3, e4, e5, e6, e7⟩
    · exact .inl t
    · exact .inr ⟨r, pl, pr, ml, mr, hl, hr, L, R, e1, e2, ih e3 (by omega), ih e4 (by omega), e5, e6, e7⟩
/-- Whatever may not be known. -/
theorem TT.weak (t : TT w h none p m ht xs) (d : Option Int) : TT w h d p m ht xs := by
  induction h generalizing d p m ht xs with
  | zero => exact t
  | succ h ih =>
    rcases t with t | ⟨r, pl, pr, ml, mr, hl, hr, L, R, e1, e2, e3, e4, e5, e6, e7⟩
    · exact .inl t
    · exact .inr ⟨r, pl, pr, ml, mr, hl, hr, L, R, e1, e2, ih e3 _, ih e4 _, e5, e6, fun _ => e7 rfl⟩
theorem TT.none_iff (t : TT w h d p m ht xs) : p = none ↔ xs = [] := by
  cases h with
  | zero => obtain ⟨rfl, _, _, rfl⟩ := t; simp
  | succ h =>
    rcases t with ⟨rfl, _, _, rfl⟩ | ⟨r, pl, pr, ml, mr, hl, hr, L, R, e1, e2, e3, e4, e5, e6, e7⟩
    · simp
    · simp [e1, e5]
theorem TT.of_none (t : TT w h d none m ht xs) : m = 0 ∧ ht = 0 ∧ xs = [] := by
  cases h with
  | zero => obtain ⟨_, h1, h2, h3⟩ := t; exact ⟨h1, h2, h3⟩
  | succ h =>
    rcases t with ⟨_, h1, h2, h3⟩ | ⟨r, pl, pr, ml, mr, hl, hr, L, R, e1, e2, e3, e4, e5, e6, e7⟩
    · exact ⟨h1, h2, h3⟩
    · simp at e1
theorem TT.tall (t : TT w h d p m ht xs) : 0 ≤ ht ∧ ht ≤ xs.length := by
  induction h generalizing d p m ht xs with
  | zero => obtain ⟨_, _, rfl, rfl⟩ := t; simp
  | succ h ih =>
    rcases t with ⟨_, _, rfl, rfl⟩ | ⟨r, pl, pr, ml, mr, hl, hr, L, R, e1, e2, e3, e4, e5, e6, e7⟩
    · simp
    · have h1 := ih e3
      have h2 := ih e4
      subst e5
      simp
      omega
/-- A tree that is one. -/
theorem TT.out {b : Nat} (t : TT w h d (some b) m ht xs) : ∃ (k : Nat) (r : Rw) (pl pr : Option Nat) (ml mr hl hr : Int) (L R : List Rw), h = k + 1 ∧ b = r.b ∧ w.heap[r.b]? = some (ndC r m ht pl pr) ∧ TT w k (dl d r.a) pl ml hl L ∧ TT w k (dr d r.a) pr mr hr R ∧ xs = L ++ r :: R ∧ ht = 1 + max hl hr ∧ (d = none → m = max r.g (max ml mr)) := by
  cases h with
  | zero => obtain ⟨h1, _⟩ := t; simp at h1
  | succ h =>
    rcases t with ⟨h1, _⟩ | ⟨r, pl, pr, ml, mr, hl, hr, L, R, e1, e2⟩
    · simp at h1
    · exact ⟨h, r, pl, pr, ml, mr, hl, hr, L, R, rfl, by simpa using e1, e2⟩
theorem TT.of_tall (t : TT w h d p m ht xs) (h1 : 0 < ht) : ∃ b, p = some b := by
  cases p with
  | none => have := t.of_none; omega
  | some b => exact ⟨b, rfl⟩
theorem TT.row (t : TT w h d p m ht xs) : ∀ r ∈ xs, ∃ m' ht' pl pr, w.heap[r.b]? = some (ndC r m' ht' pl pr) := by
  induction h generalizing d p m ht xs with
  | zero => obtain ⟨_, _, _, rfl⟩ := t; simp
  | succ h ih =>
    rcases t with ⟨_, _, _, rfl⟩ | ⟨r, pl, pr, ml, mr, hl, hr, L, R, e1, e2, e3, e4, rfl, e6, e7⟩
    · simp
    · intro x hx
      simp at hx
      rcases hx with hx | rfl | hx
      · exact ih e3 x hx
      · exact ⟨_, _, _, _, e2⟩
      · exact ih e4 x hx
/-- The widest gap. -/
theorem TT.most (t : TT w h none p m ht xs) (hg : ∀ r ∈ xs, 0 ≤ r.g) : 0 ≤ m ∧ (∀ r ∈ xs, r.g ≤ m) ∧ (m = 0 ∨ ∃ r ∈ xs, r.g = m) := by
  induction h generalizing p m ht xs with
  | zero => obtain ⟨_, rfl, _, rfl⟩ := t; simp
  | succ h ih =>
    rcases t with ⟨_, rfl, _, rfl⟩ | ⟨r, pl, pr, ml, mr, hl, hr, L, R, e1, e2, e3, e4, rfl, e6, e7⟩
    · simp
    · have h1 := ih e3 (fun x hx => hg x (by simp [hx]))
      have h2 := ih e4 (fun x hx => hg x (by simp [hx]))
      have h3 := e7 rfl
      have h4 := hg r (by simp)
      refine ⟨by omega, fun x hx => ?_, ?_⟩
      · simp at hx
        rcases hx with hx | rfl | hx
        · have := h1.2.1 x hx; omega
        · omega
        · have := h2.2.1 x hx; omega
      · rcases h1.2.2 with a | ⟨x, hx, a⟩ <;> rcases h2.2.2 with b | ⟨y, hy, b⟩
        · exact .inr ⟨r, by simp, by omega⟩
        · by_cases c : r.g ≤ y.g
          · exact .inr ⟨y, by simp [hy], by omega⟩
          · exact .inr ⟨r, by simp, by omega⟩
        · by_cases c : r.g ≤ x.g
          · exact .inr ⟨x, by simp [hx], by omega⟩
          · exact .inr ⟨r, by simp, by omega⟩
        · by_cases c : r.g ≤ x.g
          · by_cases c2 : x.g ≤ y.g
            · exact .inr ⟨y, by simp [hy], by omega⟩
            · exact .inr ⟨x, by simp [hx], by omega⟩
          · by_cases c2 : r.g ≤ y.g
            · exact .inr ⟨y, by simp [hy], by omega⟩
            · exact .inr ⟨r, by simp, by omega⟩
end
theorem ndC_inj {r r' : Rw} {m m' ht ht' : Int} {pl pl' pr pr' : Option Nat} (h : ndC r m ht pl pr = ndC r' m' ht' pl' pr') : r.a = r'.a ∧ r.s = r'.s ∧ r.g = r'.g := by
  unfold ndC at h
  simp at h
  exact ⟨h.1, h.2.1, h.2.2.1⟩
/-- Blocks that begin elsewhere lie elsewhere. -/
theorem node_ne {w : World} {r r' : Rw} {m m' ht ht' : Int} {pl pl' pr pr' : Option Nat} (h : w.heap[r.b]? = some (ndC r m ht pl pr)) (h' : w.heap[r'.b]? = some (ndC r' m' ht' pl' pr')) (ha : r.a ≠ r'.a) : r.b ≠ r'.b := fun e => by
  rw [e, h'] at h
  exact ha (ndC_inj (Option.some.inj h)).1.symm
theorem TT.ne {w : World} {h : Nat} {d : Option Int} {p : Option Nat} {m ht : Int} {xs : List Rw} (t : TT w h d p m ht xs) {r : Rw} {m' ht' : Int} {pl pr : Option Nat} (hr : w.heap[r.b]? = some (ndC r m' ht' pl pr)) {x : Rw} (hx : x ∈ xs) (ha : x.a ≠ r.a) : x.b ≠ r.b := by
  obtain ⟨_, _, _, _, h1⟩ := t.row x hx
  exact node_ne h1 hr ha
theorem TT.ne2 {w : World} {h : Nat} {d : Option Int} {p : Option Nat} {m ht : Int} {xs : List Rw} (t : TT w h d p m ht xs) {h' : Nat} {d' : Option Int} {p' : Option Nat} {m' ht' : Int} {ys : List Rw} (t' : TT w h' d' p' m' ht' ys) {x y : Rw} (hx : x ∈ xs) (hy : y ∈ ys) (ha : x.a ≠ y.a) : x.b ≠ y.b := by
  obtain ⟨_, _, _, _, h1⟩ := t'.row y hy
  exact t.ne h1 hx ha
theorem Srt.mid {L R : List Rw} {r : Rw} (h : Srt (L ++ r :: R)) : Srt L ∧ Srt R ∧ (∀ x ∈ L, x.a < r.a) ∧ (∀ x ∈ R, r.a < x.a) ∧ (∀ x ∈ L, ∀ y ∈ R, x.a < y.a) := by
  unfold Srt at h
  rw [List.pairwise_append] at h
  obtain ⟨h1, h2, h3⟩ := h
  rw [List.pairwise_cons] at h2
  exact ⟨h1, h2.2, fun x hx => h3 x hx r (by simp), h2.1, fun x hx y hy => h3 x hx y (by simp [hy])⟩
theorem Srt.mk {L R : List Rw} {r : Rw} (h1 : Srt L) (h2 : Srt R) (h3 : ∀ x ∈ L, x.a < r.a) (h4 : ∀ x ∈ R, r.a < x.a) : Srt (L ++ r :: R) := by
  unfold Srt
  rw [List.pairwise_append]
  refine ⟨h1, by rw [List.pairwise_cons]; exact ⟨h4, h2⟩, fun x hx y hy => ?_⟩
  rcases List.mem_cons.1 hy with rfl | hy
  · exact h3 x hx
  · have := h3 x hx; have := h4 y hy; omega
/-- All blocks of memory but some are as they were; none is new. -/
structure FX (X : Nat → Prop) (w w' : World) : Prop where
  os : w'.os = w.os
  tape : w'.tape = w.tape
  output : w'.output = w.output
  size : w'.heap.size = w.heap.size
  block : ∀ k, ¬ X k → w'.heap[k]? = w.heap[k]?
section
variable {X X' : Nat → Prop} {a w w' : World}
theorem FX.refl (X : Nat → Prop) (w : World) : FX X w w := ⟨rfl, rfl, rfl, rfl, fun _ _ => rfl⟩
theorem FX.trans (h : FX X a w) (k : FX X w w') : FX X a w' := ⟨k.os.trans h.os, k.tape.trans h.tape, k.output.trans h.output, k.size.trans h.size, fun i hn => (k.block i hn).trans (h.block i hn)⟩
theorem FX.mono (h : FX X w w') (hX : ∀ k, X k → X' k) : FX X' w w' := ⟨h.os, h.tape, h.output, h.size, fun k hn => h.block k (fun hx => hn (hX k hx))⟩
theorem FX.drew (h : FX X a w) : FX X a w.drew := ⟨h.os, h.tape, h.output, h.size, h.block⟩
theorem FX.drewN (h : FX X a w) (m : Nat) : FX X a (w.drewN m) := ⟨h.os, h.tape, h.output, h.size, h.block⟩
theorem FX.setCell (h : FX X a w) {p : Addr} (hp : X p.block) (u : Value) : FX X a (w.setCell p u) :=
  ⟨h.os, h.tape, h.output, by simpa using h.size, fun k hn => by
    have e : k ≠ p.block := fun e => hn (e ▸ hp)
    exact (Below.heap_setCell _ _ _ _ e).trans (h.block k hn)⟩
end
end Go.Proofs.Ytpoepbmomfohlaa
namespace Go.Proofs.Ytpoepbmomfohlaa
open Go.RowKit
set_option linter.all false
theorem TT.cell {w : World} {h : Nat} {d : Option Int} {b : Nat} {m ht : Int} {xs : List Rw} (t : TT w h d (some b) m ht xs) : ∃ (r : Rw) (pl pr : Option Nat), b = r.b ∧ w.heap[r.b]? = some (ndC r m ht pl pr) := by
  obtain ⟨k, r, pl, pr, ml, mr, hl, hr, L, R, _, e, hc, _⟩ := t.out
  exact ⟨r, pl, pr, e, hc⟩
set_option maxRecDepth 100000 in
set_option maxHeartbeats 1000000 in
theorem tall22 {w : World} {h : Nat} {d : Option Int} {p : Option Nat} {m ht : Int} {xs : List Rw} (t : TT w h d p m ht xs) : Calls Try.prog 60 #[pv p] w (fun e w' => e = .returned (.int .i64 ht) ∧ w' = w) := by
  cases p with
  | none =>
    obtain ⟨_, rfl, _⟩ := t.of_none
    clear t
    show Calls Try.prog 60 #[.pointer none] w _
    go_enter Try.func60, Try.ntmps60
    go_wp2_with fail
    go_ret
    exact ⟨rfl, rfl⟩
  | some b =>
    obtain ⟨r, pl, pr, rfl, hc⟩ := t.cell
    have c_h := fun o => cell_of_row w _ o _ 70 (0, 0) hc
    have l_h : r.b < w.heap.size := (Array.getElem?_eq_some_iff.1 hc).1
    clear t hc
    show Calls Try.prog 60 #[.pointer (some ⟨r.b, 0, none⟩)] w _
    go_enter Try.func60, Try.ntmps60
    go_wp2_with fail
    go_ret
    exact ⟨rfl, rfl⟩
set_option maxRecDepth 100000 in
set_option maxHeartbeats 1000000 in
theorem widest15 {w : World} {h : Nat} {d : Option Int} {p : Option Nat} {m ht : Int} {xs : List Rw} (t : TT w h d p m ht xs) : Calls Try.prog 47 #[pv p] w (fun e w' => e = .returned (.int .i64 m) ∧ w' = w) := by
  cases p with
  | none =>
    obtain ⟨rfl, _, _⟩ := t.of_none
    clear t
    show Calls Try.prog 47 #[.pointer none] w _
    go_enter Try.func47, Try.ntmps47
    go_wp2_with fail
    go_ret
    exact ⟨rfl, rfl⟩
  | some b =>
    obtain ⟨r, pl, pr, rfl, hc⟩ := t.cell
    have c_h := fun o => cell_of_row w _ o _ 70 (0, 0) hc
    have l_h : r.b < w.heap.size := (Array.getElem?_eq_some_iff.1 hc).1
    clear t hc
    show Calls Try.prog 47 #[.pointer (some ⟨r.b, 0, none⟩)] w _
    go_enter Try.func47, Try.ntmps47
    go_wp2_with fail
    go_ret
    exact ⟨rfl, rfl⟩
theorem ifmax (a b : Int) : (if a < b then b else a) = max a b := by
  split <;> omega
theorem nd_set2 {w : World} {r : Rw} {m ht : Int} {pl pr : Option Nat} (hc : w.heap[r.b]? = some (ndC r m ht pl pr)) (g : Int) : (w.setCell ⟨r.b, 2, none⟩ (.int .i64 g)).heap[r.b]? = some (ndC { r with g := g } m ht pl pr) := heap_setCell_same w r.b 2 _ 70 _ hc
theorem nd_set3 {w : World} {r : Rw} {m ht : Int} {pl pr : Option Nat} (hc : w.heap[r.b]? = some (ndC r m ht pl pr)) (m' : Int) : (w.setCell ⟨r.b, 3, none⟩ (.int .i64 m')).heap[r.b]? = some (ndC r m' ht pl pr) := heap_setCell_same w r.b 3 _ 70 _ hc
theorem nd_set4 {w : World} {r : Rw} {m ht : Int} {pl pr : Option Nat} (hc : w.heap[r.b]? = some (ndC r m ht pl pr)) (ht' : Int) : (w.setCell ⟨r.b, 4, none⟩ (.int .i64 ht')).heap[r.b]? = some (ndC r m ht' pl pr) := heap_setCell_same w r.b 4 _ 70 _ hc
theorem nd_set5 {w : World} {r : Rw} {m ht : Int} {pl pr : Option Nat} (hc : w.heap[r.b]? = some (ndC r m ht pl pr)) (p : Option Nat) : (w.setCell ⟨r.b, 5, none⟩ (pv p)).heap[r.b]? = some (ndC r m ht p pr) := heap_setCell_same w r.b 5 _ 70 _ hc
theorem nd_set6 {w : World} {r : Rw} {m ht : Int} {pl pr : Option Nat} (hc : w.heap[r.b]? = some (ndC r m ht pl pr)) (p : Option Nat) : (w.setCell ⟨r.b, 6, none⟩ (pv p)).heap[r.b]? = some (ndC r m ht pl p) := heap_setCell_same w r.b 6 _ 70 _ hc
theorem nd_cells {w : World} {r : Rw} {m ht : Int} {pl pr : Option Nat} (hc : w.heap[r.b]? = some (ndC r m ht pl pr)) : w.cell? ⟨r.b, 0, none⟩ = some (.int .i64 r.a) ∧ w.cell? ⟨r.b, 1, none⟩ = some (.int .i64 r.s) ∧ w.cell? ⟨r.b, 2, none⟩ = some (.int .i64 r.g) ∧ w.cell? ⟨r.b, 3, none⟩ = some (.int .i64 m) ∧ w.cell? ⟨r.b, 4, none⟩ = some (.int .i64 ht) ∧ w.cell? ⟨r.b, 5, none⟩ = some (pv pl) ∧ w.cell? ⟨r.b, 6, none⟩ = some (pv pr) ∧ (∀ o, w.frozen? ⟨r.b, o, none⟩ = false) ∧ r.b < w.heap.size :=
  ⟨cell_of_row w _ 0 _ 70 (0, 0) hc, cell_of_row w _ 1 _ 70 (0, 0) hc, cell_of_row w _ 2 _ 70 (0, 0) hc, cell_of_row w _ 3 _ 70 (0, 0) hc, cell_of_row w _ 4 _ 70 (0, 0) hc, cell_of_row w _ 5 _ 70 (0, 0) hc, cell_of_row w _ 6 _ 70 (0, 0) hc, fun o => frozen_of_row w _ o _ 70 hc, (Array.getElem?_eq_some_iff.1 hc).1⟩
theorem nd_drew {w : World} {r : Rw} {m ht : Int} {pl pr : Option Nat} (hc : w.heap[r.b]? = some (ndC r m ht pl pr)) : w.drew.heap[r.b]? = some (ndC r m ht pl pr) := hc
set_option maxRecDepth 100000 in
set_option maxHeartbeats 1000000 in
theorem settle21 {w : World} {r : Rw} {m ht : Int} {pl pr : Option Nat} (hc : w.heap[r.b]? = some (ndC r m ht pl pr)) {h h' : Nat} {d d' : Option Int} {ml mr hl hr : Int} {L R : List Rw} (tl : TT w h d pl ml hl L) (tr : TT w h' d' pr mr hr R) (nl : ∀ x ∈ L, x.b ≠ r.b) (nr : ∀ x ∈ R, x.b ≠ r.b) (bl : L.length ≤ 4000000000) (br : R.length ≤ 4000000000) : Calls Try.prog 59 #[.pointer (some ⟨r.b, 0, none⟩)] w (fun e w' => e = .returned (.tuple #[]) ∧ w'.heap[r.b]? = some (ndC r (max r.g (max ml mr)) (1 + max hl hr) pl pr) ∧ FX (fun b => b = r.b) w w') := by
  have TL : Hid (∀ W, FX (fun b => b = r.b) w W → TT W h d pl ml hl L) := fun W k => tl.frame (fun x hx => k.block _ (nl x hx))
  have TR : Hid (∀ W, FX (fun b => b = r.b) w W → TT W h' d' pr mr hr R) := fun W k => tr.frame (fun x hx => k.block _ (nr x hx))
  have hhl := tl.tall
  have hhr := tr.tall
  have HC : Hid (w.heap[r.b]? = some (ndC r m ht pl pr)) := hc
  obtain ⟨-, -, c_2, c_3, -, c_5, c_6, f_h, l_h⟩ := nd_cells hc
  clear hc tl tr nl nr
  have HH : Hid (0 ≤ hl ∧ hl ≤ 4000000000 ∧ 0 ≤ hr ∧ hr ≤ 4000000000) := ⟨hhl.1, by omega, hhr.1, by omega⟩
  clear hhl hhr bl br
  go_enter Try.func59, Try.ntmps59
  go_wp2_with fail
  have F0 : FX (fun b => b = r.b) w w.drew := (FX.refl _ _).drew
  have FSS : Hid (∀ u, FX (fun b => b = r.b) w (w.setCell ⟨r.b, 3, none⟩ (.int .i64 u)).drew ∧ (w.setCell ⟨r.b, 3, none⟩ (.int .i64 u)).drew.cell? ⟨r.b, 2, none⟩ = some (.int .i64 r.g) ∧ (w.setCell ⟨r.b, 3, none⟩ (.int .i64 u)).drew.cell? ⟨r.b, 5, none⟩ = some (pv pl) ∧ (w.setCell ⟨r.b, 3, none⟩ (.int .i64 u)).drew.cell? ⟨r.b, 6, none⟩ = some (pv pr)) := fun u => by
    have h1 := nd_cells (nd_drew (nd_set3 HC.out u))
    exact ⟨((FX.refl (fun b => b = r.b) w).setCell (p := ⟨r.b, 3, none⟩) rfl _).drew, h1.2.2.1, h1.2.2.2.2.2.1, h1.2.2.2.2.2.2.1⟩
  go_region_held3 (fun W => FX (fun b => b = r.b) w W ∧ W.cell? ⟨r.b, 2, none⟩ = some (.int .i64 r.g) ∧ W.cell? ⟨r.b, 5, none⟩ = some (pv pl) ∧ W.cell? ⟨r.b, 6, none⟩ = some (pv pr))
    (first | assumption | exact ⟨F0, c_2, c_5, c_6⟩ | exact FSS.out _)
    (first
      | (go_at_call_of 47 (pv pl); have hbl := (‹FX _ w _ ∧ _›).1; refine (widest15 (TL.out _ hbl)).mono ?_; rintro e w2 ⟨rfl, rfl⟩)
      | (go_at_call_of 47 (pv pr); have hbl := (‹FX _ w _ ∧ _›).1; refine (widest15 (TR.out _ hbl)).mono ?_; rintro e w2 ⟨rfl, rfl⟩))
  rw [ifmax, ifmax] at *
  have H2 : Hid ((w.setCell ⟨r.b, 3, none⟩ (.int .i64 (max (max r.g ml) mr))).drew.heap[r.b]? = some (ndC r (max (max r.g ml) mr) ht pl pr) ∧ FX (fun b => b = r.b) w (w.setCell ⟨r.b, 3, none⟩ (.int .i64 (max (max r.g ml) mr))).drew) := ⟨nd_drew (nd_set3 HC.out _), (FSS.out _).1⟩
  generalize hX : (w.setCell ⟨r.b, 3, none⟩ (.int .i64 (max (max r.g ml) mr))).drew = wv at *
  have hm : max (max r.g ml) mr = max r.g (max ml mr) := by omega
  rw [hm] at H2
  clear hX hm c_2 c_3 c_5 c_6 f_h l_h F0 FSS
  obtain ⟨-, -, -, -, c_4, c_5, c_6, f_h, l_h⟩ := nd_cells H2.out.1
  go_wp2_with fail
  have F0 : FX (fun b => b = r.b) w wv.drew := H2.out.2.drew
  have hmx : 0 ≤ max hl hr ∧ max hl hr ≤ 4000000000 := by have := HH.out; omega
  have hw : wrap64 (1 + max hl hr) = 1 + max hl hr := by unfold wrap64; omega
  have FSS : Hid (∀ u, FX (fun b => b = r.b) w (wv.setCell ⟨r.b, 4, none⟩ (.int .i64 u)).drew ∧ (wv.setCell ⟨r.b, 4, none⟩ (.int .i64 u)).drew.cell? ⟨r.b, 5, none⟩ = some (pv pl) ∧ (wv.setCell ⟨r.b, 4, none⟩ (.int .i64 u)).drew.cell? ⟨r.b, 6, none⟩ = some (pv pr)) := fun u => by
    have h1 := nd_cells (nd_drew (nd_set4 H2.out.1 u))
    exact ⟨(H2.out.2.setCell (p := ⟨r.b, 4, none⟩) rfl _).drew, h1.2.2.2.2.2.1, h1.2.2.2.2.2.2.1⟩
  go_region_held3 (fun W => FX (fun b => b = r.b) w W ∧ W.cell? ⟨r.b, 5, none⟩ = some (pv pl) ∧ W.cell? ⟨r.b, 6, none⟩ = some (pv pr))
    (first | assumption | exact ⟨F0, c_5, c_6⟩ | exact FSS.out _)
    (first
      | (go_at_call_of 60 (pv pl); have hbl := (‹FX _ w _ ∧ _›).1; refine (tall22 (TL.out _ hbl)).mono ?_; rintro e w2 ⟨rfl, rfl⟩)
      | (go_at_call_of 60 (pv pr); have hbl := (‹FX _ w _ ∧ _›).1; refine (tall22 (TR.out _ hbl)).mono ?_; rintro e w2 ⟨rfl, rfl⟩))
  simp only [ifmax, Go.IntWalk.i64_left, hw]
  have H3 := nd_drew (nd_set4 H2.out.1 (1 + max hl hr))
  go_wp2_with fail
  go_end0
  exact ⟨rfl, H3, (FSS.out _).1⟩
end Go.Proofs.Ytpoepbmomfohlaa
namespace Go.Proofs.Ytpoepbmomfohlaa
open Go.RowKit
set_option linter.all false
/-- A top over two trees. -/
theorem TT.top {w : World} {r : Rw} {ml mr hl hr : Int} {pl pr : Option Nat} {h : Nat} {L R : List Rw} (hc : w.heap[r.b]? = some (ndC r (max r.g (max ml mr)) (1 + max hl hr) pl pr)) (tl : TT w h none pl ml hl L) (tr : TT w h none pr mr hr R) : TT w (h + 1) none (some r.b) (max r.g (max ml mr)) (1 + max hl hr) (L ++ r :: R) :=
  .inr ⟨r, pl, pr, ml, mr, hl, hr, L, R, rfl, hc, tl, tr, rfl, rfl, fun _ => rfl⟩
/-- What a call leaves that turns a tree: all is known in it. -/
def TPost (X : Nat → Prop) (w : World) (xs : List Rw) (e : Ending) (w' : World) : Prop := ∃ p h m ht, e = .returned (pv p) ∧ TT w' h none p m ht xs ∧ FX X w w'
set_option maxRecDepth 100000 in
set_option maxHeartbeats 1000000 in
theorem turnLeft23 {w : World} {rb rc : Rw} {m1 h1 m2 h2 : Int} {pl pm pr : Option Nat} (hb : w.heap[rb.b]? = some (ndC rb m1 h1 pl (some rc.b))) (hc : w.heap[rc.b]? = some (ndC rc m2 h2 pm pr)) {h : Nat} {ml mm mr hl hm hr : Int} {L M R : List Rw} (tl : TT w h none pl ml hl L) (tm : TT w h none pm mm hm M) (tr : TT w h none pr mr hr R) (hs : Srt (L ++ rb :: (M ++ rc :: R))) (len : (L ++ rb :: (M ++ rc :: R)).length ≤ 4000000000) : Calls Try.prog 61 #[.pointer (some ⟨rb.b, 0, none⟩)] w (TPost (fun b => b = rb.b ∨ b = rc.b) w (L ++ rb :: (M ++ rc :: R))) := by
  obtain ⟨s1, s2, s3, s4, s5⟩ := hs.mid
  obtain ⟨s6, s7, s8, s9, s10⟩ := s2.mid
  have hbc : rb.b ≠ rc.b := node_ne hb hc (by have := s4 rc (by simp); omega)
  have nL : ∀ x ∈ L, x.b ≠ rb.b ∧ x.b ≠ rc.b := fun x hx => ⟨tl.ne hb hx (by have := s3 x hx; omega), tl.ne hc hx (by have := s5 x hx rc (by simp); omega)⟩
  have nM : ∀ x ∈ M, x.b ≠ rb.b ∧ x.b ≠ rc.b := fun x hx => ⟨tm.ne hb hx (by have := s4 x (by simp [hx]); omega), tm.ne hc hx (by have := s8 x hx; omega)⟩
  have nR : ∀ x ∈ R, x.b ≠ rb.b ∧ x.b ≠ rc.b := fun x hx => ⟨tr.ne hb hx (by have := s4 x (by simp [hx]); omega), tr.ne hc hx (by have := s9 x hx; omega)⟩
  simp at len
  have TL : Hid (∀ W, FX (fun b => b = rb.b ∨ b = rc.b) w W → TT W h none pl ml hl L) := fun W k => tl.frame (fun x hx => k.block _ (by have := nL x hx; omega))
  have TM : Hid (∀ W, FX (fun b => b = rb.b ∨ b = rc.b) w W → TT W h none pm mm hm M) := fun W k => tm.frame (fun x hx => k.block _ (by have := nM x hx; omega))
  have TR : Hid (∀ W, FX (fun b => b = rb.b ∨ b = rc.b) w W → TT W h none pr mr hr R) := fun W k => tr.frame (fun x hx => k.block _ (by have := nR x hx; omega))
  have HB : Hid (w.heap[rb.b]? = some (ndC rb m1 h1 pl (some rc.b))) := hb
  have HC : Hid (w.heap[rc.b]? = some (ndC rc m2 h2 pm pr)) := hc
  have NL : Hid (∀ x ∈ L, x.b ≠ rb.b ∧ x.b ≠ rc.b) := nL
  have NM : Hid (∀ x ∈ M, x.b ≠ rb.b ∧ x.b ≠ rc.b) := nM
  have NR : Hid (∀ x ∈ R, x.b ≠ rb.b ∧ x.b ≠ rc.b) := nR
  have HS : Hid (L.length ≤ 4000000000 ∧ M.length ≤ 4000000000 ∧ R.length ≤ 4000000000 ∧ (L ++ rb :: M).length ≤ 4000000000) := ⟨by omega, by omega, by omega, by simp; omega⟩
  obtain ⟨-, -, -, -, -, cb5, cb6, fb, lb⟩ := nd_cells hb
  obtain ⟨-, -, -, -, -, cc5, cc6, fc, lc⟩ := nd_cells hc
  replace cb6 : w.cell? ⟨rb.b, 6, none⟩ = some (.pointer (some ⟨rc.b, 0, none⟩)) := cb6
  clear hb hc s1 s2 s3 s4 s5 s6 s7 s8 s9 s10 nL nM nR tl tm tr hs len
  go_enter Try.func61, Try.ntmps61
  go_upto_region 3 with fail
  have H2 : Hid (((w.setCell ⟨rb.b, 6, none⟩ (pv pm)).setCell ⟨rc.b, 5, none⟩ (.pointer (some ⟨rb.b, 0, none⟩))).heap[rb.b]? = some (ndC rb m1 h1 pl pm) ∧ ((w.setCell ⟨rb.b, 6, none⟩ (pv pm)).setCell ⟨rc.b, 5, none⟩ (.pointer (some ⟨rb.b, 0, none⟩))).heap[rc.b]? = some (ndC rc m2 h2 (some rb.b) pr) ∧ FX (fun b => b = rb.b ∨ b = rc.b) w ((w.setCell ⟨rb.b, 6, none⟩ (pv pm)).setCell ⟨rc.b, 5, none⟩ (.pointer (some ⟨rb.b, 0, none⟩)))) := by
    refine ⟨(Below.heap_setCell _ ⟨rc.b, 5, none⟩ _ _ hbc).trans (nd_set6 HB.out pm), nd_set5 (p := some rb.b) ((Below.heap_setCell _ ⟨rb.b, 6, none⟩ _ _ (Ne.symm hbc)).trans HC.out), ?_⟩
    exact ((FX.refl (fun b => b = rb.b ∨ b = rc.b) w).setCell (p := ⟨rb.b, 6, none⟩) (.inl rfl) _).setCell (p := ⟨rc.b, 5, none⟩) (.inr rfl) _
  generalize (w.setCell ⟨rb.b, 6, none⟩ (pv pm)).setCell ⟨rc.b, 5, none⟩ (.pointer (some ⟨rb.b, 0, none⟩)) = wv at *
  clear cb5 cb6 fb lb cc5 cc6 fc lc
  have S1 := settle21 H2.out.1 (TL.out _ H2.out.2.2) (TM.out _ H2.out.2.2) (fun x hx => (NL.out x hx).1) (fun x hx => (NM.out x hx).1) HS.out.1 HS.out.2.1
  go_upto_region 4 with (go_at_call 59; refine S1.mono ?_; rintro e w2 ⟨rfl, hb2, f2⟩)
  have f3 : FX (fun b => b = rb.b ∨ b = rc.b) w w2 := H2.out.2.2.trans (f2.mono (fun k e => .inl e))
  have hc2 := (f2.block rc.b (Ne.symm hbc)).trans H2.out.2.1
  have T1 := TT.top hb2 (TL.out _ f3) (TM.out _ f3)
  have S2 := settle21 hc2 T1 (TR.out _ f3) (fun x hx => by
    simp at hx
    rcases hx with hx | rfl | hx
    · exact (NL.out x hx).2
    · exact hbc
    · exact (NM.out x hx).2) (fun x hx => (NR.out x hx).2) HS.out.2.2.2 HS.out.2.2.1
  have K : Hid (TT w2 (h + 1) none (some rb.b) (max rb.g (max ml mm)) (1 + max hl hm) (L ++ rb :: M) ∧ FX (fun b => b = rb.b ∨ b = rc.b) w w2) := ⟨T1, f3⟩
  clear S1 H2 hb2 f2 f3 hc2 T1
  go_upto_region 5 with (go_at_call 59; refine S2.mono ?_; rintro e w3 ⟨rfl, hc3, f3⟩)
  clear S2
  have f4 : FX (fun b => b = rb.b ∨ b = rc.b) w w3 := K.out.2.trans (f3.mono (fun k e => .inr e))
  have T2 := K.out.1.frame (w' := w3) (fun x hx => f3.block _ (by
    simp at hx
    rcases hx with hx | rfl | hx
    · exact (NL.out x hx).2
    · exact hbc
    · exact (NM.out x hx).2))
  have T3 := TT.top hc3 T2 ((TR.out _ f4).up (Nat.le_succ h))
  have KK : Hid (∀ e, e = .returned (pv (some rc.b)) → TPost (fun b => b = rb.b ∨ b = rc.b) w (L ++ rb :: (M ++ rc :: R)) e w3) := fun e he => ⟨some rc.b, _, _, _, he, by simpa using T3, f4⟩
  clear f4 T2 T3 hc3 f3
  go_wp2_with fail
  go_ret
  exact KK.out _ rfl
set_option maxRecDepth 100000 in
set_option maxHeartbeats 1000000 in
theorem turnRight24 {w : World} {rb rc : Rw} {m1 h1 m2 h2 : Int} {pl pm pr : Option Nat} (hb : w.heap[rb.b]? = some (ndC rb m1 h1 (some rc.b) pr)) (hc : w.heap[rc.b]? = some (ndC rc m2 h2 pl pm)) {h : Nat} {ml mm mr hl hm hr : Int} {L M R : List Rw} (tl : TT w h none pl ml hl L) (tm : TT w h none pm mm hm M) (tr : TT w h none pr mr hr R) (hs : Srt (L ++ rc :: (M ++ rb :: R))) (len : (L ++ rc :: (M ++ rb :: R)).length ≤ 4000000000) : Calls Try.prog 62 #[.pointer (some ⟨rb.b, 0, none⟩)] w (TPost (fun b => b = rb.b ∨ b = rc.b) w (L ++ rc :: (M ++ rb :: R))) := by
  obtain ⟨s1, s2, s3, s4, s5⟩ := hs.mid
  obtain ⟨s6, s7, s8, s9, s10⟩ := s2.mid
  have hbc : rb.b ≠ rc.b := node_ne hb hc (by have := s4 rb (by simp); omega)
  have nL : ∀ x ∈ L, x.b ≠ rb.b ∧ x.b ≠ rc.b := fun x hx => ⟨tl.ne hb hx (by have := s5 x hx rb (by simp); omega), tl.ne hc hx (by have := s3 x hx; omega)⟩
  have nM : ∀ x ∈ M, x.b ≠ rb.b ∧ x.b ≠ rc.b := fun x hx => ⟨tm.ne hb hx (by have := s8 x hx; omega), tm.ne hc hx (by have := s4 x (by simp [hx]); omega)⟩
  have nR : ∀ x ∈ R, x.b ≠ rb.b ∧ x.b ≠ rc.b := fun x hx => ⟨tr.ne hb hx (by have := s9 x hx; omega), tr.ne hc hx (by have := s4 x (by simp [hx]); omega)⟩
  simp at len
  have TL : Hid (∀ W, FX (fun b => b = rb.b ∨ b = rc.b) w W → TT W h none pl ml hl L) := fun W k => tl.frame (fun x hx => k.block _ (by have := nL x hx; omega))
  have TM : Hid (∀ W, FX (fun b => b = rb.b ∨ b = rc.b) w W → TT W h none pm mm hm M) := fun W k => tm.frame (fun x hx => k.block _ (by have := nM x hx; omega))
  have TR : Hid (∀ W, FX (fun b => b = rb.b ∨ b = rc.b) w W → TT W h none pr mr hr R) := fun W k => tr.frame (fun x hx => k.block _ (by have := nR x hx; omega))
  have HB : Hid (w.heap[rb.b]? = some (ndC rb m1 h1 (some rc.b) pr)) := hb
  have HC : Hid (w.heap[rc.b]? = some (ndC rc m2 h2 pl pm)) := hc
  have NL : Hid (∀ x ∈ L, x.b ≠ rb.b ∧ x.b ≠ rc.b) := nL
  have NM : Hid (∀ x ∈ M, x.b ≠ rb.b ∧ x.b ≠ rc.b) := nM
  have NR : Hid (∀ x ∈ R, x.b ≠ rb.b ∧ x.b ≠ rc.b) := nR
  have HS : Hid (L.length ≤ 4000000000 ∧ M.length ≤ 4000000000 ∧ R.length ≤ 4000000000 ∧ (M ++ rb :: R).length ≤ 4000000000) := ⟨by omega, by omega, by omega, by simp; omega⟩
  obtain ⟨-, -, -, -, -, cb5, cb6, fb, lb⟩ := nd_cells hb
  obtain ⟨-, -, -, -, -, cc5, cc6, fc, lc⟩ := nd_cells hc
  replace cb5 : w.cell? ⟨rb.b, 5, none⟩ = some (.pointer (some ⟨rc.b, 0, none⟩)) := cb5
  clear hb hc s1 s2 s3 s4 s5 s6 s7 s8 s9 s10 nL nM nR tl tm tr hs len
  go_enter Try.func62, Try.ntmps62
  go_upto_region 3 with fail
  have H2 : Hid (((w.setCell ⟨rb.b, 5, none⟩ (pv pm)).setCell ⟨rc.b, 6, none⟩ (.pointer (some ⟨rb.b, 0, none⟩))).heap[rb.b]? = some (ndC rb m1 h1 pm pr) ∧ ((w.setCell ⟨rb.b, 5, none⟩ (pv pm)).setCell ⟨rc.b, 6, none⟩ (.pointer (some ⟨rb.b, 0, none⟩))).heap[rc.b]? = some (ndC rc m2 h2 pl (some rb.b)) ∧ FX (fun b => b = rb.b ∨ b = rc.b) w ((w.setCell ⟨rb.b, 5, none⟩ (pv pm)).setCell ⟨rc.b, 6, none⟩ (.pointer (some ⟨rb.b, 0, none⟩)))) := by
    refine ⟨(Below.heap_setCell _ ⟨rc.b, 6, none⟩ _ _ hbc).trans (nd_set5 HB.out pm), nd_set6 (p := some rb.b) ((Below.heap_setCell _ ⟨rb.b, 5, none⟩ _ _ (Ne.symm hbc)).trans HC.out), ?_⟩
    exact ((FX.refl (fun b => b = rb.b ∨ b = rc.b) w).setCell (p := ⟨rb.b, 5, none⟩) (.inl rfl) _).setCell (p := ⟨rc.b, 6, none⟩) (.inr rfl) _
  generalize (w.setCell ⟨rb.b, 5, none⟩ (pv pm)).setCell ⟨rc.b, 6, none⟩ (.pointer (some ⟨rb.b, 0, none⟩)) = wv at *
  clear cb5 cb6 fb lb cc5 cc6 fc lc
  have S1 := settle21 H2.out.1 (TM.out _ H2.out.2.2) (TR.out _ H2.out.2.2) (fun x hx => (NM.out x hx).1) (fun x hx => (NR.out x hx).1) HS.out.2.1 HS.out.2.2.1
  go_upto_region 4 with (go_at_call 59; refine S1.mono ?_; rintro e w2 ⟨rfl, hb2, f2⟩)
  have f3 : FX (fun b => b = rb.b ∨ b = rc.b) w w2 := H2.out.2.2.trans (f2.mono (fun k e => .inl e))
  have hc2 := (f2.block rc.b (Ne.symm hbc)).trans H2.out.2.1
  have T1 := TT.top hb2 (TM.out _ f3) (TR.out _ f3)
  have S2 := settle21 hc2 (TL.out _ f3) T1 (fun x hx => (NL.out x hx).2) (fun x hx => by
    simp at hx
    rcases hx with hx | rfl | hx
    · exact (NM.out x hx).2
    · exact hbc
    · exact (NR.out x hx).2) HS.out.1 HS.out.2.2.2
  have K : Hid (TT w2 (h + 1) none (some rb.b) (max rb.g (max mm mr)) (1 + max hm hr) (M ++ rb :: R) ∧ FX (fun b => b = rb.b ∨ b = rc.b) w w2) := ⟨T1, f3⟩
  clear S1 H2 hb2 f2 f3 hc2 T1
  go_upto_region 5 with (go_at_call 59; refine S2.mono ?_; rintro e w3 ⟨rfl, hc3, f3⟩)
  clear S2
  have f4 : FX (fun b => b = rb.b ∨ b = rc.b) w w3 := K.out.2.trans (f3.mono (fun k e => .inr e))
  have T2 := K.out.1.frame (w' := w3) (fun x hx => f3.block _ (by
    simp at hx
    rcases hx with hx | rfl | hx
    · exact (NM.out x hx).2
    · exact hbc
    · exact (NR.out x hx).2))
  have T3 := TT.top hc3 ((TL.out _ f4).up (Nat.le_succ h)) T2
  have KK : Hid (∀ e, e = .returned (pv (some rc.b)) → TPost (fun b => b = rb.b ∨ b = rc.b) w (L ++ rc :: (M ++ rb :: R)) e w3) := fun e he => ⟨some rc.b, _, _, _, he, T3, f4⟩
  clear f4 T2 T3 hc3 f3
  go_wp2_with fail
  go_ret
  exact KK.out _ rfl
end Go.Proofs.Ytpoepbmomfohlaa
