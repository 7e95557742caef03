/- The heap's tree in memory: its blocks in order. -/
import Derived.Test.YtohhmcpaajcplaaMba
namespace Go.Proofs.Ytohhmcpaajcplaa
open Go.RowKit
set_option linter.all false
/-- A block: where it lies in memory; its first word, its size, the gap ahead of it. -/
structure Rw where
  b : Nat
  a : Int
  s : Int
  g : Int
abbrev pv (p : Option Nat) : Value := .pointer (p.map fun b => ⟨b, 0, none⟩)
abbrev ndC (r : Rw) (m ht : Int) (pl pr : Option Nat) : Obj := .cells #[.int .i64 r.a, .int .i64 r.s, .int .i64 r.g, .int .i64 m, .int .i64 ht, pv pl, pv pr] 41 (0, 0)
def dl : Option Int → Int → Option Int
  | none, _ => none
  | some x, a => if x < a then some x else none
def dr : Option Int → Int → Option Int
  | none, _ => none
  | some x, a => if x < a then none else some x
/-- A tree of height h at most, with its blocks in order; d: a word on whose way down the widest gaps may not be known. -/
def TT (w : World) : Nat → Option Int → Option Nat → Int → Int → List Rw → Prop
  | 0, _, p, m, ht, xs => p = none ∧ m = 0 ∧ ht = 0 ∧ xs = []
  | h + 1, d, p, m, ht, xs => (p = none ∧ m = 0 ∧ ht = 0 ∧ xs = []) ∨ ∃ (r : Rw) (pl pr : Option Nat) (ml mr hl hr : Int) (L R : List Rw), p = some r.b ∧ w.heap[r.b]? = some (ndC r m ht pl pr) ∧ TT w h (dl d r.a) pl ml hl L ∧ TT w h (dr d r.a) pr mr hr R ∧ xs = L ++ r :: R ∧ ht = 1 + max hl hr ∧ (d = none → m = max r.g (max ml mr))
/-- In order. -/
def Srt (xs : List Rw) : Prop := xs.Pairwise (fun x y => x.a < y.a)
section
variable {w w' : World} {h : Nat} {d : Option Int} {p : Option Nat} {m ht : Int} {xs : List Rw}
theorem TT.nil (w : World) (h : Nat) (d : Option Int) : TT w h d none 0 0 [] := by
  cases h with
  | zero => exact ⟨rfl, rfl, rfl, rfl⟩
  | succ h => exact .inl ⟨rfl, rfl, rfl, rfl⟩
theorem TT.frame (t : TT w h d p m ht xs) (k : ∀ r ∈ xs, w'.heap[r.b]? = w.heap[r.b]?) : TT w' h d p m ht xs := by
  induction h generalizing d p m ht xs with
  | zero => exact t
  | succ h ih =>
    rcases t with t | ⟨r, pl, pr, ml, mr, hl, hr, L, R, e1, e2, e3, e4, e5, e6, e7⟩
    · exact .inl t
    · subst e5
      exact .inr ⟨r, pl, pr, ml, mr, hl, hr, L, R, e1, (k r (by simp)).trans e2, ih e3 (fun x hx => k x (by simp [hx])), ih e4 (fun x hx => k x (by simp [hx])), rfl, e6, e7⟩
theorem TT.up (t : TT w h d p m ht xs) {h' : Nat} (hh : h ≤ h') : TT w h' d p m ht xs := by
  induction h generalizing d p m ht xs h' with
  | zero =>
    obtain ⟨rfl, rfl, rfl, rfl⟩ := t
    exact TT.nil _ _ _
  | succ h ih =>
    obtain ⟨k, rfl⟩ : ∃ k, h' = k + 1 := ⟨h' - 1, by omega⟩
    rcases t with t | ⟨r, pl, pr, ml, mr, hl, hr, L, R, e1, e2, e3, e4, e5, e6, e7⟩
    · exact .inl t
    · exact .inr ⟨r, pl, pr, ml, mr, hl, hr, L, R, e1, e2, ih e3 (by omega), ih e4 (by omega), e5, e6, e7⟩
/-- Whatever may not be known. -/
theorem TT.weak (t : TT w h none p m ht xs) (d : Option Int) : TT w h d p m ht xs := by
  induction h generalizing d p m ht xs with
  | zero => exact t
  | succ h ih =>
    rcases t with t | ⟨r, pl, pr, ml, mr, hl, hr, L, R, e1, e2, e3, e4, e5, e6, e7⟩
    · exact .inl t
    · exact .inr ⟨r, pl, pr, ml, mr, hl, hr, L, R, e1, e2, ih e3 _, ih e4 _, e5, e6, fun _ => e7 rfl⟩
theorem TT.none_iff (t : TT w h d p m ht xs) : p = none ↔ xs = [] := by
  cases h with
  | zero => obtain ⟨rfl, _, _, rfl⟩ := t; simp
  | succ h =>
    rcases t with ⟨rfl, _, _, rfl⟩ | ⟨r, pl, pr, ml, mr, hl, hr, L, R, e1, e2, e3, e4, e5, e6, e7⟩
    · simp
    · simp [e1, e5]
theorem TT.of_none (t : TT w h d none m ht xs) : m = 0 ∧ ht = 0 ∧ xs = [] := by
  cases h with
  | zero => obtain ⟨_, h1, h2, h3⟩ := t; exact ⟨h1, h2, h3⟩
  | succ h =>
    rcases t with ⟨_, h1, h2, h3⟩ | ⟨r, pl, pr, ml, mr, hl, hr, L, R, e1, e2, e3, e4, e5, e6, e7⟩
    · exact ⟨h1, h2, h3⟩
    · simp at e1
theorem TT.tall (t : TT w h d p m ht xs) : 0 ≤ ht ∧ ht ≤ xs.length := by
  induction h generalizing d p m ht xs with
  | zero => obtain ⟨_, _, rfl, rfl⟩ := t; simp
  | succ h ih =>
    rcases t with ⟨_, _, rfl, rfl⟩ | ⟨r, pl, pr, ml, mr, hl, hr, L, R, e1, e2, e3, e4, e5, e6, e7⟩
    · simp
    · have h1 := ih e3
      have h2 := ih e4
      subst e5
      simp
      omega
theorem TT.some_tall {b : Nat} (t : TT w h d (some b) m ht xs) : 1 ≤ ht := by
  cases h with
  | zero => obtain ⟨h1, _⟩ := t; simp at h1
  | succ h =>
    rcases t with ⟨h1, _⟩ | ⟨r, pl, pr, ml, mr, hl, hr, L, R, e1, e2, e3, e4, e5, e6, e7⟩
    · simp at h1
    · have h1 := e3.tall
      have h2 := e4.tall
      omega
/-- A tree that is one. -/
theorem TT.out {b : Nat} (t : TT w h d (some b) m ht xs) : ∃ (k : Nat) (r : Rw) (pl pr : Option Nat) (ml mr hl hr : Int) (L R : List Rw), h = k + 1 ∧ b = r.b ∧ w.heap[r.b]? = some (ndC r m ht pl pr) ∧ TT w k (dl d r.a) pl ml hl L ∧ TT w k (dr d r.a) pr mr hr R ∧ xs = L ++ r :: R ∧ ht = 1 + max hl hr ∧ (d = none → m = max r.g (max ml mr)) := by
  cases h with
  | zero => obtain ⟨h1, _⟩ := t; simp at h1
  | succ h =>
    rcases t with ⟨h1, _⟩ | ⟨r, pl, pr, ml, mr, hl, hr, L, R, e1, e2⟩
    · simp at h1
    · exact ⟨h, r, pl, pr, ml, mr, hl, hr, L, R, rfl, by simpa using e1, e2⟩
theorem TT.of_tall (t : TT w h d p m ht xs) (h1 : 0 < ht) : ∃ b, p = some b := by
  cases p with
  | none => have := t.of_none; omega
  | some b => exact ⟨b, rfl⟩
theorem TT.row (t : TT w h d p m ht xs) : ∀ r ∈ xs, ∃ m' ht' pl pr, w.heap[r.b]? = some (ndC r m' ht' pl pr) := by
  induction h generalizing d p m ht xs with
  | zero => obtain ⟨_, _, _, rfl⟩ := t; simp
  | succ h ih =>
    rcases t with ⟨_, _, _, rfl⟩ | ⟨r, pl, pr, ml, mr, hl, hr, L, R, e1, e2, e3, e4, rfl, e6, e7⟩
    · simp
    · intro x hx
      simp at hx
      rcases hx with hx | rfl | hx
      · exact ih e3 x hx
      · exact ⟨_, _, _, _, e2⟩
      · exact ih e4 x hx
/-- The widest gap. -/
theorem TT.most (t : TT w h none p m ht xs) (hg : ∀ r ∈ xs, 0 ≤ r.g) : 0 ≤ m ∧ (∀ r ∈ xs, r.g ≤ m) ∧ (m = 0 ∨ ∃ r ∈ xs, r.g = m) := by
  induction h generalizing p m ht xs with
  | zero => obtain ⟨_, rfl, _, rfl⟩ := t; simp
  | succ h ih =>
    rcases t with ⟨_, rfl, _, rfl⟩ | ⟨r, pl, pr, ml, mr, hl, hr, L, R, e1, e2, e3, e4, rfl, e6, e7⟩
    · simp
    · have h1 := ih e3 (fun x hx => hg x (by simp [hx]))
      have h2 := ih e4 (fun x hx => hg x (by simp [hx]))
      have h3 := e7 rfl
      have h4 := hg r (by simp)
      refine ⟨by omega, fun x hx => ?_, ?_⟩
      · simp at hx
        rcases hx with hx | rfl | hx
        · have := h1.2.1 x hx; omega
        · omega
        · have := h2.2.1 x hx; omega
      · rcases h1.2.2 with a | ⟨x, hx, a⟩ <;> rcases h2.2.2 with b | ⟨y, hy, b⟩
        · exact .inr ⟨r, by simp, by omega⟩
        · by_cases c : r.g ≤ y.g
          · exact .inr ⟨y, by simp [hy], by omega⟩
          · exact .inr ⟨r, by simp, by omega⟩
        · by_cases c : r.g ≤ x.g
          · exact .inr ⟨x, by simp [hx], by omega⟩
          · exact .inr ⟨r, by simp, by omega⟩
        · by_cases c : r.g ≤ x.g
          · by_cases c2 : x.g ≤ y.g
            · exact .inr ⟨y, by simp [hy], by omega⟩
            · exact .inr ⟨x, by simp [hx], by omega⟩
          · by_cases c2 : r.g ≤ y.g
            · exact .inr ⟨y, by simp [hy], by omega⟩
            · exact .inr ⟨r, by simp, by omega⟩
end
theorem ndC_inj {r r' : Rw} {m m' ht ht' : Int} {pl pl' pr pr' : Option Nat} (h : ndC r m ht pl pr = ndC r' m' ht' pl' pr') : r.a = r'.a ∧ r.s = r'.s ∧ r.g = r'.g := by
  unfold ndC at h
  simp at h
  exact ⟨h.1, h.2.1, h.2.2.1⟩
/-- Blocks that begin elsewhere lie elsewhere. -/
theorem node_ne {w : World} {r r' : Rw} {m m' ht ht' : Int} {pl pl' pr pr' : Option Nat} (h : w.heap[r.b]? = some (ndC r m ht pl pr)) (h' : w.heap[r'.b]? = some (ndC r' m' ht' pl' pr')) (ha : r.a ≠ r'.a) : r.b ≠ r'.b := fun e => by
  rw [e, h'] at h
  exact ha (ndC_inj (Option.some.inj h)).1.symm
theorem TT.ne {w : World} {h : Nat} {d : Option Int} {p : Option Nat} {m ht : Int} {xs : List Rw} (t : TT w h d p m ht xs) {r : Rw} {m' ht' : Int} {pl pr : Option Nat} (hr : w.heap[r.b]? = some (ndC r m' ht' pl pr)) {x : Rw} (hx : x ∈ xs) (ha : x.a ≠ r.a) : x.b ≠ r.b := by
  obtain ⟨_, _, _, _, h1⟩ := t.row x hx
  exact node_ne h1 hr ha
theorem TT.ne2 {w : World} {h : Nat} {d : Option Int} {p : Option Nat} {m ht : Int} {xs : List Rw} (t : TT w h d p m ht xs) {h' : Nat} {d' : Option Int} {p' : Option Nat} {m' ht' : Int} {ys : List Rw} (t' : TT w h' d' p' m' ht' ys) {x y : Rw} (hx : x ∈ xs) (hy : y ∈ ys) (ha : x.a ≠ y.a) : x.b ≠ y.b := by
  obtain ⟨_, _, _, _, h1⟩ := t'.row y hy
  exact t.ne h1 hx ha
theorem Srt.mid {L R : List Rw} {r : Rw} (h : Srt (L ++ r :: R)) : Srt L ∧ Srt R ∧ (∀ x ∈ L, x.a < r.a) ∧ (∀ x ∈ R, r.a < x.a) ∧ (∀ x ∈ L, ∀ y ∈ R, x.a < y.a) := by
  unfold Srt at h
  rw [List.pairwise_append] at h
  obtain ⟨h1, h2, h3⟩ := h
  rw [List.pairwise_cons] at h2
  exact ⟨h1, h2.2, fun x hx => h3 x hx r (by simp), h2.1, fun x hx y hy => h3 x hx y (by simp [hy])⟩
theorem Srt.mk {L R : List Rw} {r : Rw} (h1 : Srt L) (h2 : Srt R) (h3 : ∀ x ∈ L, x.a < r.a) (h4 : ∀ x ∈ R, r.a < x.a) : Srt (L ++ r :: R) := by
  unfold Srt
  rw [List.pairwise_append]
  refine ⟨h1, by rw [List.pairwise_cons]; exact ⟨h4, h2⟩, fun x hx y hy => ?_⟩
  rcases List.mem_cons.1 hy with rfl | hy
  · exact h3 x hx
  · have := h3 x hx; have := h4 y hy; omega
/-- All blocks of memory but some are as they were; none is new. -/
structure FX (X : Nat → Prop) (w w' : World) : Prop where
  os : w'.os = w.os
  tape : w'.tape = w.tape
  output : w'.output = w.output
  size : w'.heap.size = w.heap.size
  block : ∀ k, ¬ X k → w'.heap[k]? = w.heap[k]?
section
variable {X X' : Nat → Prop} {a w w' : World}
theorem FX.refl (X : Nat → Prop) (w : World) : FX X w w := ⟨rfl, rfl, rfl, rfl, fun _ _ => rfl⟩
theorem FX.trans (h : FX X a w) (k : FX X w w') : FX X a w' := ⟨k.os.trans h.os, k.tape.trans h.tape, k.output.trans h.output, k.size.trans h.size, fun i hn => (k.block i hn).trans (h.block i hn)⟩
theorem FX.mono (h : FX X w w') (hX : ∀ k, X k → X' k) : FX X' w w' := ⟨h.os, h.tape, h.output, h.size, fun k hn => h.block k (fun hx => hn (hX k hx))⟩
theorem FX.drew (h : FX X a w) : FX X a w.drew := ⟨h.os, h.tape, h.output, h.size, h.block⟩
theorem FX.drewN (h : FX X a w) (m : Nat) : FX X a (w.drewN m) := ⟨h.os, h.tape, h.output, h.size, h.block⟩
theorem FX.setCell (h : FX X a w) {p : Addr} (hp : X p.block) (u : Value) : FX X a (w.setCell p u) :=
  ⟨h.os, h.tape, h.output, by simpa using h.size, fun k hn => by
    have e : k ≠ p.block := fun e => hn (e ▸ hp)
    exact (Below.heap_setCell _ _ _ _ e).trans (h.block k hn)⟩
end
end Go.Proofs.Ytohhmcpaajcplaa
