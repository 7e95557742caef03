/- A heap of words: its blocks, in the order of their places. -/
import Derived.Test.YtohhmcpaajcplaaMba
namespace Go.Proofs.Ytohhmcpaajcplaa
open Go.RowKit
set_option linter.all false
/-- Blocks from a place on, up to the heap's end: none has less than one word, each lies behind the one ahead of it. -/
def HOK (size : Int) : Int → List (Int × Int) → Prop
  | lo, [] => lo ≤ size + 1
  | lo, (a, s) :: r => lo ≤ a ∧ 1 ≤ s ∧ HOK size (a + s) r
/-- Where a block of n words goes: behind how many blocks, at which place. -/
def hfit (n : Int) : Int → List (Int × Int) → Nat × Int
  | lo, [] => (0, lo)
  | lo, (a, s) :: r => if a - lo < n then ((hfit n (a + s) r).1 + 1, (hfit n (a + s) r).2) else (0, lo)
def halloc (size : Int) (bs : List (Int × Int)) (n : Int) : Option (Int × List (Int × Int)) :=
  if n < 1 ∨ size < n then none else if size - n + 1 < (hfit n 1 bs).2 then none else some ((hfit n 1 bs).2, bs.take (hfit n 1 bs).1 ++ ((hfit n 1 bs).2, n) :: bs.drop (hfit n 1 bs).1)
def hin (at_ : Int) (x : Int × Int) : Prop := x.1 ≤ at_ ∧ at_ < x.1 + x.2
/-- The block that begins at a place, taken away. -/
def hfree (bs : List (Int × Int)) (at_ : Int) : Option (List (Int × Int)) :=
  match bs with
  | [] => none
  | (a, s) :: r => if a = at_ then some r else (hfree r at_).map ((a, s) :: ·)
theorem HOK.mono {size : Int} : ∀ {bs : List (Int × Int)} {lo lo' : Int}, HOK size lo bs → lo' ≤ lo → HOK size lo' bs
  | [], _, _, h, hl => Int.le_trans hl h
  | (_, _) :: _, _, _, ⟨h1, h2, h3⟩, hl => ⟨Int.le_trans hl h1, h2, h3⟩
theorem HOK.end_ {size : Int} : ∀ {bs : List (Int × Int)} {lo : Int}, HOK size lo bs → lo ≤ size + 1
  | [], _, h => h
  | (a, s) :: r, lo, ⟨h1, h2, h3⟩ => by have := HOK.end_ h3; omega
theorem HOK.len {size : Int} : ∀ {bs : List (Int × Int)} {lo : Int}, HOK size lo bs → (bs.length : Int) ≤ size + 1 - lo
  | [], lo, h => by have : lo ≤ size + 1 := h; simp; omega
  | (a, s) :: r, lo, ⟨h1, h2, h3⟩ => by have := HOK.len h3; simp only [List.length_cons]; omega
/-- What is said of a block by its number. -/
theorem HOK.at {size : Int} : ∀ {bs : List (Int × Int)} {lo : Int}, HOK size lo bs → ∀ {i : Nat} {a s : Int}, bs[i]? = some (a, s) → lo ≤ a ∧ 1 ≤ s ∧ a + s ≤ size + 1
  | [], _, _, i, _, _, h => by simp at h
  | (a, s) :: r, lo, ⟨h1, h2, h3⟩, 0, a', s', h => by
    simp at h
    obtain ⟨rfl, rfl⟩ := h
    exact ⟨h1, h2, HOK.end_ h3⟩
  | (a, s) :: r, lo, ⟨h1, h2, h3⟩, i + 1, a', s', h => by
    have := HOK.at h3 (i := i) (by simpa using h)
    exact ⟨by omega, this.2⟩
theorem HOK.lt {size : Int} : ∀ {bs : List (Int × Int)} {lo : Int}, HOK size lo bs → ∀ {i j : Nat} {a s a' s' : Int}, i < j → bs[i]? = some (a, s) → bs[j]? = some (a', s') → a + s ≤ a'
  | [], _, _, i, _, _, _, _, _, _, h, _ => by simp at h
  | (x, y) :: r, lo, ⟨h1, h2, h3⟩, 0, j + 1, a, s, a', s', _, h, h' => by
    simp at h
    obtain ⟨rfl, rfl⟩ := h
    exact (HOK.at h3 (i := j) (by simpa using h')).1
  | (x, y) :: r, lo, ⟨h1, h2, h3⟩, i + 1, j + 1, a, s, a', s', hl, h, h' => HOK.lt h3 (i := i) (j := j) (by omega) (by simpa using h) (by simpa using h')
theorem hfit_le (n : Int) : ∀ (bs : List (Int × Int)) (lo : Int), (hfit n lo bs).1 ≤ bs.length
  | [], _ => Nat.le_refl _
  | (a, s) :: r, lo => by
    unfold hfit
    split
    · have := hfit_le n r (a + s); simp only [List.length_cons]; omega
    · exact Nat.zero_le _
/-- The first k blocks leave no room, the next one does (or there is none): so it is the place. -/
theorem hfit_eq {n : Int} : ∀ {bs : List (Int × Int)} {lo : Int} {k : Nat} {p : Int}, (∀ (i : Nat) a s b, i < k → bs[i]? = some (a, s) → (i = 0 → b = lo) → (∀ a' s', 0 < i → bs[i - 1]? = some (a', s') → b = a' + s') → a - b < n) → k ≤ bs.length → (k = 0 → p = lo) → (∀ a s, 0 < k → bs[k - 1]? = some (a, s) → p = a + s) → (∀ a s, bs[k]? = some (a, s) → ¬ a - p < n) → hfit n lo bs = (k, p)
  | [], lo, k, p, _, hk, h0, _, _ => by
    obtain rfl : k = 0 := by simpa using hk
    rw [h0 rfl]
    rfl
  | (a, s) :: r, lo, 0, p, _, _, h0, _, h4 => by
    obtain rfl := h0 rfl
    have := h4 a s rfl
    unfold hfit
    rw [if_neg this]
  | (a, s) :: r, lo, k + 1, p, h1, hk, _, h3, h4 => by
    have ha : a - lo < n := h1 0 a s lo (by omega) rfl (fun _ => rfl) (fun _ _ h => absurd h (by omega))
    have ih := hfit_eq (bs := r) (lo := a + s) (k := k) (p := p) (fun i a' s' b hi hx hb0 hb1 => by
      refine h1 (i + 1) a' s' b (by omega) (by simpa using hx) (fun h => absurd h (by omega)) (fun a2 s2 _ h2 => ?_)
      rcases Nat.eq_zero_or_pos i with rfl | hp
      · simp at h2
        obtain ⟨rfl, rfl⟩ := h2
        exact hb0 rfl
      · refine hb1 a2 s2 hp ?_
        obtain ⟨i', rfl⟩ : ∃ i', i = i' + 1 := ⟨i - 1, by omega⟩
        simpa using h2) (by simpa using hk) (fun e => by
      subst e
      exact h3 a s (by omega) rfl) (fun a' s' hp hx => h3 a' s' (by omega) (by
        obtain ⟨k', rfl⟩ : ∃ k', k = k' + 1 := ⟨k - 1, by omega⟩
        simpa using hx)) (fun a' s' hx => h4 a' s' (by simpa using hx))
    unfold hfit
    rw [if_pos ha, ih]
theorem HOK.put {size n : Int} (hn : 1 ≤ n) : ∀ {bs : List (Int × Int)} {lo : Int}, HOK size lo bs → (hfit n lo bs).2 ≤ size - n + 1 → HOK size lo (bs.take (hfit n lo bs).1 ++ ((hfit n lo bs).2, n) :: bs.drop (hfit n lo bs).1)
  | [], lo, h, hp => by
    have hp' : lo ≤ size - n + 1 := hp
    exact ⟨Int.le_refl _, hn, show lo + n ≤ size + 1 by omega⟩
  | (a, s) :: r, lo, ⟨h1, h2, h3⟩, hp => by
    unfold hfit at hp ⊢
    split
    · rename_i hc
      rw [if_pos hc] at hp
      exact ⟨h1, h2, HOK.put hn h3 hp⟩
    · rename_i hc
      exact ⟨Int.le_refl _, hn, ⟨by simp; omega, h2, h3⟩⟩
theorem HOK.free {size : Int} : ∀ {bs : List (Int × Int)} {lo at_ : Int} {bs' : List (Int × Int)}, HOK size lo bs → hfree bs at_ = some bs' → HOK size lo bs'
  | [], _, _, _, _, h => by simp [hfree] at h
  | (a, s) :: r, lo, at_, bs', ⟨h1, h2, h3⟩, h => by
    unfold hfree at h
    split at h
    · obtain rfl := Option.some.inj h
      exact h3.mono (by omega)
    · cases hr : hfree r at_ with
      | none => rw [hr] at h; simp at h
      | some r' =>
        rw [hr] at h
        obtain rfl := Option.some.inj h
        exact ⟨h1, h2, HOK.free h3 hr⟩
theorem hfree_at {size : Int} : ∀ {bs : List (Int × Int)} {lo : Int}, HOK size lo bs → ∀ {k : Nat} {a s : Int}, bs[k]? = some (a, s) → hfree bs a = some (bs.take k ++ bs.drop (k + 1))
  | [], _, _, k, _, _, h => by simp at h
  | (x, y) :: r, lo, _, 0, a, s, h => by
    simp at h
    obtain ⟨rfl, rfl⟩ := h
    simp [hfree]
  | (x, y) :: r, lo, h0, k + 1, a, s, h => by
    have hr : r[k]? = some (a, s) := by simpa using h
    have := HOK.lt h0 (i := 0) (j := k + 1) (by omega) rfl h
    have h2 := h0.2.1
    unfold hfree
    rw [if_neg (by omega), hfree_at h0.2.2 hr]
    rfl
theorem hfree_none : ∀ {bs : List (Int × Int)} {at_ : Int}, (∀ x ∈ bs, x.1 ≠ at_) → hfree bs at_ = none
  | [], _, _ => rfl
  | (a, s) :: r, at_, h => by
    unfold hfree
    rw [if_neg (h (a, s) (by simp)), hfree_none (fun x hx => h x (by simp [hx]))]
    rfl
end Go.Proofs.Ytohhmcpaajcplaa
