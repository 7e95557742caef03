/- The blocks of the heap's tree, held against a heap of words. -/
import Derived.Test.YtohhmcpaajcplaaTri
import Derived.Test.YtohhmcpaajcplaaHpa
namespace Go.Proofs.Ytohhmcpaajcplaa
open Go.RowKit
set_option linter.all false
def bsOf : List Rw → List (Int × Int)
  | [] => []
  | [_] => []
  | x :: y :: r => (x.a + 1, x.s) :: bsOf (y :: r)
/-- One behind the other from s on, up to the end. -/
def CH (N : Int) : Int → List Rw → Prop
  | _, [] => False
  | s, [x] => x.a = s + x.g ∧ 0 ≤ x.g ∧ x.s = 0 ∧ x.a = N
  | s, x :: y :: r => x.a = s + x.g ∧ 0 ≤ x.g ∧ 1 ≤ x.s ∧ CH N (x.a + x.s) (y :: r)
theorem bsOf_len : ∀ {xs : List Rw}, xs ≠ [] → (bsOf xs).length + 1 = xs.length
  | [], h => absurd rfl h
  | [_], _ => rfl
  | x :: y :: r, _ => by
    have := bsOf_len (xs := y :: r) (by simp)
    simp only [bsOf, List.length_cons] at this ⊢
    omega
theorem CH.ne {N s : Int} : ∀ {xs : List Rw}, CH N s xs → xs ≠ []
  | [], h => absurd h (by simp [CH])
  | _ :: _, _ => by simp
theorem CH.hok {N : Int} : ∀ {xs : List Rw} {s : Int}, CH N s xs → HOK N (s + 1) (bsOf xs)
  | [], _, h => absurd h (by simp [CH])
  | [x], s, ⟨h1, h2, h3, h4⟩ => by show s + 1 ≤ N + 1; omega
  | x :: y :: r, s, ⟨h1, h2, h3, h4⟩ => by
    have := CH.hok h4
    refine ⟨by omega, h3, ?_⟩
    rw [show x.a + 1 + x.s = x.a + x.s + 1 by omega]
    exact this
theorem CH.all {N : Int} : ∀ {xs : List Rw} {s : Int}, CH N s xs → Srt xs ∧ s ≤ N ∧ ∀ x ∈ xs, s ≤ x.a - x.g ∧ 0 ≤ x.g ∧ x.a ≤ N ∧ 0 ≤ x.s ∧ x.a + x.s ≤ N
  | [], _, h => absurd h (by simp [CH])
  | [x], s, ⟨h1, h2, h3, h4⟩ => by
    refine ⟨List.pairwise_singleton _ _, by omega, fun z hz => ?_⟩
    simp at hz
    subst hz
    omega
  | x :: y :: r, s, ⟨h1, h2, h3, h4⟩ => by
    obtain ⟨i1, i2, i3⟩ := CH.all h4
    refine ⟨List.pairwise_cons.2 ⟨fun z hz => by have := i3 z hz; omega, i1⟩, by omega, fun z hz => ?_⟩
    rcases List.mem_cons.1 hz with rfl | hz
    · omega
    · have := i3 z hz; omega
/-- Where a block goes. -/
theorem CH.fit {N n : Int} {x : Rw} {R : List Rw} : ∀ {L : List Rw} {s : Int}, CH N s (L ++ x :: R) → (∀ y ∈ L, y.g < n) → n ≤ x.g → hfit n (s + 1) (bsOf (L ++ x :: R)) = (L.length, x.a - x.g + 1)
  | [], s, h, _, hx => by
    cases R with
    | nil =>
      obtain ⟨h1, -⟩ := h
      show (0, s + 1) = (0, x.a - x.g + 1)
      rw [show x.a - x.g + 1 = s + 1 by omega]
    | cons z R =>
      obtain ⟨h1, -⟩ := h
      show hfit n (s + 1) ((x.a + 1, x.s) :: _) = _
      unfold hfit
      rw [if_neg (by omega), show x.a - x.g + 1 = s + 1 by omega]
      rfl
  | y :: L, s, h, hL, hx => by
    have hy := hL y (by simp)
    have key : ∀ z zs, L ++ x :: R = z :: zs → hfit n (s + 1) (bsOf (y :: (L ++ x :: R))) = ((y :: L).length, x.a - x.g + 1) := fun z zs e => by
      have h' : CH N s (y :: (L ++ x :: R)) := h
      rw [e] at h'
      obtain ⟨h1, h2, h3, h4⟩ := h'
      rw [← e] at h4
      have ih := CH.fit h4 (fun v hv => hL v (by simp [hv])) hx
      have e2 : bsOf (y :: (L ++ x :: R)) = (y.a + 1, y.s) :: bsOf (L ++ x :: R) := by rw [e]; rfl
      rw [e2]
      unfold hfit
      rw [if_pos (by omega), show y.a + 1 + y.s = y.a + y.s + 1 by omega, ih]
      rfl
    cases hL : L ++ x :: R with
    | nil => simp at hL
    | cons z zs =>
      have := key z zs hL
      rw [hL] at this
      show hfit n (s + 1) (bsOf (y :: (L ++ x :: R))) = _
      rw [hL]
      exact this
theorem CH.nofit {N n : Int} : ∀ {xs : List Rw} {s : Int}, CH N s xs → (∀ x ∈ xs, x.g < n) → N - n + 1 < (hfit n (s + 1) (bsOf xs)).2
  | [], _, h, _ => absurd h (by simp [CH])
  | [x], s, ⟨h1, h2, h3, h4⟩, hx => by
    have := hx x (by simp)
    show N - n + 1 < s + 1
    omega
  | x :: y :: r, s, ⟨h1, h2, h3, h4⟩, hx => by
    have h5 := hx x (by simp)
    have ih := CH.nofit h4 (fun z hz => hx z (by simp at hz ⊢; rcases hz with h | h <;> simp [h]))
    show N - n + 1 < (hfit n (s + 1) ((x.a + 1, x.s) :: bsOf (y :: r))).2
    unfold hfit
    rw [if_pos (by omega), show x.a + 1 + x.s = x.a + x.s + 1 by omega]
    exact ih
theorem bsOf_cons {y : Rw} {xs : List Rw} (h : xs ≠ []) : bsOf (y :: xs) = (y.a + 1, y.s) :: bsOf xs := by
  cases xs with
  | nil => exact absurd rfl h
  | cons z zs => rfl
theorem CH_cons {N s : Int} {y : Rw} {xs : List Rw} (h : xs ≠ []) : CH N s (y :: xs) ↔ (y.a = s + y.g ∧ 0 ≤ y.g ∧ 1 ≤ y.s ∧ CH N (y.a + y.s) xs) := by
  cases xs with
  | nil => exact absurd rfl h
  | cons z zs => exact Iff.rfl
/-- A block more. -/
theorem CH.put {N n : Int} {x : Rw} {R : List Rw} (nb : Nat) (hn : 1 ≤ n) (hx : n ≤ x.g) : ∀ {L : List Rw} {s : Int}, CH N s (L ++ x :: R) → CH N s (L ++ ⟨nb, x.a - x.g, n, 0⟩ :: { x with g := x.g - n } :: R) ∧ bsOf (L ++ ⟨nb, x.a - x.g, n, 0⟩ :: { x with g := x.g - n } :: R) = (bsOf (L ++ x :: R)).take L.length ++ (x.a - x.g + 1, n) :: (bsOf (L ++ x :: R)).drop L.length
  | [], s, h => by
    cases R with
    | nil =>
      obtain ⟨h1, h2, h3, h4⟩ := h
      refine ⟨⟨?_, Int.le_refl _, hn, ?_, ?_, h3, h4⟩, rfl⟩
      · show x.a - x.g = s + 0; omega
      · show x.a = x.a - x.g + n + (x.g - n); omega
      · show 0 ≤ x.g - n; omega
    | cons z R =>
      obtain ⟨h1, h2, h3, h4⟩ := h
      refine ⟨⟨?_, Int.le_refl _, hn, ?_, ?_, h3, h4⟩, rfl⟩
      · show x.a - x.g = s + 0; omega
      · show x.a = x.a - x.g + n + (x.g - n); omega
      · show 0 ≤ x.g - n; omega
  | y :: L, s, h => by
    have h' := (CH_cons (by simp)).1 (show CH N s (y :: (L ++ x :: R)) from h)
    obtain ⟨i1, i2⟩ := CH.put nb hn hx h'.2.2.2
    refine ⟨(CH_cons (by simp)).2 ⟨h'.1, h'.2.1, h'.2.2.1, i1⟩, ?_⟩
    rw [List.cons_append, List.cons_append, bsOf_cons (by simp), bsOf_cons (by simp), i2]
    rfl
/-- A block less. -/
theorem CH.del {N : Int} {x y : Rw} {R : List Rw} : ∀ {L : List Rw} {s : Int}, CH N s (L ++ x :: y :: R) → CH N s (L ++ { y with g := y.g + (x.g + x.s) } :: R) ∧ bsOf (L ++ { y with g := y.g + (x.g + x.s) } :: R) = (bsOf (L ++ x :: y :: R)).take L.length ++ (bsOf (L ++ x :: y :: R)).drop (L.length + 1) ∧ (bsOf (L ++ x :: y :: R))[L.length]? = some (x.a + 1, x.s)
  | [], s, h => by
    obtain ⟨h1, h2, h3, h4⟩ := h
    cases R with
    | nil =>
      obtain ⟨k1, k2, k3, k4⟩ := h4
      refine ⟨⟨?_, ?_, k3, k4⟩, rfl, rfl⟩
      · show y.a = s + (y.g + (x.g + x.s)); omega
      · show 0 ≤ y.g + (x.g + x.s); omega
    | cons z R =>
      obtain ⟨k1, k2, k3, k4⟩ := h4
      refine ⟨⟨?_, ?_, k3, k4⟩, rfl, rfl⟩
      · show y.a = s + (y.g + (x.g + x.s)); omega
      · show 0 ≤ y.g + (x.g + x.s); omega
  | v :: L, s, h => by
    have h' := (CH_cons (by simp)).1 (show CH N s (v :: (L ++ x :: y :: R)) from h)
    obtain ⟨i1, i2, i3⟩ := CH.del h'.2.2.2
    refine ⟨(CH_cons (by simp)).2 ⟨h'.1, h'.2.1, h'.2.2.1, i1⟩, ?_, ?_⟩
    · rw [List.cons_append, List.cons_append, bsOf_cons (by simp), bsOf_cons (by simp), i2]
      rfl
    · show (bsOf (v :: (L ++ x :: y :: R)))[(v :: L).length]? = _
      rw [bsOf_cons (by simp)]
      simpa using i3
/-- Another gap ahead of a block that is on the way to a. -/
theorem TT.poke {a g : Int} {x : Rw} (hx : a < x.a) : ∀ {h : Nat} {w : World} {p : Option Nat} {m ht : Int} {L R : List Rw}, TT w h none p m ht (L ++ x :: R) → Srt (L ++ x :: R) → (∀ y ∈ L, y.a ≤ a) → TT (w.setCell ⟨x.b, 2, none⟩ (.int .i64 g)) h (some a) p m ht (L ++ { x with g := g } :: R) := by
  intro h
  induction h with
  | zero => intro w p m ht L R t; obtain ⟨-, -, -, h1⟩ := t; simp at h1
  | succ h ih =>
    intro w p m ht L R t hs hL
    obtain ⟨b, rfl⟩ := t.some_of (by simp)
    obtain ⟨k, r, pl, pr, ml, mr, hl, hr, LL, RR, e0, rfl, hb, tl, tr, e, eh, -⟩ := t.out
    obtain rfl : h = k := by omega
    have tl : TT w h none pl ml hl LL := tl
    have tr : TT w h none pr mr hr RR := tr
    obtain ⟨mx, hx', px, qx, hxc⟩ := t.row x (by simp)
    have fr : ∀ {h' : Nat} {p' : Option Nat} {m' ht' : Int} {zs : List Rw}, TT w h' none p' m' ht' zs → (∀ z ∈ zs, z.a ≠ x.a) → TT (w.setCell ⟨x.b, 2, none⟩ (.int .i64 g)) h' none p' m' ht' zs := fun t' hz => t'.frame (fun z hz' => Below.heap_setCell _ ⟨x.b, 2, none⟩ _ _ (t'.ne hxc hz' (hz z hz')))
    have hs2 := hs
    rw [e] at hs2
    obtain ⟨s1, s2, s3, s4, s5⟩ := hs2.mid
    rcases Int.lt_trichotomy x.a r.a with hlt | heq | hgt
    · obtain ⟨R1, hLL, rfl⟩ := split_right (L := L ++ [x]) (R := R) (by simpa using e) (fun hm => by
        simp at hm
        rcases hm with hm | rfl
        · have := hs.mid.2.2.1 r hm; omega
        · omega)
      have hLL : LL = L ++ x :: R1 := by simpa using hLL
      subst hLL
      have t1 := ih tl s1 hL
      have t2 := fr tr (fun z hz => by have := s4 z hz; omega)
      have hb2 := (Below.heap_setCell w ⟨x.b, 2, none⟩ (.int .i64 g) r.b (Ne.symm (tl.ne hb (by simp) (by omega)))).trans hb
      refine .inr ⟨r, pl, pr, ml, mr, hl, hr, L ++ { x with g := g } :: R1, RR, rfl, hb2, ?_, ?_, by simp, eh, fun hh => by simp at hh⟩
      · simp only [dl, if_pos (show a < r.a by omega)]; exact t1
      · simp only [dr, if_pos (show a < r.a by omega)]; exact t2
    · obtain ⟨rfl, rfl, rfl⟩ := split_same e hs heq
      have t1 := fr tl (fun z hz => by have := s3 z hz; omega)
      have t2 := fr tr (fun z hz => by have := s4 z hz; omega)
      have hb2 := nd_set2 hb g
      refine .inr ⟨{ x with g := g }, pl, pr, ml, mr, hl, hr, L, R, rfl, hb2, t1.weak _, t2.weak _, rfl, eh, fun hh => by simp at hh⟩
    · obtain ⟨L1, rfl, rfl⟩ := split_left (L := L) (R := x :: R) e (fun hm => by
        simp at hm
        rcases hm with rfl | hm
        · omega
        · have := hs.mid.2.2.2.1 r hm; omega)
      have hra := hL r (by simp)
      have t1 := fr tl (fun z hz => by have := s3 z hz; omega)
      have t2 := ih tr s2 (fun z hz => hL z (by simp [hz]))
      have hb2 := (Below.heap_setCell w ⟨x.b, 2, none⟩ (.int .i64 g) r.b (Ne.symm (tr.ne hb (by simp) (by omega)))).trans hb
      refine .inr ⟨r, pl, pr, ml, mr, hl, hr, LL, L1 ++ { x with g := g } :: R, rfl, hb2, ?_, ?_, by simp, eh, fun hh => by simp at hh⟩
      · simp only [dl, if_neg (show ¬ a < r.a by omega)]; exact t1
      · simp only [dr, if_neg (show ¬ a < r.a by omega)]; exact t2
end Go.Proofs.Ytohhmcpaajcplaa
