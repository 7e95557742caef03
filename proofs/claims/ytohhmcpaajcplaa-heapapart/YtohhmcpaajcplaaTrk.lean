/- The heap in memory: New, Count, Has. -/
import Derived.Test.YtohhmcpaajcplaaTrj
namespace Go.Proofs.Ytohhmcpaajcplaa
open Go.RowKit
set_option linter.all false
/-- The heap in memory. -/
def HM (w : World) (base hb : Nat) (N : Int) (bs : List (Int × Int)) : Prop := ∃ (p : Option Nat) (h : Nat) (m ht : Int) (xs : List Rw), w.heap[hb]? = some (.cells #[pv p, .int .i64 (bs.length : Int)] 38 (0, 0)) ∧ TT w h none p m ht xs ∧ CH N 0 xs ∧ bs = bsOf xs ∧ N ≤ 3000000000 ∧ base ≤ hb ∧ ∀ x ∈ xs, base ≤ x.b
theorem CH.before {N : Int} {x : Rw} {R : List Rw} : ∀ {L : List Rw} {s : Int}, CH N s (L ++ x :: R) → ∀ y ∈ L, y.a + y.s ≤ x.a - x.g ∧ 1 ≤ y.s
  | [], _, _, y, hy => by simp at hy
  | v :: L, s, h, y, hy => by
    have h' := (CH_cons (by simp)).1 (show CH N s (v :: (L ++ x :: R)) from h)
    rcases List.mem_cons.1 hy with rfl | hy
    · have := h'.2.2.2.all.2.2 x (by simp)
      exact ⟨by omega, h'.2.2.1⟩
    · exact CH.before h'.2.2.2 y hy
def hhas (bs : List (Int × Int)) (at_ : Int) : Bool := bs.any (fun x => decide (x.1 ≤ at_ ∧ at_ < x.1 + x.2))
theorem hhas_of {N at_ : Int} : ∀ {xs : List Rw} {s : Int}, CH N s xs → hhas (bsOf xs) at_ = xs.any (fun x => decide (x.a ≤ at_ - 1 ∧ at_ - 1 < x.a + x.s))
  | [], _, h => absurd h (by simp [CH])
  | [x], s, ⟨h1, h2, h3, h4⟩ => by simp [bsOf, hhas]; omega
  | x :: y :: r, s, ⟨h1, h2, h3, h4⟩ => by
    have ih := hhas_of (at_ := at_) h4
    unfold hhas at ih ⊢
    rw [List.any_cons, ← ih]
    show ((x.a + 1, x.s) :: bsOf (y :: r)).any _ = _
    rw [List.any_cons]
    congr 1
    rw [decide_eq_decide]
    show x.a + 1 ≤ at_ ∧ at_ < x.a + 1 + x.s ↔ _
    omega
/-- Where the blocks part that begin up to a word. -/
theorem Srt.part (a : Int) : ∀ {xs : List Rw}, Srt xs → ∃ L R, xs = L ++ R ∧ (∀ x ∈ L, x.a ≤ a) ∧ ∀ x ∈ R, a < x.a
  | [], _ => ⟨[], [], rfl, by simp, by simp⟩
  | x :: xs, h => by
    obtain ⟨h1, h2⟩ := List.pairwise_cons.1 h
    by_cases hx : x.a ≤ a
    · obtain ⟨L, R, rfl, e1, e2⟩ := Srt.part a h2
      exact ⟨x :: L, R, rfl, fun y hy => by rcases List.mem_cons.1 hy with rfl | hy; exact hx; exact e1 y hy, e2⟩
    · exact ⟨[], x :: xs, rfl, by simp, fun y hy => by rcases List.mem_cons.1 hy with rfl | hy; omega; have := h1 y hy; omega⟩
theorem in_key {a s t : Int} (h : a ≤ t - 1) : (a ≤ t - 1 ∧ t - 1 < a + s) ↔ t - 1 - a < s := by omega
def I64 (x : Int) : Prop := -9223372036854775808 ≤ x ∧ x ≤ 9223372036854775807
set_option maxRecDepth 100000 in
set_option maxHeartbeats 1000000 in
theorem newBlock11 {w : World} {a s g : Int} : Calls Try.prog 11 #[.int .i64 a, .int .i64 s, .int .i64 g] w (fun e w' => e = .returned (.pointer (some ⟨w.heap.size, 0, none⟩)) ∧ w' = w.alloc (ndC ⟨w.heap.size, a, s, g⟩ g 1 none none)) := by
  go_enter Try.func11, Try.ntmps11
  go_wp2_with fail
  go_ret
  exact ⟨rfl, rfl⟩
set_option maxRecDepth 100000 in
set_option maxHeartbeats 1000000 in
theorem new4 {w : World} {size : Int} (hs : 1 ≤ size) (hs2 : size ≤ 3000000000) : Calls Try.prog 4 #[.int .i64 size] w (fun e w' => ∃ hb, e = .returned (.pointer (some ⟨hb, 0, none⟩)) ∧ HM w' w.heap.size hb size [] ∧ Below w.heap.size w w') := by
  go_enter Try.func4, Try.ntmps4
  go_wp2_with (go_at_call 11; refine newBlock11.mono ?_; rintro e2 w2 ⟨rfl, rfl⟩)
  go_ret
  have h2 := al2 w (ndC ⟨w.heap.size, size, 0, size⟩ size 1 none none) (.cells #[.pointer (some ⟨w.heap.size, 0, none⟩), .int .i64 0] 38)
  refine ⟨w.heap.size + 1, rfl, ⟨some w.heap.size, 1, size, 1, [⟨w.heap.size, size, 0, size⟩], h2.2.2, .inr ⟨⟨w.heap.size, size, 0, size⟩, none, none, 0, 0, 0, 0, [], [], rfl, h2.2.1, TT.nil _ _ _, TT.nil _ _ _, rfl, rfl, fun _ => by show size = max size (max 0 0); omega⟩, ⟨by show size = 0 + size; omega, by show 0 ≤ size; omega, rfl, rfl⟩, rfl, hs2, by omega, fun x hx => by simp at hx; subst hx; exact Nat.le_refl _⟩, h2.1⟩
set_option maxRecDepth 100000 in
set_option maxHeartbeats 1000000 in
theorem count10 {w : World} {base hb : Nat} {N : Int} {bs : List (Int × Int)} (h : HM w base hb N bs) : Calls Try.prog 10 #[.pointer (some ⟨hb, 0, none⟩)] w (fun e w' => e = .returned (.int .i64 bs.length) ∧ w' = w) := by
  obtain ⟨p, h, m, ht, xs, hc, -⟩ := h
  have c_1 : w.cell? ⟨hb, 1, none⟩ = some (.int .i64 (bs.length : Int)) := cell_of_row w _ 1 _ 38 (0, 0) hc
  have l_h : hb < w.heap.size := (Array.getElem?_eq_some_iff.1 hc).1
  clear hc
  go_enter Try.func10, Try.ntmps10
  go_wp2_with fail
  go_ret
  exact ⟨rfl, rfl⟩
set_option maxRecDepth 100000 in
set_option maxHeartbeats 1000000 in
theorem has6 {w : World} {base hb : Nat} {N : Int} {bs : List (Int × Int)} (h : HM w base hb N bs) {at_ : Int} (hat : I64 at_) : Calls Try.prog 6 #[.pointer (some ⟨hb, 0, none⟩), .int .i64 at_] w (Gives w (.bool (hhas bs at_))) := by
  obtain ⟨p, h, m, ht, xs, hc, t, ch, rfl, hN, -, -⟩ := h
  have c_0 : w.cell? ⟨hb, 0, none⟩ = some (pv p) := cell_of_row w _ 0 _ 38 (0, 0) hc
  have l_h : hb < w.heap.size := (Array.getElem?_eq_some_iff.1 hc).1
  rw [hhas_of ch]
  have hall := ch.all
  clear hc
  by_cases h1 : at_ < 1
  · have HE : Hid (xs.any (fun x => decide (x.a ≤ at_ - 1 ∧ at_ - 1 < x.a + x.s)) = false) := by
      show _ = false
      rw [List.any_eq_false]
      intro x hx
      have := hall.2.2 x hx
      simp
      omega
    clear ch hall t
    go_enter Try.func6, Try.ntmps6
    go_wp2_with fail
    go_ret
    exact ⟨by rw [HE.out]; rfl, 0, rfl⟩
  · obtain ⟨L, R, rfl, hL, hR⟩ := hall.1.part (at_ - 1)
    have U := upTo12 t hL hR
    have hw : wrap64 (at_ - 1) = at_ - 1 := by unfold wrap64; have := hat.2; omega
    rcases List.eq_nil_or_concat L with rfl | ⟨L0, x, hLx⟩
    · have HE : Hid (([] ++ R).any (fun x => decide (x.a ≤ at_ - 1 ∧ at_ - 1 < x.a + x.s)) = false) := by
        show _ = false
        rw [List.any_eq_false]
        intro x hx
        have := hR x (by simpa using hx)
        simp
        omega
      replace U : Calls Try.prog 12 #[pv p, .int .i64 (at_ - 1)] w (Gives w (.pointer none)) := U
      generalize ([] ++ R).any (fun x => decide (x.a ≤ at_ - 1 ∧ at_ - 1 < x.a + x.s)) = v at *
      have UU : Hid (Calls Try.prog 12 #[pv p, .int .i64 (at_ - 1)] w (Gives w (.pointer none))) := U
      clear ch hall t hL hR U
      go_enter Try.func6, Try.ntmps6
      go_upto_region 4 with (go_at_call 12; refine UU.out.mono ?_; rintro e2 w2 ⟨rfl, k2, rfl⟩)
      go_quiet (fail)
      go_wp2_with fail
      go_ret
      exact ⟨by rw [HE.out]; rfl, _, World.drewN_drewN _ _ _⟩
    · rw [List.concat_eq_append] at hLx
      subst hLx
      have e0 : L0 ++ [x] ++ R = L0 ++ x :: R := by simp
      rw [e0] at t ch hall
      have hx := hL x (by simp)
      have hb4 := ch.before
      have hxa := hall.2.2 x (by simp)
      have HE : Hid ((L0 ++ [x] ++ R).any (fun x => decide (x.a ≤ at_ - 1 ∧ at_ - 1 < x.a + x.s)) = decide (at_ - 1 - x.a < x.s)) := by
        show _ = _
        rw [List.any_append, List.any_append]
        have n1 : L0.any (fun x => decide (x.a ≤ at_ - 1 ∧ at_ - 1 < x.a + x.s)) = false := by
          rw [List.any_eq_false]
          intro y hy
          have := hb4 y hy
          simp
          omega
        have n2 : R.any (fun x => decide (x.a ≤ at_ - 1 ∧ at_ - 1 < x.a + x.s)) = false := by
          rw [List.any_eq_false]
          intro y hy
          have := hR y hy
          simp
          omega
        rw [n1, n2]
        simp only [Bool.false_or, Bool.or_false, List.any_cons, List.any_nil]
        rw [decide_eq_decide]
        exact in_key hx
      have hx0 : 0 ≤ x.a := by omega
      obtain ⟨m', ht', pl, pr, hcx⟩ := t.row x (by simp)
      obtain ⟨cx0, cx1, -, -, -, -, -, -, lx⟩ := nd_cells hcx
      rw [lastB_snoc] at U
      have UU : Hid (Calls Try.prog 12 #[pv p, .int .i64 (at_ - 1)] w (Gives w (.pointer (some ⟨x.b, 0, none⟩)))) := U
      have hw2 : wrap64 (at_ - 1 - x.a) = at_ - 1 - x.a := by unfold wrap64; have := hat.2; omega
      generalize (L0 ++ [x] ++ R).any (fun x => decide (x.a ≤ at_ - 1 ∧ at_ - 1 < x.a + x.s)) = v at *
      clear ch hall t hL hR U e0 hb4 hxa hcx
      go_enter Try.func6, Try.ntmps6
      go_upto_region 4 with (go_at_call 12; refine UU.out.mono ?_; rintro e2 w2 ⟨rfl, k2, rfl⟩)
      go_quiet (fail)
      go_wp2_with fail
      go_ret
      exact ⟨by rw [HE.out]; rfl, _, World.drewN_drewN _ _ _⟩
end Go.Proofs.Ytohhmcpaajcplaa
