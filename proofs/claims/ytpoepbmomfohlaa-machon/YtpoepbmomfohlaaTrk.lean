/- The heap in memory: New, Count, Has. -/
import Derived.Test.YtpoepbmomfohlaaTrg
namespace Go.Proofs.Ytpoepbmomfohlaa
open Go.RowKit
set_option linter.all false
/-- The heap in memory. -/
def HM (w : World) (base hb : Nat) (N : Int) (bs : List (Int × Int)) : Prop := ∃ (p : Option Nat) (h : Nat) (m ht : Int) (xs : List Rw), w.heap[hb]? = some (.cells #[pv p, .int .i64 (bs.length : Int)] 55 (0, 0)) ∧ TT w h none p m ht xs ∧ CH N 0 xs ∧ bs = bsOf xs ∧ N ≤ 3000000000 ∧ base ≤ hb ∧ ∀ x ∈ xs, base ≤ x.b
theorem CH.before {N : Int} {x : Rw} {R : List Rw} : ∀ {L : List Rw} {s : Int}, CH N s (L ++ x :: R) → ∀ y ∈ L, y.a + y.s ≤ x.a - x.g ∧ 1 ≤ y.s
  | [], _, _, y, hy => by simp at hy
  | v :: L, s, h, y, hy => by
    have h' := (CH_cons (by simp)).1 (show CH N s (v :: (L ++ x :: R)) from h)
    rcases List.mem_cons.1 hy with rfl | hy
    · have := h'.2.2.2.all.2.2 x (by simp)
      exact ⟨by omega, h'.2.2.1⟩
    · exact CH.before h'.2.2.2 y hy
def hhas (bs : List (Int × Int)) (at_ : Int) : Bool := bs.any (fun x => decide (x.1 ≤ at_ ∧ at_ < x.1 + x.2))
theorem hhas_of {N at_ : Int} : ∀ {xs : List Rw} {s : Int}, CH N s xs → hhas (bsOf xs) at_ = xs.any (fun x => decide (x.a ≤ at_ - 1 ∧ at_ - 1 < x.a + x.s))
  | [], _, h => absurd h (by simp [CH])
  | [x], s, ⟨h1, h2, h3, h4⟩ => by simp [bsOf, hhas]; omega
  | x :: y :: r, s, ⟨h1, h2, h3, h4⟩ => by
    have ih := hhas_of (at_ := at_) h4
    unfold hhas at ih ⊢
    rw [List.any_cons, ← ih]
    show ((x.a + 1, x.s) :: bsOf (y :: r)).any _ = _
    rw [List.any_cons]
    congr 1
    rw [decide_eq_decide]
    show x.a + 1 ≤ at_ ∧ at_ < x.a + 1 + x.s ↔ _
    omega
/-- Where the blocks part that begin up to a word. -/
theorem Srt.part (a : Int) : ∀ {xs : List Rw}, Srt xs → ∃ L R, xs = L ++ R ∧ (∀ x ∈ L, x.a ≤ a) ∧ ∀ x ∈ R, a < x.a
  | [], _ => ⟨[], [], rfl, by simp, by simp⟩
  | x :: xs, h => by
    obtain ⟨h1, h2⟩ := List.pairwise_cons.1 h
    by_cases hx : x.a ≤ a
    · obtain ⟨L, R, rfl, e1, e2⟩ := Srt.part a h2
      exact ⟨x :: L, R, rfl, fun y hy => by rcases List.mem_cons.1 hy with rfl | hy; exact hx; exact e1 y hy, e2⟩
    · exact ⟨[], x :: xs, rfl, by simp, fun y hy => by rcases List.mem_cons.1 hy with rfl | hy; omega; have := h1 y hy; omega⟩
theorem in_key {a s t : Int} (h : a ≤ t - 1) : (a ≤ t - 1 ∧ t - 1 < a + s) ↔ t - 1 - a < s := by omega
set_option maxRecDepth 100000 in
set_option maxHeartbeats 1000000 in
theorem newBlock11 {w : World} {a s g : Int} : Calls Try.prog 16 #[.int .i64 a, .int .i64 s, .int .i64 g] w (fun e w' => e = .returned (.pointer (some ⟨w.heap.size, 0, none⟩)) ∧ w' = w.alloc (ndC ⟨w.heap.size, a, s, g⟩ g 1 none none)) := by
  go_enter Try.func16, Try.ntmps16
  go_wp2_with fail
  go_ret
  exact ⟨rfl, rfl⟩
set_option maxRecDepth 100000 in
set_option maxHeartbeats 1000000 in
theorem new4 {w : World} {size : Int} (hs : 1 ≤ size) (hs2 : size ≤ 3000000000) : Calls Try.prog 9 #[.int .i64 size] w (fun e w' => ∃ hb, e = .returned (.pointer (some ⟨hb, 0, none⟩)) ∧ HM w' w.heap.size hb size [] ∧ Below w.heap.size w w') := by
  go_enter Try.func9, Try.ntmps9
  go_wp2_with (go_at_call 16; refine newBlock11.mono ?_; rintro e2 w2 ⟨rfl, rfl⟩)
  go_ret
  have h2 := al2 w (ndC ⟨w.heap.size, size, 0, size⟩ size 1 none none) (.cells #[.pointer (some ⟨w.heap.size, 0, none⟩), .int .i64 0] 55)
  refine ⟨w.heap.size + 1, rfl, ⟨some w.heap.size, 1, size, 1, [⟨w.heap.size, size, 0, size⟩], h2.2.2, .inr ⟨⟨w.heap.size, size, 0, size⟩, none, none, 0, 0, 0, 0, [], [], rfl, h2.2.1, TT.nil _ _ _, TT.nil _ _ _, rfl, rfl, fun _ => by show size = max size (max 0 0); omega⟩, ⟨by show size = 0 + size; omega, by show 0 ≤ size; omega, rfl, rfl⟩, rfl, hs2, by omega, fun x hx => by simp at hx; subst hx; exact Nat.le_refl _⟩, h2.1⟩
set_option maxRecDepth 100000 in
set_option maxHeartbeats 1000000 in
theorem count10 {w : World} {base hb : Nat} {N : Int} {bs : List (Int × Int)} (h : HM w base hb N bs) : Calls Try.prog 15 #[.pointer (some ⟨hb, 0, none⟩)] w (fun e w' => e = .returned (.int .i64 bs.length) ∧ w' = w) := by
  obtain ⟨p, h, m, ht, xs, hc, -⟩ := h
  have c_1 : w.cell? ⟨hb, 1, none⟩ = some (.int .i64 (bs.length : Int)) := cell_of_row w _ 1 _ 55 (0, 0) hc
  have l_h : hb < w.heap.size := (Array.getElem?_eq_some_iff.1 hc).1
  clear hc
  go_enter Try.func15, Try.ntmps15
  go_wp2_with fail
  go_ret
  exact ⟨rfl, rfl⟩
set_option maxRecDepth 100000 in
set_option maxHeartbeats 1000000 in
theorem has6 {w : World} {base hb : Nat} {N : Int} {bs : List (Int × Int)} (h : HM w base hb N bs) {at_ : Int} (hat : I64 at_) : Calls Try.prog 44 #[.pointer (some ⟨hb, 0, none⟩), .int .i64 at_] w (Gives w (.bool (hhas bs at_))) := by
  obtain ⟨p, h, m, ht, xs, hc, t, ch, rfl, hN, -, -⟩ := h
  have c_0 : w.cell? ⟨hb, 0, none⟩ = some (pv p) := cell_of_row w _ 0 _ 55 (0, 0) hc
  have l_h : hb < w.heap.size := (Array.getElem?_eq_some_iff.1 hc).1
  rw [hhas_of ch]
  have hall := ch.all
  clear hc
  by_cases h1 : at_ < 1
  · have HE : Hid (xs.any (fun x => decide (x.a ≤ at_ - 1 ∧ at_ - 1 < x.a + x.s)) = false) := by
      show _ = false
      rw [List.any_eq_false]
      intro x hx
      have := hall.2.2 x hx
      simp
      omega
    clear ch hall t
    go_enter Try.func44, Try.ntmps44
    go_wp2_with fail
    go_ret
    exact ⟨by rw [HE.out]; rfl, 0, rfl⟩
  · obtain ⟨L, R, rfl, hL, hR⟩ := hall.1.part (at_ - 1)
    have U := upTo12 t hL hR
    have hw : wrap64 (at_ - 1) = at_ - 1 := by unfold wrap64; have := hat.2; omega
    rcases List.eq_nil_or_concat L with rfl | ⟨L0, x, hLx⟩
    · have HE : Hid (([] ++ R).any (fun x => decide (x.a ≤ at_ - 1 ∧ at_ - 1 < x.a + x.s)) = false) := by
        show _ = false
        rw [List.any_eq_false]
        intro x hx
        have := hR x (by simpa using hx)
        simp
        omega
      replace U : Calls Try.prog 52 #[pv p, .int .i64 (at_ - 1)] w (Gives w (.pointer none)) := U
      generalize ([] ++ R).any (fun x => decide (x.a ≤ at_ - 1 ∧ at_ - 1 < x.a + x.s)) = v at *
      have UU : Hid (Calls Try.prog 52 #[pv p, .int .i64 (at_ - 1)] w (Gives w (.pointer none))) := U
      clear ch hall t hL hR U
      go_enter Try.func44, Try.ntmps44
      go_upto_region 4 with (go_at_call 52; refine UU.out.mono ?_; rintro e2 w2 ⟨rfl, k2, rfl⟩)
      go_quiet (fail)
      go_wp2_with fail
      go_ret
      exact ⟨by rw [HE.out]; rfl, _, World.drewN_drewN _ _ _⟩
    · rw [List.concat_eq_append] at hLx
      subst hLx
      have e0 : L0 ++ [x] ++ R = L0 ++ x :: R := by simp
      rw [e0] at t ch hall
      have hx := hL x (by simp)
      have hb4 := ch.before
      have hxa := hall.2.2 x (by simp)
      have HE : Hid ((L0 ++ [x] ++ R).any (fun x => decide (x.a ≤ at_ - 1 ∧ at_ - 1 < x.a + x.s)) = decide (at_ - 1 - x.a < x.s)) := by
        show _ = _
        rw [List.any_append, List.any_append]
        have n1 : L0.any (fun x => decide (x.a ≤ at_ - 1 ∧ at_ - 1 < x.a + x.s)) = false := by
          rw [List.any_eq_false]
          intro y hy
          have := hb4 y hy
          simp
          omega
        have n2 : R.any (fun x => decide (x.a ≤ at_ - 1 ∧ at_ - 1 < x.a + x.s)) = false := by
          rw [List.any_eq_false]
          intro y hy
          have := hR y hy
          simp
          omega
        rw [n1, n2]
        simp only [Bool.false_or, Bool.or_false, List.any_cons, List.any_nil]
        rw [decide_eq_decide]
        exact in_key hx
      have hx0 : 0 ≤ x.a := by omega
      obtain ⟨m', ht', pl, pr, hcx⟩ := t.row x (by simp)
      obtain ⟨cx0, cx1, -, -, -, -, -, -, lx⟩ := nd_cells hcx
      rw [lastB_snoc] at U
      have UU : Hid (Calls Try.prog 52 #[pv p, .int .i64 (at_ - 1)] w (Gives w (.pointer (some ⟨x.b, 0, none⟩)))) := U
      have hw2 : wrap64 (at_ - 1 - x.a) = at_ - 1 - x.a := by unfold wrap64; have := hat.2; omega
      generalize (L0 ++ [x] ++ R).any (fun x => decide (x.a ≤ at_ - 1 ∧ at_ - 1 < x.a + x.s)) = v at *
      clear ch hall t hL hR U e0 hb4 hxa hcx
      go_enter Try.func44, Try.ntmps44
      go_upto_region 4 with (go_at_call 52; refine UU.out.mono ?_; rintro e2 w2 ⟨rfl, k2, rfl⟩)
      go_quiet (fail)
      go_wp2_with fail
      go_ret
      exact ⟨by rw [HE.out]; rfl, _, World.drewN_drewN _ _ _⟩
end Go.Proofs.Ytpoepbmomfohlaa
namespace Go.Proofs.Ytpoepbmomfohlaa
open Go.RowKit
set_option linter.all false
/-- What a call leaves that may write the heap alone. -/
def HmPost (w : World) (base hb : Nat) (N : Int) (v : Value) (bs : List (Int × Int)) (e : Ending) (w' : World) : Prop := e = .returned v ∧ HM w' base hb N bs ∧ Below base w w' ∧ KT (fun t => t ≠ 55 ∧ t ≠ 70) w w'
theorem FX.below {X : Nat → Prop} {w w' : World} {B : Nat} (h : FX X w w') (hX : ∀ k, X k → B ≤ k) : Below B w w' := ⟨h.os, h.tape, h.output, by rw [h.size]; exact Nat.le_refl _, fun k hk => h.block k (fun hx => by have := hX k hx; omega)⟩
theorem FX.kt {X : Nat → Prop} {w w' : World} (h : FX X w w') (hX : ∀ k, X k → ∃ c t z, w.heap[k]? = some (.cells c t z) ∧ (t = 55 ∨ t = 70)) : KT (fun t => t ≠ 55 ∧ t ≠ 70) w w' := fun b c t z hb ht => h.block b (fun hx => by
  obtain ⟨c', t', z', h1, h2⟩ := hX b hx
  rw [hb] at h1
  have := Option.some.inj h1
  injection this with _ h3
  subst h3
  rcases h2 with rfl | rfl
  · exact ht.1 rfl
  · exact ht.2 rfl)
def freeV (bs : List (Int × Int)) (at_ : Int) : Bool := (hfree bs at_).isSome
theorem HM.drewN {w : World} {base hb : Nat} {N : Int} {bs : List (Int × Int)} (h : HM w base hb N bs) (n : Nat) : HM (w.drewN n) base hb N bs := by
  obtain ⟨p, h, m, ht, xs, hc, t, r⟩ := h
  exact ⟨p, h, m, ht, xs, hc, t.drewN n, r⟩
theorem HM.same {w : World} {base hb : Nat} {N : Int} {bs : List (Int × Int)} (h : HM w base hb N bs) (v : Value) (n : Nat) : HmPost w base hb N v bs (.returned v) (w.drewN n) := ⟨rfl, h.drewN n, ⟨rfl, rfl, rfl, Nat.le_refl _, fun _ _ => rfl⟩, fun _ _ _ _ _ _ => rfl⟩
theorem bsOf_mem : ∀ {xs : List Rw} {b : Int × Int}, b ∈ bsOf xs → ∃ v ∈ xs, b = (v.a + 1, v.s)
  | [], _, h => by simp [bsOf] at h
  | [_], _, h => by simp [bsOf] at h
  | x :: y :: r, b, h => by
    rcases List.mem_cons.1 (show b ∈ (x.a + 1, x.s) :: bsOf (y :: r) from h) with rfl | h
    · exact ⟨x, by simp, rfl⟩
    · obtain ⟨v, hv, e⟩ := bsOf_mem h
      exact ⟨v, by simp at hv ⊢; rcases hv with h | h <;> simp [h], e⟩
theorem CH.last {N : Int} {x : Rw} : ∀ {L : List Rw} {s : Int}, CH N s (L ++ [x]) → x.a = N ∧ x.s = 0
  | [], _, ⟨_, _, h3, h4⟩ => ⟨h4, h3⟩
  | v :: L, s, h => CH.last ((CH_cons (by simp)).1 (show CH N s (v :: (L ++ [x])) from h)).2.2.2
theorem wrap_len {L : List Rw} (h : L.length ≤ 3000000001) : wrap64 (((bsOf L).length : Int) - 1) = ((bsOf L).length : Int) - 1 := by
  have h2 : (bsOf L).length ≤ L.length := by
    cases L with
    | nil => simp [bsOf]
    | cons x L => have := bsOf_len (xs := x :: L) (by simp); omega
  unfold wrap64
  omega
theorem setH {w : World} {hb : Nat} {p p' : Option Nat} {n n' : Int} (h : w.heap[hb]? = some (.cells #[pv p, .int .i64 n] 55 (0, 0))) : ((w.setCell ⟨hb, 0, none⟩ (pv p')).setCell ⟨hb, 1, none⟩ (.int .i64 n')).heap[hb]? = some (.cells #[pv p', .int .i64 n'] 55 (0, 0)) :=
  heap_setCell_same _ hb 1 _ 55 _ (heap_setCell_same w hb 0 _ 55 _ h)
theorem free_done {w wv w4 : World} {base hb bq h : Nat} {N at_ m ht : Int} {L R : List Rw} {x y : Rw} (hcb : w.heap[hb]? = some (.cells #[pv (some bq), .int .i64 ((bsOf (L ++ x :: y :: R)).length : Int)] 55 (0, 0))) (t : TT w h none (some bq) m ht (L ++ x :: y :: R)) (ch : CH N 0 (L ++ x :: y :: R)) (hxa : x.a = at_ - 1) (f3 : FX (fun b => b = y.b) w wv) {p4 : Option Nat} {k4 : Nat} {m4 ht4 : Int} (t4 : TT w4 k4 none p4 m4 ht4 (L ++ { y with g := y.g + (x.g + x.s) } :: R)) (f4 : FX (InR (L ++ x :: { y with g := y.g + (x.g + x.s) } :: R)) wv.drew w4) (hv4 : w4.heap[hb]? = some (.cells #[.pointer (some ⟨bq, 0, none⟩), .int .i64 ((bsOf (L ++ x :: y :: R)).length : Int)] 55 (0, 0))) (hN : N ≤ 3000000000) (hbb : base ≤ hb) (hxb : ∀ z ∈ L ++ x :: y :: R, base ≤ z.b) : HmPost w base hb N (.bool (freeV (bsOf (L ++ x :: y :: R)) at_)) (freeB (bsOf (L ++ x :: y :: R)) at_) (.returned (.bool true)) ((w4.setCell ⟨hb, 0, none⟩ (pv p4)).setCell ⟨hb, 1, none⟩ (.int .i64 (((bsOf (L ++ x :: y :: R)).length : Int) - 1))) := by
  obtain ⟨d1, d2, d3⟩ := ch.del
  have hf := hfree_at ch.hok d3
  rw [show x.a + 1 = at_ by omega, ← d2] at hf
  have hin : ∀ z ∈ L ++ x :: { y with g := y.g + (x.g + x.s) } :: R, ∃ v ∈ L ++ x :: y :: R, v.b = z.b := fun z hz => by
    simp at hz
    rcases hz with hz | rfl | rfl | hz
    · exact ⟨z, by simp [hz], rfl⟩
    · exact ⟨z, by simp, rfl⟩
    · exact ⟨y, by simp, rfl⟩
    · exact ⟨z, by simp [hz], rfl⟩
  have f5 : FX (fun b => b = hb ∨ InR (L ++ x :: y :: R) b) w ((w4.setCell ⟨hb, 0, none⟩ (pv p4)).setCell ⟨hb, 1, none⟩ (.int .i64 (((bsOf (L ++ x :: y :: R)).length : Int) - 1))) := by
    refine FX.setCell (p := ⟨hb, 1, none⟩) (FX.setCell (p := ⟨hb, 0, none⟩) ?_ (.inl rfl) _) (.inl rfl) _
    refine FX.trans (FX.drew (f3.mono (fun k e => .inr ⟨y, by simp, e.symm⟩))) (f4.mono (fun k ⟨z, hz, e⟩ => ?_))
    obtain ⟨v, hv, e2⟩ := hin z hz
    exact .inr ⟨v, hv, e2.trans e⟩
  have hlen : ((bsOf (L ++ x :: y :: R)).length : Int) - 1 = ((bsOf (L ++ { y with g := y.g + (x.g + x.s) } :: R)).length : Int) := by
    have h1 := bsOf_len (xs := L ++ x :: y :: R) (by simp)
    have h2 := bsOf_len (xs := L ++ { y with g := y.g + (x.g + x.s) } :: R) (by simp)
    simp at h1 h2
    omega
  have hne : ∀ z ∈ L ++ { y with g := y.g + (x.g + x.s) } :: R, z.b ≠ hb := fun z hz => by
    obtain ⟨_, _, _, _, hvc⟩ := t4.row z hz
    exact tag_ne hvc hv4 (by decide)
  refine ⟨by unfold freeV; rw [hf]; rfl, ?_, f5.below (fun k hk => ?_), f5.kt (fun k hk => ?_)⟩
  · unfold freeB
    rw [hf]
    refine ⟨p4, k4, m4, ht4, L ++ { y with g := y.g + (x.g + x.s) } :: R, ?_, t4.frame (fun z hz => (Below.heap_setCell _ ⟨hb, 1, none⟩ _ _ (hne z hz)).trans (Below.heap_setCell _ ⟨hb, 0, none⟩ _ _ (hne z hz))), d1, rfl, hN, hbb, fun z hz => ?_⟩
    · show _ = some (Obj.cells #[pv p4, .int .i64 ((bsOf (L ++ { y with g := y.g + (x.g + x.s) } :: R)).length : Int)] 55 (0, 0))
      rw [hlen]
      exact setH (p := some bq) hv4
    · obtain ⟨v, hv, e⟩ := hin z (by simp at hz ⊢; rcases hz with h | h | h <;> simp [h])
      rw [← e]
      exact hxb v hv
  · rcases hk with rfl | ⟨z, hz, rfl⟩
    · exact hbb
    · exact hxb z hz
  · rcases hk with rfl | ⟨z, hz, rfl⟩
    · exact ⟨_, 55, _, hcb, .inl rfl⟩
    · obtain ⟨_, _, _, _, hvc⟩ := t.row z hz
      exact ⟨_, 70, _, hvc, .inr rfl⟩
set_option maxRecDepth 100000 in
set_option maxHeartbeats 1000000 in
theorem free7 {w : World} {base hb : Nat} {N : Int} {bs : List (Int × Int)} (h : HM w base hb N bs) {at_ : Int} (hat : I64 at_) : Calls Try.prog 38 #[.pointer (some ⟨hb, 0, none⟩), .int .i64 at_] w (HmPost w base hb N (.bool (freeV bs at_)) (freeB bs at_)) := by
  have HH : Hid (HM w base hb N bs) := h
  obtain ⟨p, h, m, ht, xs, hc, t, ch, rfl, hN, hbb, hxb⟩ := h
  obtain ⟨hs, -, hall⟩ := ch.all
  have c_0 : w.cell? ⟨hb, 0, none⟩ = some (pv p) := cell_of_row w _ 0 _ 55 (0, 0) hc
  have c_1 : w.cell? ⟨hb, 1, none⟩ = some (.int .i64 ((bsOf xs).length : Int)) := cell_of_row w _ 1 _ 55 (0, 0) hc
  have l_h : hb < w.heap.size := (Array.getElem?_eq_some_iff.1 hc).1
  have hok := ch.hok
  have HNO : Hid (hfree (bsOf xs) at_ = none → ∀ n, HmPost w base hb N (.bool (freeV (bsOf xs) at_)) (freeB (bsOf xs) at_) (.returned (.bool false)) (w.drewN n)) := fun e n => by
    unfold freeV freeB
    rw [e]
    exact HH.out.same (.bool false) n
  by_cases h1 : at_ < 1
  · have HN : Hid (hfree (bsOf xs) at_ = none) := hfree_none (fun x hx he => by
      obtain ⟨i, hi⟩ := List.getElem?_of_mem hx
      have := hok.at (a := x.1) (s := x.2) hi
      omega)
    clear hc t ch hs hall hok hxb
    go_enter Try.func38, Try.ntmps38
    go_wp2_with fail
    go_ret
    exact HNO.out HN.out 0
  · have hw : wrap64 (at_ - 1) = at_ - 1 := by unfold wrap64; have := hat.2; omega
    by_cases h2 : ∃ x ∈ xs, x.a = at_ - 1
    · obtain ⟨x, hx, hxa⟩ := h2
      obtain ⟨L, R, rfl⟩ := List.append_of_mem hx
      obtain ⟨bq, rfl⟩ := t.some_of (by simp)
      have HCB : Hid (w.heap[hb]? = some (.cells #[pv (some bq), .int .i64 ((bsOf (L ++ x :: R)).length : Int)] 55 (0, 0))) := hc
      have HS : Hid (Srt (L ++ x :: R)) := hs
      have HXB : Hid (∀ z ∈ L ++ x :: R, base ≤ z.b) := hxb
      have HLEN : Hid ((L ++ x :: R).length ≤ 3000000001) := by
        have h3 := hok.len
        have h4 := bsOf_len (xs := L ++ x :: R) (by simp)
        show (L ++ x :: R).length ≤ 3000000001
        omega
      replace c_0 : w.cell? ⟨hb, 0, none⟩ = some (.pointer (some ⟨bq, 0, none⟩)) := c_0
      have F1 := find13 t hs
      rw [hxa] at F1
      obtain ⟨mx, hx', px, qx, hcx⟩ := t.row x (by simp)
      obtain ⟨cx0, cx1, cx2, -, -, -, -, -, lx⟩ := nd_cells hcx
      cases R with
      | nil =>
        obtain ⟨hxN, hxs⟩ := ch.last
        have HN : Hid (hfree (bsOf (L ++ [x])) at_ = none) := hfree_none (fun z hz he => by
          obtain ⟨i, hi⟩ := List.getElem?_of_mem hz
          have := hok.at (a := z.1) (s := z.2) hi
          omega)
        replace F1 : Calls Try.prog 50 #[.pointer (some ⟨bq, 0, none⟩), .int .i64 (at_ - 1)] w (Gives w (.tuple #[.pointer (some ⟨x.b, 0, none⟩), .pointer none])) := F1
        clear hc t ch hs hall hok hxb hcx HCB HS HXB HLEN
        go_enter Try.func38, Try.ntmps38
        go_wp2_with (go_at_call 50; refine F1.mono ?_; rintro e2 w2 ⟨rfl, k2, rfl⟩)
        try go_ret
        exact HNO.out HN.out _
      | cons y R =>
        obtain ⟨my, hy', py, qy, hcy⟩ := t.row y (by simp)
        obtain ⟨cy0, cy1, cy2, -, -, -, -, fy, ly⟩ := nd_cells hcy
        have hxs := CH.before (N := N) (L := L ++ [x]) (x := y) (R := R) (s := 0) (by simpa using ch) x (by simp)
        have hx2 := hall x (by simp)
        have hy2 := hall y (by simp)
        have hw2 : wrap64 (x.g + x.s) = x.g + x.s := by unfold wrap64; omega
        have hw3 : wrap64 (y.g + (x.g + x.s)) = y.g + (x.g + x.s) := by unfold wrap64; omega
        have hx0 : ¬ x.s = 0 := by omega
        have hxy : y.b ≠ x.b := node_ne hcy hcx (by have := hs.mid.2.2.2.1 y (by simp); omega)
        replace F1 : Calls Try.prog 50 #[.pointer (some ⟨bq, 0, none⟩), .int .i64 (at_ - 1)] w (Gives w (.tuple #[.pointer (some ⟨x.b, 0, none⟩), .pointer (some ⟨y.b, 0, none⟩)])) := F1
        have HT : Hid (TT w h none (some bq) m ht (L ++ x :: y :: R)) := t
        have HC : Hid (CH N 0 (L ++ x :: y :: R)) := ch
        clear hc t ch hs hall hok hxb hxs hx2 hy2
        go_enter Try.func38, Try.ntmps38
        go_upto_region 6 with (go_at_call 50; refine F1.mono ?_; rintro e2 w2 ⟨rfl, k2, rfl⟩)
        go_region
        have hcb : Hid (w.heap[hb]? = some (.cells #[.pointer (some ⟨bq, 0, none⟩), .int .i64 ((bsOf (L ++ x :: y :: R)).length : Int)] 55 (0, 0))) := HCB.out
        have hbn : ∀ z ∈ L ++ x :: { y with g := y.g + (x.g + x.s) } :: R, z.b ≠ hb := fun z hz => by
          have : ∃ v ∈ L ++ x :: y :: R, v.b = z.b := by
            simp at hz
            rcases hz with hz | rfl | rfl | hz
            · exact ⟨z, by simp [hz], rfl⟩
            · exact ⟨z, by simp, rfl⟩
            · exact ⟨y, by simp, rfl⟩
            · exact ⟨z, by simp [hz], rfl⟩
          obtain ⟨v, hv, e⟩ := this
          obtain ⟨_, _, _, _, hvc⟩ := HT.out.row v hv
          rw [← e]
          exact tag_ne hvc hcb.out (by decide)
        have T3 : Hid (TT ((w.drewN (k2 + 1)).setCell ⟨y.b, 2, none⟩ (.int .i64 (y.g + (x.g + x.s)))) h (some x.a) (some bq) m ht (L ++ x :: { y with g := y.g + (x.g + x.s) } :: R)) := by
          have h4 := TT.poke (a := x.a) (g := y.g + (x.g + x.s)) (x := y) (by have := HS.out.mid.2.2.2.1 y (by simp); omega) (L := L ++ [x]) (R := R) (w := w.drewN (k2 + 1)) (by simpa using HT.out.drewN (k2 + 1)) (by simpa using HS.out) (fun z hz => by
            simp at hz
            rcases hz with hz | rfl
            · have := HS.out.mid.2.2.1 z hz; omega
            · exact Int.le_refl _)
          show TT _ _ _ _ _ _ _
          simpa using h4
        have F3 : Hid (FX (fun b => b = y.b) w ((w.drewN (k2 + 1)).setCell ⟨y.b, 2, none⟩ (.int .i64 (y.g + (x.g + x.s))))) := ((FX.refl (fun b => b = y.b) w).drewN _).setCell (p := ⟨y.b, 2, none⟩) rfl _
        generalize (w.drewN (k2 + 1)).setCell ⟨y.b, 2, none⟩ (.int .i64 (y.g + (x.g + x.s))) = wv at *
        have hcb3 := (F3.out.block hb (Ne.symm (hbn { y with g := y.g + (x.g + x.s) } (by simp)))).trans hcb.out
        have hcx3 := (F3.out.block x.b (Ne.symm hxy)).trans hcx
        have cv0 : wv.cell? ⟨hb, 0, none⟩ = some (.pointer (some ⟨bq, 0, none⟩)) := cell_of_row wv _ 0 _ 55 (0, 0) hcb3
        have fv := fun o => frozen_of_row wv _ o _ 55 hcb3
        have lv : hb < wv.heap.size := (Array.getElem?_eq_some_iff.1 hcb3).1
        obtain ⟨cxv, -, -, -, -, -, -, -, lxv⟩ := nd_cells hcx3
        have S1 : Calls Try.prog 51 #[.pointer (some ⟨bq, 0, none⟩), .int .i64 (at_ - 1)] wv.drew (TPost (InR (L ++ x :: { y with g := y.g + (x.g + x.s) } :: R)) wv.drew (L ++ { y with g := y.g + (x.g + x.s) } :: R)) := by
          rw [← hxa]
          refine without14 (w := wv.drew) (T3.out.frame (fun z _ => rfl)) ?_ ?_
          · have s0 := HS.out.mid
            have s1 := List.pairwise_cons.1 s0.2.1
            exact Srt.mk s0.1 (List.pairwise_cons.2 ⟨fun z hz => s1.1 z hz, s1.2⟩) s0.2.2.1 (fun z hz => by
              simp at hz
              rcases hz with rfl | hz
              · exact s0.2.2.2.1 y (by simp)
              · exact s0.2.2.2.1 z (by simp [hz]))
          · have := HLEN.out
            simp at this ⊢
            omega
        have HBN : Hid (∀ z ∈ L ++ x :: { y with g := y.g + (x.g + x.s) } :: R, z.b ≠ hb) := hbn
        have HV3 : Hid (wv.heap[hb]? = some (.cells #[.pointer (some ⟨bq, 0, none⟩), .int .i64 ((bsOf (L ++ x :: y :: R)).length : Int)] 55 (0, 0))) := hcb3
        clear hcb3 hcx3 hbn cx0 cx1 cx2 lx cy0 cy1 cy2 fy ly c_0 c_1 l_h F1 hcx hcy
        go_wp2_with fail
        go_region_with (go_at_call 51; refine S1.mono ?_; rintro e4 w4 ⟨p4, k4, m4, ht4, rfl, t4, f4⟩; have hv4 := (f4.block hb (fun ⟨z, hz, e⟩ => HBN.out z hz e)).trans HV3.out; have cv4 : w4.cell? ⟨hb, 0, none⟩ = some (.pointer (some ⟨bq, 0, none⟩)) := cell_of_row w4 _ 0 _ 55 (0, 0) hv4; have fv4 := fun o => frozen_of_row w4 _ o _ 55 hv4; have lv4 : hb < w4.heap.size := (Array.getElem?_eq_some_iff.1 hv4).1)
        all_goals
          have c41 : w4.cell? ⟨hb, 1, none⟩ = some (.int .i64 ((bsOf (L ++ x :: y :: R)).length : Int)) := cell_of_row w4 _ 1 _ 55 (0, 0) hv4
          have KK : Hid (HmPost w base hb N (.bool (freeV (bsOf (L ++ x :: y :: R)) at_)) (freeB (bsOf (L ++ x :: y :: R)) at_) (.returned (.bool true)) ((w4.setCell ⟨hb, 0, none⟩ (pv p4)).setCell ⟨hb, 1, none⟩ (.int .i64 (((bsOf (L ++ x :: y :: R)).length : Int) - 1)))) := free_done HCB.out HT.out HC.out hxa F3.out t4 f4 hv4 hN hbb HXB.out
          have hwl : wrap64 (((bsOf (L ++ x :: y :: R)).length : Int) - 1) = ((bsOf (L ++ x :: y :: R)).length : Int) - 1 := wrap_len HLEN.out
          generalize bsOf (L ++ x :: y :: R) = bs at *
          clear t4 f4 hv4 S1 T3 F3 HT HC HS HXB HBN HV3 hcb HCB HH HNO
          go_wp2_with fail
          go_ret
          exact KK.out
    · have F1 := find13n t (at_ := at_ - 1) (fun x hx he => h2 ⟨x, hx, he⟩)
      have HN : Hid (hfree (bsOf xs) at_ = none) := hfree_none (fun z hz he => by
        obtain ⟨v, hv, rfl⟩ := bsOf_mem hz
        exact h2 ⟨v, hv, by simp at he; omega⟩)
      clear hc t ch hs hall hok hxb
      go_enter Try.func38, Try.ntmps38
      go_wp2_with (go_at_call 50; refine F1.mono ?_; rintro e2 w2 ⟨rfl, k2, rfl⟩)
      try go_ret
      exact HNO.out HN.out _
end Go.Proofs.Ytpoepbmomfohlaa
