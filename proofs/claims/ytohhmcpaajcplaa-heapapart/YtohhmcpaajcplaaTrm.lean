/- The heap in memory: Alloc. -/
import Derived.Test.YtohhmcpaajcplaaTrl
namespace Go.Proofs.Ytohhmcpaajcplaa
open Go.RowKit
set_option linter.all false
def allocV (size : Int) (bs : List (Int × Int)) (n : Int) : Value := match halloc size bs n with
  | some x => .tuple #[.int .i64 x.1, .bool true]
  | none => .tuple #[.int .i64 0, .bool false]
def allocB (size : Int) (bs : List (Int × Int)) (n : Int) : List (Int × Int) := match halloc size bs n with
  | some x => x.2
  | none => bs
theorem alloc_done {w wv w4 : World} {base hb bq h : Nat} {N n m ht : Int} {L R : List Rw} {x : Rw} (hcb : w.heap[hb]? = some (.cells #[pv (some bq), .int .i64 ((bsOf (L ++ x :: R)).length : Int)] 38 (0, 0))) (t : TT w h none (some bq) m ht (L ++ x :: R)) (ch : CH N 0 (L ++ x :: R)) (hn : 1 ≤ n) (hL : ∀ y ∈ L, y.g < n) (hx : n ≤ x.g) (f3 : FX (fun b => b = x.b) w wv) {mx hx' : Int} {px qx : Option Nat} (hxv : wv.heap[x.b]? = some (ndC { x with g := x.g - n } mx hx' px qx)) {p4 : Option Nat} {k4 : Nat} {m4 ht4 : Int} (t4 : TT w4 k4 none p4 m4 ht4 (L ++ ⟨wv.heap.size, x.a - x.g, n, 0⟩ :: { x with g := x.g - n } :: R)) (f4 : FX (InR (L ++ ⟨wv.heap.size, x.a - x.g, n, 0⟩ :: { x with g := x.g - n } :: R)) (wv.drew.alloc (ndC ⟨wv.heap.size, x.a - x.g, n, 0⟩ 0 1 none none)) w4) (hN : N ≤ 3000000000) (hbw : base ≤ w.heap.size) (hbb : base ≤ hb) (hxb : ∀ z ∈ L ++ x :: R, base ≤ z.b) : HmPost w base hb N (allocV N (bsOf (L ++ x :: R)) n) (allocB N (bsOf (L ++ x :: R)) n) (.returned (.tuple #[.int .i64 (x.a - x.g + 1), .bool true])) ((w4.setCell ⟨hb, 0, none⟩ (pv p4)).setCell ⟨hb, 1, none⟩ (.int .i64 (((bsOf (L ++ x :: R)).length : Int) + 1))) := by
  obtain ⟨d1, d2⟩ := ch.put wv.heap.size hn hx
  have hfit := ch.fit hL hx
  have hxa := ch.all.2.2 x (by simp)
  have ha : halloc N (bsOf (L ++ x :: R)) n = some (x.a - x.g + 1, bsOf (L ++ ⟨wv.heap.size, x.a - x.g, n, 0⟩ :: { x with g := x.g - n } :: R)) := by
    unfold halloc
    rw [show (1 : Int) = 0 + 1 from rfl, hfit, if_neg (by omega), if_neg (by show ¬ N - n + (0 + 1) < x.a - x.g + 1; omega), d2]
    rfl
  have hin : ∀ z ∈ L ++ ⟨wv.heap.size, x.a - x.g, n, 0⟩ :: { x with g := x.g - n } :: R, z.b = wv.heap.size ∨ ∃ v ∈ L ++ x :: R, v.b = z.b := fun z hz => by
    simp at hz
    rcases hz with hz | rfl | rfl | hz
    · exact .inr ⟨z, by simp [hz], rfl⟩
    · exact .inl rfl
    · exact .inr ⟨x, by simp, rfl⟩
    · exact .inr ⟨z, by simp [hz], rfl⟩
  have hcv : wv.heap[hb]? = some (.cells #[pv (some bq), .int .i64 ((bsOf (L ++ x :: R)).length : Int)] 38 (0, 0)) := by
    obtain ⟨_, _, _, _, hvc⟩ := t.row x (by simp)
    exact (f3.block hb (fun e => tag_ne hvc hcb (by decide) e.symm)).trans hcb
  have hlt : hb < wv.heap.size := (Array.getElem?_eq_some_iff.1 hcv).1
  have hca : (wv.drew.alloc (ndC ⟨wv.heap.size, x.a - x.g, n, 0⟩ 0 1 none none)).heap[hb]? = some (.cells #[pv (some bq), .int .i64 ((bsOf (L ++ x :: R)).length : Int)] 38 (0, 0)) := (Below.heap_alloc wv.drew _ hb hlt).trans hcv
  have hne0 : ¬ InR (L ++ ⟨wv.heap.size, x.a - x.g, n, 0⟩ :: { x with g := x.g - n } :: R) hb := fun ⟨z, hz, e⟩ => by
    rcases hin z hz with h1 | ⟨v, hv, h1⟩
    · omega
    · obtain ⟨_, _, _, _, hvc⟩ := t.row v hv
      exact tag_ne hvc hcb (by decide) (h1.trans e)
  have hv4 := (f4.block hb hne0).trans hca
  have hlen : ((bsOf (L ++ x :: R)).length : Int) + 1 = ((bsOf (L ++ ⟨wv.heap.size, x.a - x.g, n, 0⟩ :: { x with g := x.g - n } :: R)).length : Int) := by
    have h1 := bsOf_len (xs := L ++ x :: R) (by simp)
    have h2 := bsOf_len (xs := L ++ ⟨wv.heap.size, x.a - x.g, n, 0⟩ :: { x with g := x.g - n } :: R) (by simp)
    simp at h1 h2
    omega
  have f5 : FX (fun b => b = hb ∨ InR (L ++ ⟨wv.heap.size, x.a - x.g, n, 0⟩ :: { x with g := x.g - n } :: R) b) (wv.drew.alloc (ndC ⟨wv.heap.size, x.a - x.g, n, 0⟩ 0 1 none none)) ((w4.setCell ⟨hb, 0, none⟩ (pv p4)).setCell ⟨hb, 1, none⟩ (.int .i64 (((bsOf (L ++ x :: R)).length : Int) + 1))) :=
    FX.setCell (p := ⟨hb, 1, none⟩) (FX.setCell (p := ⟨hb, 0, none⟩) (f4.mono (fun k e => .inr e)) (.inl rfl) _) (.inl rfl) _
  have b1 : Below base w wv := f3.below (fun k e => by subst e; exact hxb x (by simp))
  have hsz : wv.heap.size = w.heap.size := f3.size
  have b2 := al1 wv.drew (ndC ⟨wv.heap.size, x.a - x.g, n, 0⟩ 0 1 none none)
  have b3 : Below wv.heap.size wv (wv.drew.alloc (ndC ⟨wv.heap.size, x.a - x.g, n, 0⟩ 0 1 none none)) := ((Below.refl wv.heap.size wv).drew).alloc (Nat.le_refl _) _
  have hnew : (wv.drew.alloc (ndC ⟨wv.heap.size, x.a - x.g, n, 0⟩ 0 1 none none)).heap[wv.heap.size]? = some (ndC ⟨wv.heap.size, x.a - x.g, n, 0⟩ 0 1 none none) := b2.2
  refine ⟨by unfold allocV; rw [ha], ?_, ?_, ?_⟩
  · unfold allocB
    rw [ha]
    refine ⟨p4, k4, m4, ht4, L ++ ⟨wv.heap.size, x.a - x.g, n, 0⟩ :: { x with g := x.g - n } :: R, ?_, t4.frame (fun z hz => (Below.heap_setCell _ ⟨hb, 1, none⟩ _ _ (fun e => hne0 ⟨z, hz, e⟩)).trans (Below.heap_setCell _ ⟨hb, 0, none⟩ _ _ (fun e => hne0 ⟨z, hz, e⟩))), d1, rfl, hN, hbb, fun z hz => ?_⟩
    · show _ = some (Obj.cells #[pv p4, .int .i64 ((bsOf (L ++ ⟨wv.heap.size, x.a - x.g, n, 0⟩ :: { x with g := x.g - n } :: R)).length : Int)] 38 (0, 0))
      rw [← hlen]
      exact setH hv4
    · rcases hin z hz with h1 | ⟨v, hv, h1⟩
      · omega
      · rw [← h1]; exact hxb v hv
  · refine Below.trans b1 (Below.trans (b3.mono (by omega)) (f5.below (fun k hk => ?_)))
    rcases hk with rfl | ⟨z, hz, rfl⟩
    · exact hbb
    · rcases hin z hz with h1 | ⟨v, hv, h1⟩
      · omega
      · rw [← h1]; exact hxb v hv
  · refine KT.trans (f3.kt (fun k hk => ?_)) (KT.trans (KT.below b3) (f5.kt (fun k hk => ?_)))
    · subst hk
      obtain ⟨_, _, _, _, hvc⟩ := t.row x (by simp)
      exact ⟨_, 41, _, hvc, .inr rfl⟩
    · rcases hk with rfl | ⟨z, hz, rfl⟩
      · exact ⟨_, 38, _, hca, .inl rfl⟩
      · rcases hin z hz with h1 | ⟨v, hv, h1⟩
        · rw [h1]; exact ⟨_, 41, _, hnew, .inr rfl⟩
        · rw [← h1]
          obtain ⟨_, _, _, _, hvc⟩ := t.row v hv
          have hlt2 : v.b < wv.heap.size := by rw [hsz]; exact (Array.getElem?_eq_some_iff.1 hvc).1
          by_cases hvx : v.b = x.b
          · rw [hvx]
            exact ⟨_, 41, _, (Below.heap_alloc wv.drew _ x.b (hvx ▸ hlt2)).trans hxv, .inr rfl⟩
          · exact ⟨_, 41, _, (Below.heap_alloc wv.drew _ v.b hlt2).trans ((f3.block v.b hvx).trans hvc), .inr rfl⟩
theorem with_new {wv : World} {a n m ht : Int} {h bq : Nat} {L R : List Rw} (t : TT wv h (some a) (some bq) m ht (L ++ R)) (hL : ∀ x ∈ L, x.a < a) (hR : ∀ x ∈ R, a < x.a) (hs : Srt (L ++ R)) (len : (L ++ R).length ≤ 3999999999) : Calls Try.prog 17 #[.pointer (some ⟨bq, 0, none⟩), .pointer (some ⟨wv.heap.size, 0, none⟩)] (wv.drew.alloc (ndC ⟨wv.heap.size, a, n, 0⟩ 0 1 none none)) (TPost (InR (L ++ ⟨wv.heap.size, a, n, 0⟩ :: R)) (wv.drew.alloc (ndC ⟨wv.heap.size, a, n, 0⟩ 0 1 none none)) (L ++ ⟨wv.heap.size, a, n, 0⟩ :: R)) := by
  have b2 := al1 wv.drew (ndC ⟨wv.heap.size, a, n, 0⟩ 0 1 none none)
  have t2 : TT (wv.drew.alloc (ndC ⟨wv.heap.size, a, n, 0⟩ 0 1 none none)) h (some a) (some bq) m ht (L ++ R) := t.frame (fun z hz => by
    obtain ⟨_, _, _, _, hvc⟩ := t.row z hz
    exact Below.heap_alloc wv.drew _ z.b (Array.getElem?_eq_some_iff.1 hvc).1)
  have hn : (wv.drew.alloc (ndC ⟨wv.heap.size, a, n, 0⟩ 0 1 none none)).heap[wv.heap.size]? = some (ndC ⟨wv.heap.size, a, n, 0⟩ 0 1 none none) := b2.2
  exact with17 (n := ⟨wv.heap.size, a, n, 0⟩) (Int.le_refl _) (h := h) (p := some bq) (m := m) (ht := ht) (L := L) (R := R) t2 hn hL hR hs len
set_option maxRecDepth 100000 in
set_option maxHeartbeats 1000000 in
theorem alloc8 {w : World} {base hb : Nat} {N : Int} {bs : List (Int × Int)} (h : HM w base hb N bs) (hbw : base ≤ w.heap.size) {n : Int} (hn : I64 n) : Calls Try.prog 8 #[.pointer (some ⟨hb, 0, none⟩), .int .i64 n] w (HmPost w base hb N (allocV N bs n) (allocB N bs n)) := by
  have HH : Hid (HM w base hb N bs) := h
  obtain ⟨p, h, m, ht, xs, hc, t, ch, rfl, hN, hbb, hxb⟩ := h
  obtain ⟨hs, -, hall⟩ := ch.all
  obtain ⟨bq, rfl⟩ := t.some_of ch.ne
  have c_0 : w.cell? ⟨hb, 0, none⟩ = some (.pointer (some ⟨bq, 0, none⟩)) := cell_of_row w _ 0 _ 38 (0, 0) hc
  have c_1 : w.cell? ⟨hb, 1, none⟩ = some (.int .i64 ((bsOf xs).length : Int)) := cell_of_row w _ 1 _ 38 (0, 0) hc
  have l_h : hb < w.heap.size := (Array.getElem?_eq_some_iff.1 hc).1
  have hmm := t.most (fun r hr => (hall r hr).2.1)
  have HNO : Hid (halloc N (bsOf xs) n = none → ∀ k, HmPost w base hb N (allocV N (bsOf xs) n) (allocB N (bsOf xs) n) (.returned (.tuple #[.int .i64 0, .bool false])) (w.drewN k)) := fun e k => by
    unfold allocV allocB
    rw [e]
    exact HH.out.same _ k
  by_cases h1 : n < 1
  · have HN : Hid (halloc N (bsOf xs) n = none) := by unfold halloc; rw [if_pos (.inl h1)]; rfl
    clear hc t ch hs hall hxb hmm
    go_enter Try.func8, Try.ntmps8
    go_wp2_with fail
    try go_ret2
    exact HNO.out HN.out 0
  · have W1 := widest15 t
    replace W1 : Calls Try.prog 15 #[.pointer (some ⟨bq, 0, none⟩)] w (fun e w' => e = .returned (.int .i64 m) ∧ w' = w) := W1
    by_cases h2 : m < n
    · have HN : Hid (halloc N (bsOf xs) n = none) := by
        show halloc _ _ _ = none
        unfold halloc
        split
        · rfl
        · rw [if_pos]
          have := ch.nofit (n := n) (fun x hx => by have := hmm.2.1 x hx; omega)
          simpa using this
      clear hc t ch hs hall hxb hmm
      go_enter Try.func8, Try.ntmps8
      go_wp2_with (go_at_call 15; refine W1.mono ?_; rintro e2 wx ⟨rfl, hwx⟩; replace hwx := hwx.symm; subst hwx)
      try go_ret2
      exact HNO.out HN.out 0
    · have B1 := behindGap16 t (fun r hr => (hall r hr).2.1) (by omega : 1 ≤ n) (by omega)
      have HT : Hid (TT w h none (some bq) m ht xs) := t
      have HC : Hid (CH N 0 xs) := ch
      have HS : Hid (Srt xs) := hs
      have HA : Hid (∀ x ∈ xs, 0 ≤ x.a - x.g ∧ 0 ≤ x.g ∧ x.a ≤ N ∧ 0 ≤ x.s ∧ x.a + x.s ≤ N) := hall
      have HXB : Hid (∀ z ∈ xs, base ≤ z.b) := hxb
      have HCB : Hid (w.heap[hb]? = some (.cells #[pv (some bq), .int .i64 ((bsOf xs).length : Int)] 38 (0, 0))) := hc
      clear hc t ch hs hall hxb hmm
      go_enter Try.func8, Try.ntmps8
      go_upto_region 4 with (first | (go_at_call 15; refine W1.mono ?_; rintro e2 wx ⟨rfl, hwx⟩; replace hwx := hwx.symm; subst hwx) | (go_at_call 16; refine B1.mono ?_; rintro e2 w2 ⟨L, x, R, hxs, hL, hx, rfl, k2, rfl⟩))
      subst hxs
      obtain ⟨mx, hx', px, qx, hcx⟩ := HT.out.row x (by simp)
      obtain ⟨cx0, cx1, cx2, -, -, -, -, fx, lx⟩ := nd_cells hcx
      have hxA := HA.out x (by simp)
      have hw1 : wrap64 (x.a - x.g) = x.a - x.g := by unfold wrap64; omega
      have hw2 : wrap64 (x.g - n) = x.g - n := by unfold wrap64; omega
      have hw4 : wrap64 (x.a - x.g + 1) = x.a - x.g + 1 := by unfold wrap64; omega
      have HCX : Hid (w.heap[x.b]? = some (ndC x mx hx' px qx)) := hcx
      have HX : Hid (n ≤ x.g ∧ 0 ≤ x.a - x.g ∧ x.a ≤ N ∧ ∀ y ∈ L, y.g < n) := ⟨hx, hxA.1, hxA.2.2.1, hL⟩
      clear hcx hxA hL
      go_quiet (fail)
      go_upto_region 6 with fail
      have T3 : Hid (TT ((w.drewN (k2 + nq)).setCell ⟨x.b, 2, none⟩ (.int .i64 (x.g - n))) h (some (x.a - x.g)) (some bq) m ht (L ++ { x with g := x.g - n } :: R)) := TT.poke (a := x.a - x.g) (g := x.g - n) (x := x) (by have := HX.out; omega) (w := w.drewN (k2 + nq)) (HT.out.drewN _) HS.out (fun y hy => by have := HC.out.before y hy; omega)
      have F3 : Hid (FX (fun b => b = x.b) w ((w.drewN (k2 + nq)).setCell ⟨x.b, 2, none⟩ (.int .i64 (x.g - n)))) := ((FX.refl (fun b => b = x.b) w).drewN _).setCell (p := ⟨x.b, 2, none⟩) rfl _
      have X3 : Hid (((w.drewN (k2 + nq)).setCell ⟨x.b, 2, none⟩ (.int .i64 (x.g - n))).heap[x.b]? = some (ndC { x with g := x.g - n } mx hx' px qx)) := nd_set2 (w := w.drewN (k2 + nq)) HCX.out _
      have hxh : x.b ≠ hb := tag_ne HCX.out HCB.out (by decide)
      generalize (w.drewN (k2 + nq)).setCell ⟨x.b, 2, none⟩ (.int .i64 (x.g - n)) = wv at *
      have HV3 : Hid (wv.heap[hb]? = some (.cells #[pv (some bq), .int .i64 ((bsOf (L ++ x :: R)).length : Int)] 38 (0, 0))) := (F3.out.block hb (Ne.symm hxh)).trans HCB.out
      have cv0 : wv.cell? ⟨hb, 0, none⟩ = some (.pointer (some ⟨bq, 0, none⟩)) := cell_of_row wv _ 0 _ 38 (0, 0) HV3.out
      have fv := fun o => frozen_of_row wv _ o _ 38 HV3.out
      have lv : hb < wv.heap.size := (Array.getElem?_eq_some_iff.1 HV3.out).1
      have S2 : Calls Try.prog 17 #[.pointer (some ⟨bq, 0, none⟩), .pointer (some ⟨wv.heap.size, 0, none⟩)] (wv.drew.alloc (ndC ⟨wv.heap.size, x.a - x.g, n, 0⟩ 0 1 none none)) (TPost (InR (L ++ ⟨wv.heap.size, x.a - x.g, n, 0⟩ :: { x with g := x.g - n } :: R)) (wv.drew.alloc (ndC ⟨wv.heap.size, x.a - x.g, n, 0⟩ 0 1 none none)) (L ++ ⟨wv.heap.size, x.a - x.g, n, 0⟩ :: { x with g := x.g - n } :: R)) := by
        have s0 := HS.out.mid
        have s2 : Srt (L ++ { x with g := x.g - n } :: R) := Srt.mk s0.1 s0.2.1 s0.2.2.1 s0.2.2.2.1
        refine with_new T3.out (fun y hy => ?_) (fun y hy => ?_) s2 ?_
        · have := HC.out.before y hy
          omega
        · have hxx := HX.out
          simp at hy
          rcases hy with rfl | hy
          · show x.a - x.g < x.a; omega
          · have := s0.2.2.2.1 y hy; omega
        · have h3 := HC.out.hok.len
          have h4 := bsOf_len (xs := L ++ x :: R) (by simp)
          simp at h3 h4 ⊢
          omega
      have hwl : wrap64 (((bsOf (L ++ x :: R)).length : Int) + 1) = ((bsOf (L ++ x :: R)).length : Int) + 1 := by
        have h3 := HC.out.hok.len
        unfold wrap64
        omega
      have HNE : Hid (∀ W W', FX (InR (L ++ ⟨wv.heap.size, x.a - x.g, n, 0⟩ :: { x with g := x.g - n } :: R)) W W' → W = wv.drew.alloc (ndC ⟨wv.heap.size, x.a - x.g, n, 0⟩ 0 1 none none) → W'.heap[hb]? = some (.cells #[pv (some bq), .int .i64 ((bsOf (L ++ x :: R)).length : Int)] 38 (0, 0))) := fun W W' f e => by
        subst e
        refine (f.block hb (fun ⟨z, hz, e⟩ => ?_)).trans ((Below.heap_alloc wv.drew _ hb lv).trans HV3.out)
        simp at hz
        rcases hz with hz | rfl | rfl | hz
        · obtain ⟨_, _, _, _, hvc⟩ := HT.out.row z (by simp [hz])
          exact tag_ne hvc HCB.out (by decide) e
        · have e' : wv.heap.size = hb := e
          omega
        · exact hxh e
        · obtain ⟨_, _, _, _, hvc⟩ := HT.out.row z (by simp [hz])
          exact tag_ne hvc HCB.out (by decide) e
      clear cx0 cx1 cx2 fx lx c_0 c_1 l_h W1 B1
      go_region_with (first | (go_at_call 11; refine newBlock11.mono ?_; rintro e3 w3 ⟨rfl, rfl⟩) | (go_at_call 17; refine S2.mono ?_; rintro e4 w4 ⟨p4, k4, m4, ht4, rfl, t4, f4⟩; have hv4 := HNE.out _ _ f4 rfl; have cv4 : w4.cell? ⟨hb, 0, none⟩ = some (.pointer (some ⟨bq, 0, none⟩)) := cell_of_row w4 _ 0 _ 38 (0, 0) hv4; have fv4 := fun o => frozen_of_row w4 _ o _ 38 hv4; have lv4 : hb < w4.heap.size := (Array.getElem?_eq_some_iff.1 hv4).1))
      all_goals
        have c41 : w4.cell? ⟨hb, 1, none⟩ = some (.int .i64 ((bsOf (L ++ x :: R)).length : Int)) := cell_of_row w4 _ 1 _ 38 (0, 0) hv4
        have KK : Hid (HmPost w base hb N (allocV N (bsOf (L ++ x :: R)) n) (allocB N (bsOf (L ++ x :: R)) n) (.returned (.tuple #[.int .i64 (x.a - x.g + 1), .bool true])) ((w4.setCell ⟨hb, 0, none⟩ (pv p4)).setCell ⟨hb, 1, none⟩ (.int .i64 (((bsOf (L ++ x :: R)).length : Int) + 1)))) := alloc_done HCB.out HT.out HC.out (by omega) HX.out.2.2.2 HX.out.1 F3.out X3.out t4 f4 hN hbw hbb HXB.out
        generalize bsOf (L ++ x :: R) = bs at *
        clear t4 f4 hv4 S2 T3 F3 X3 HT HC HS HXB HNE HV3 HCB HH HNO HA
        go_wp2_with fail
        try go_ret2
        have KK2 := KK.out
        rw [← hw4] at KK2
        exact KK2
end Go.Proofs.Ytohhmcpaajcplaa
