/- The heap in memory: Alloc. -/
import Derived.Test.YtpoepbmomfohlaaTrk
import Derived.Test.YtpoepbmomfohlaaMcg
import Derived.Test.YtpoepbmomfohlaaMcc
namespace Go.Proofs.Ytpoepbmomfohlaa
open Go.RowKit
set_option linter.all false
theorem alloc_done {w wv w4 : World} {base hb bq h : Nat} {N n m ht : Int} {L R : List Rw} {x : Rw} (hcb : w.heap[hb]? = some (.cells #[pv (some bq), .int .i64 ((bsOf (L ++ x :: R)).length : Int)] 55 (0, 0))) (t : TT w h none (some bq) m ht (L ++ x :: R)) (ch : CH N 0 (L ++ x :: R)) (hn : 1 ≤ n) (hL : ∀ y ∈ L, y.g < n) (hx : n ≤ x.g) (f3 : FX (fun b => b = x.b) w wv) {mx hx' : Int} {px qx : Option Nat} (hxv : wv.heap[x.b]? = some (ndC { x with g := x.g - n } mx hx' px qx)) {p4 : Option Nat} {k4 : Nat} {m4 ht4 : Int} (t4 : TT w4 k4 none p4 m4 ht4 (L ++ ⟨wv.heap.size, x.a - x.g, n, 0⟩ :: { x with g := x.g - n } :: R)) (f4 : FX (InR (L ++ ⟨wv.heap.size, x.a - x.g, n, 0⟩ :: { x with g := x.g - n } :: R)) (wv.drew.alloc (ndC ⟨wv.heap.size, x.a - x.g, n, 0⟩ 0 1 none none)) w4) (hN : N ≤ 3000000000) (hbw : base ≤ w.heap.size) (hbb : base ≤ hb) (hxb : ∀ z ∈ L ++ x :: R, base ≤ z.b) : HmPost w base hb N (allocV N (bsOf (L ++ x :: R)) n) (allocB N (bsOf (L ++ x :: R)) n) (.returned (.tuple #[.int .i64 (x.a - x.g + 1), .bool true])) ((w4.setCell ⟨hb, 0, none⟩ (pv p4)).setCell ⟨hb, 1, none⟩ (.int .i64 (((bsOf (L ++ x :: R)).length : Int) + 1))) := by
  obtain ⟨d1, d2⟩ := ch.put wv.heap.size hn hx
  have hfit := ch.fit hL hx
  have hxa := ch.all.2.2 x (by simp)
  have ha : halloc N (bsOf (L ++ x :: R)) n = some (x.a - x.g + 1, bsOf (L ++ ⟨wv.heap.size, x.a - x.g, n, 0⟩ :: { x with g := x.g - n } :: R)) := by
    unfold halloc
    rw [show (1 : Int) = 0 + 1 from rfl, hfit, if_neg (by omega), if_neg (by show ¬ N - n + (0 + 1) < x.a - x.g + 1; omega), d2]
    rfl
  have hin : ∀ z ∈ L ++ ⟨wv.heap.size, x.a - x.g, n, 0⟩ :: { x with g := x.g - n } :: R, z.b = wv.heap.size ∨ ∃ v ∈ L ++ x :: R, v.b = z.b := fun z hz => by
    simp at hz
    rcases hz with hz | rfl | rfl | hz
    · exact .inr ⟨z, by simp [hz], rfl⟩
    · exact .inl rfl
    · exact .inr ⟨x, by simp, rfl⟩
    · exact .inr ⟨z, by simp [hz], rfl⟩
  have hcv : wv.heap[hb]? = some (.cells #[pv (some bq), .int .i64 ((bsOf (L ++ x :: R)).length : Int)] 55 (0, 0)) := by
    obtain ⟨_, _, _, _, hvc⟩ := t.row x (by simp)
    exact (f3.block hb (fun e => tag_ne hvc hcb (by decide) e.symm)).trans hcb
  have hlt : hb < wv.heap.size := (Array.getElem?_eq_some_iff.1 hcv).1
  have hca : (wv.drew.alloc (ndC ⟨wv.heap.size, x.a - x.g, n, 0⟩ 0 1 none none)).heap[hb]? = some (.cells #[pv (some bq), .int .i64 ((bsOf (L ++ x :: R)).length : Int)] 55 (0, 0)) := (Below.heap_alloc wv.drew _ hb hlt).trans hcv
  have hne0 : ¬ InR (L ++ ⟨wv.heap.size, x.a - x.g, n, 0⟩ :: { x with g := x.g - n } :: R) hb := fun ⟨z, hz, e⟩ => by
    rcases hin z hz with h1 | ⟨v, hv, h1⟩
    · omega
    · obtain ⟨_, _, _, _, hvc⟩ := t.row v hv
      exact tag_ne hvc hcb (by decide) (h1.trans e)
  have hv4 := (f4.block hb hne0).trans hca
  have hlen : ((bsOf (L ++ x :: R)).length : Int) + 1 = ((bsOf (L ++ ⟨wv.heap.size, x.a - x.g, n, 0⟩ :: { x with g := x.g - n } :: R)).length : Int) := by
    have h1 := bsOf_len (xs := L ++ x :: R) (by simp)
    have h2 := bsOf_len (xs := L ++ ⟨wv.heap.size, x.a - x.g, n, 0⟩ :: { x with g := x.g - n } :: R) (by simp)
    simp at h1 h2
    omega
  have f5 : FX (fun b => b = hb ∨ InR (L ++ ⟨wv.heap.size, x.a - x.g, n, 0⟩ :: { x with g := x.g - n } :: R) b) (wv.drew.alloc (ndC ⟨wv.heap.size, x.a - x.g, n, 0⟩ 0 1 none none)) ((w4.setCell ⟨hb, 0, none⟩ (pv p4)).setCell ⟨hb, 1, none⟩ (.int .i64 (((bsOf (L ++ x :: R)).length : Int) + 1))) :=
    FX.setCell (p := ⟨hb, 1, none⟩) (FX.setCell (p := ⟨hb, 0, none⟩) (f4.mono (fun k e => .inr e)) (.inl rfl) _) (.inl rfl) _
  have b1 : Below base w wv := f3.below (fun k e => by subst e; exact hxb x (by simp))
  have hsz : wv.heap.size = w.heap.size := f3.size
  have b2 := al1 wv.drew (ndC ⟨wv.heap.size, x.a - x.g, n, 0⟩ 0 1 none none)
  have b3 : Below wv.heap.size wv (wv.drew.alloc (ndC ⟨wv.heap.size, x.a - x.g, n, 0⟩ 0 1 none none)) := ((Below.refl wv.heap.size wv).drew).alloc (Nat.le_refl _) _
  have hnew : (wv.drew.alloc (ndC ⟨wv.heap.size, x.a - x.g, n, 0⟩ 0 1 none none)).heap[wv.heap.size]? = some (ndC ⟨wv.heap.size, x.a - x.g, n, 0⟩ 0 1 none none) := b2.2
  refine ⟨by unfold allocV; rw [ha], ?_, ?_, ?_⟩
  · unfold allocB
    rw [ha]
    refine ⟨p4, k4, m4, ht4, L ++ ⟨wv.heap.size, x.a - x.g, n, 0⟩ :: { x with g := x.g - n } :: R, ?_, t4.frame (fun z hz => (Below.heap_setCell _ ⟨hb, 1, none⟩ _ _ (fun e => hne0 ⟨z, hz, e⟩)).trans (Below.heap_setCell _ ⟨hb, 0, none⟩ _ _ (fun e => hne0 ⟨z, hz, e⟩))), d1, rfl, hN, hbb, fun z hz => ?_⟩
    · show _ = some (Obj.cells #[pv p4, .int .i64 ((bsOf (L ++ ⟨wv.heap.size, x.a - x.g, n, 0⟩ :: { x with g := x.g - n } :: R)).length : Int)] 55 (0, 0))
      rw [← hlen]
      exact setH hv4
    · rcases hin z hz with h1 | ⟨v, hv, h1⟩
      · omega
      · rw [← h1]; exact hxb v hv
  · refine Below.trans b1 (Below.trans (b3.mono (by omega)) (f5.below (fun k hk => ?_)))
    rcases hk with rfl | ⟨z, hz, rfl⟩
    · exact hbb
    · rcases hin z hz with h1 | ⟨v, hv, h1⟩
      · omega
      · rw [← h1]; exact hxb v hv
  · refine KT.trans (f3.kt (fun k hk => ?_)) (KT.trans (KT.below b3) (f5.kt (fun k hk => ?_)))
    · subst hk
      obtain ⟨_, _, _, _, hvc⟩ := t.row x (by simp)
      exact ⟨_, 70, _, hvc, .inr rfl⟩
    · rcases hk with rfl | ⟨z, hz, rfl⟩
      · exact ⟨_, 55, _, hca, .inl rfl⟩
      · rcases hin z hz with h1 | ⟨v, hv, h1⟩
        · rw [h1]; exact ⟨_, 70, _, hnew, .inr rfl⟩
        · rw [← h1]
          obtain ⟨_, _, _, _, hvc⟩ := t.row v hv
          have hlt2 : v.b < wv.heap.size := by rw [hsz]; exact (Array.getElem?_eq_some_iff.1 hvc).1
          by_cases hvx : v.b = x.b
          · rw [hvx]
            exact ⟨_, 70, _, (Below.heap_alloc wv.drew _ x.b (hvx ▸ hlt2)).trans hxv, .inr rfl⟩
          · exact ⟨_, 70, _, (Below.heap_alloc wv.drew _ v.b hlt2).trans ((f3.block v.b hvx).trans hvc), .inr rfl⟩
theorem with_new {wv : World} {a n m ht : Int} {h bq : Nat} {L R : List Rw} (t : TT wv h (some a) (some bq) m ht (L ++ R)) (hL : ∀ x ∈ L, x.a < a) (hR : ∀ x ∈ R, a < x.a) (hs : Srt (L ++ R)) (len : (L ++ R).length ≤ 3999999999) : Calls Try.prog 49 #[.pointer (some ⟨bq, 0, none⟩), .pointer (some ⟨wv.heap.size, 0, none⟩)] (wv.drew.alloc (ndC ⟨wv.heap.size, a, n, 0⟩ 0 1 none none)) (TPost (InR (L ++ ⟨wv.heap.size, a, n, 0⟩ :: R)) (wv.drew.alloc (ndC ⟨wv.heap.size, a, n, 0⟩ 0 1 none none)) (L ++ ⟨wv.heap.size, a, n, 0⟩ :: R)) := by
  have b2 := al1 wv.drew (ndC ⟨wv.heap.size, a, n, 0⟩ 0 1 none none)
  have t2 : TT (wv.drew.alloc (ndC ⟨wv.heap.size, a, n, 0⟩ 0 1 none none)) h (some a) (some bq) m ht (L ++ R) := t.frame (fun z hz => by
    obtain ⟨_, _, _, _, hvc⟩ := t.row z hz
    exact Below.heap_alloc wv.drew _ z.b (Array.getElem?_eq_some_iff.1 hvc).1)
  have hn : (wv.drew.alloc (ndC ⟨wv.heap.size, a, n, 0⟩ 0 1 none none)).heap[wv.heap.size]? = some (ndC ⟨wv.heap.size, a, n, 0⟩ 0 1 none none) := b2.2
  exact with17 (n := ⟨wv.heap.size, a, n, 0⟩) (Int.le_refl _) (h := h) (p := some bq) (m := m) (ht := ht) (L := L) (R := R) t2 hn hL hR hs len
set_option maxRecDepth 100000 in
set_option maxHeartbeats 1000000 in
theorem alloc8 {w : World} {base hb : Nat} {N : Int} {bs : List (Int × Int)} (h : HM w base hb N bs) (hbw : base ≤ w.heap.size) {n : Int} (hn : I64 n) : Calls Try.prog 37 #[.pointer (some ⟨hb, 0, none⟩), .int .i64 n] w (HmPost w base hb N (allocV N bs n) (allocB N bs n)) := by
  have HH : Hid (HM w base hb N bs) := h
  obtain ⟨p, h, m, ht, xs, hc, t, ch, rfl, hN, hbb, hxb⟩ := h
  obtain ⟨hs, -, hall⟩ := ch.all
  obtain ⟨bq, rfl⟩ := t.some_of ch.ne
  have c_0 : w.cell? ⟨hb, 0, none⟩ = some (.pointer (some ⟨bq, 0, none⟩)) := cell_of_row w _ 0 _ 55 (0, 0) hc
  have c_1 : w.cell? ⟨hb, 1, none⟩ = some (.int .i64 ((bsOf xs).length : Int)) := cell_of_row w _ 1 _ 55 (0, 0) hc
  have l_h : hb < w.heap.size := (Array.getElem?_eq_some_iff.1 hc).1
  have hmm := t.most (fun r hr => (hall r hr).2.1)
  have HNO : Hid (halloc N (bsOf xs) n = none → ∀ k, HmPost w base hb N (allocV N (bsOf xs) n) (allocB N (bsOf xs) n) (.returned (.tuple #[.int .i64 0, .bool false])) (w.drewN k)) := fun e k => by
    unfold allocV allocB
    rw [e]
    exact HH.out.same _ k
  by_cases h1 : n < 1
  · have HN : Hid (halloc N (bsOf xs) n = none) := by unfold halloc; rw [if_pos (.inl h1)]; rfl
    clear hc t ch hs hall hxb hmm
    go_enter Try.func37, Try.ntmps37
    go_wp2_with fail
    try go_ret2
    exact HNO.out HN.out 0
  · have W1 := widest15 t
    replace W1 : Calls Try.prog 47 #[.pointer (some ⟨bq, 0, none⟩)] w (fun e w' => e = .returned (.int .i64 m) ∧ w' = w) := W1
    by_cases h2 : m < n
    · have HN : Hid (halloc N (bsOf xs) n = none) := by
        show halloc _ _ _ = none
        unfold halloc
        split
        · rfl
        · rw [if_pos]
          have := ch.nofit (n := n) (fun x hx => by have := hmm.2.1 x hx; omega)
          simpa using this
      clear hc t ch hs hall hxb hmm
      go_enter Try.func37, Try.ntmps37
      go_wp2_with (go_at_call 47; refine W1.mono ?_; rintro e2 wx ⟨rfl, hwx⟩; replace hwx := hwx.symm; subst hwx)
      try go_ret2
      exact HNO.out HN.out 0
    · have B1 := behindGap16 t (fun r hr => (hall r hr).2.1) (by omega : 1 ≤ n) (by omega)
      have HT : Hid (TT w h none (some bq) m ht xs) := t
      have HC : Hid (CH N 0 xs) := ch
      have HS : Hid (Srt xs) := hs
      have HA : Hid (∀ x ∈ xs, 0 ≤ x.a - x.g ∧ 0 ≤ x.g ∧ x.a ≤ N ∧ 0 ≤ x.s ∧ x.a + x.s ≤ N) := hall
      have HXB : Hid (∀ z ∈ xs, base ≤ z.b) := hxb
      have HCB : Hid (w.heap[hb]? = some (.cells #[pv (some bq), .int .i64 ((bsOf xs).length : Int)] 55 (0, 0))) := hc
      clear hc t ch hs hall hxb hmm
      go_enter Try.func37, Try.ntmps37
      go_upto_region 4 with (first | (go_at_call 47; refine W1.mono ?_; rintro e2 wx ⟨rfl, hwx⟩; replace hwx := hwx.symm; subst hwx) | (go_at_call 48; refine B1.mono ?_; rintro e2 w2 ⟨L, x, R, hxs, hL, hx, rfl, k2, rfl⟩))
      subst hxs
      obtain ⟨mx, hx', px, qx, hcx⟩ := HT.out.row x (by simp)
      obtain ⟨cx0, cx1, cx2, -, -, -, -, fx, lx⟩ := nd_cells hcx
      have hxA := HA.out x (by simp)
      have hw1 : wrap64 (x.a - x.g) = x.a - x.g := by unfold wrap64; omega
      have hw2 : wrap64 (x.g - n) = x.g - n := by unfold wrap64; omega
      have hw4 : wrap64 (x.a - x.g + 1) = x.a - x.g + 1 := by unfold wrap64; omega
      have HCX : Hid (w.heap[x.b]? = some (ndC x mx hx' px qx)) := hcx
      have HX : Hid (n ≤ x.g ∧ 0 ≤ x.a - x.g ∧ x.a ≤ N ∧ ∀ y ∈ L, y.g < n) := ⟨hx, hxA.1, hxA.2.2.1, hL⟩
      clear hcx hxA hL
      go_quiet (fail)
      go_upto_region 6 with fail
      have T3 : Hid (TT ((w.drewN (k2 + nq)).setCell ⟨x.b, 2, none⟩ (.int .i64 (x.g - n))) h (some (x.a - x.g)) (some bq) m ht (L ++ { x with g := x.g - n } :: R)) := TT.poke (a := x.a - x.g) (g := x.g - n) (x := x) (by have := HX.out; omega) (w := w.drewN (k2 + nq)) (HT.out.drewN _) HS.out (fun y hy => by have := HC.out.before y hy; omega)
      have F3 : Hid (FX (fun b => b = x.b) w ((w.drewN (k2 + nq)).setCell ⟨x.b, 2, none⟩ (.int .i64 (x.g - n)))) := ((FX.refl (fun b => b = x.b) w).drewN _).setCell (p := ⟨x.b, 2, none⟩) rfl _
      have X3 : Hid (((w.drewN (k2 + nq)).setCell ⟨x.b, 2, none⟩ (.int .i64 (x.g - n))).heap[x.b]? = some (ndC { x with g := x.g - n } mx hx' px qx)) := nd_set2 (w := w.drewN (k2 + nq)) HCX.out _
      have hxh : x.b ≠ hb := tag_ne HCX.out HCB.out (by decide)
      generalize (w.drewN (k2 + nq)).setCell ⟨x.b, 2, none⟩ (.int .i64 (x.g - n)) = wv at *
      have HV3 : Hid (wv.heap[hb]? = some (.cells #[pv (some bq), .int .i64 ((bsOf (L ++ x :: R)).length : Int)] 55 (0, 0))) := (F3.out.block hb (Ne.symm hxh)).trans HCB.out
      have cv0 : wv.cell? ⟨hb, 0, none⟩ = some (.pointer (some ⟨bq, 0, none⟩)) := cell_of_row wv _ 0 _ 55 (0, 0) HV3.out
      have fv := fun o => frozen_of_row wv _ o _ 55 HV3.out
      have lv : hb < wv.heap.size := (Array.getElem?_eq_some_iff.1 HV3.out).1
      have S2 : Calls Try.prog 49 #[.pointer (some ⟨bq, 0, none⟩), .pointer (some ⟨wv.heap.size, 0, none⟩)] (wv.drew.alloc (ndC ⟨wv.heap.size, x.a - x.g, n, 0⟩ 0 1 none none)) (TPost (InR (L ++ ⟨wv.heap.size, x.a - x.g, n, 0⟩ :: { x with g := x.g - n } :: R)) (wv.drew.alloc (ndC ⟨wv.heap.size, x.a - x.g, n, 0⟩ 0 1 none none)) (L ++ ⟨wv.heap.size, x.a - x.g, n, 0⟩ :: { x with g := x.g - n } :: R)) := by
        have s0 := HS.out.mid
        have s2 : Srt (L ++ { x with g := x.g - n } :: R) := Srt.mk s0.1 s0.2.1 s0.2.2.1 s0.2.2.2.1
        refine with_new T3.out (fun y hy => ?_) (fun y hy => ?_) s2 ?_
        · have := HC.out.before y hy
          omega
        · have hxx := HX.out
          simp at hy
          rcases hy with rfl | hy
          · show x.a - x.g < x.a; omega
          · have := s0.2.2.2.1 y hy; omega
        · have h3 := HC.out.hok.len
          have h4 := bsOf_len (xs := L ++ x :: R) (by simp)
          simp at h3 h4 ⊢
          omega
      have hwl : wrap64 (((bsOf (L ++ x :: R)).length : Int) + 1) = ((bsOf (L ++ x :: R)).length : Int) + 1 := by
        have h3 := HC.out.hok.len
        unfold wrap64
        omega
      have HNE : Hid (∀ W W', FX (InR (L ++ ⟨wv.heap.size, x.a - x.g, n, 0⟩ :: { x with g := x.g - n } :: R)) W W' → W = wv.drew.alloc (ndC ⟨wv.heap.size, x.a - x.g, n, 0⟩ 0 1 none none) → W'.heap[hb]? = some (.cells #[pv (some bq), .int .i64 ((bsOf (L ++ x :: R)).length : Int)] 55 (0, 0))) := fun W W' f e => by
        subst e
        refine (f.block hb (fun ⟨z, hz, e⟩ => ?_)).trans ((Below.heap_alloc wv.drew _ hb lv).trans HV3.out)
        simp at hz
        rcases hz with hz | rfl | rfl | hz
        · obtain ⟨_, _, _, _, hvc⟩ := HT.out.row z (by simp [hz])
          exact tag_ne hvc HCB.out (by decide) e
        · have e' : wv.heap.size = hb := e
          omega
        · exact hxh e
        · obtain ⟨_, _, _, _, hvc⟩ := HT.out.row z (by simp [hz])
          exact tag_ne hvc HCB.out (by decide) e
      clear cx0 cx1 cx2 fx lx c_0 c_1 l_h W1 B1
      go_region_with (first | (go_at_call 16; refine newBlock11.mono ?_; rintro e3 w3 ⟨rfl, rfl⟩) | (go_at_call 49; refine S2.mono ?_; rintro e4 w4 ⟨p4, k4, m4, ht4, rfl, t4, f4⟩; have hv4 := HNE.out _ _ f4 rfl; have cv4 : w4.cell? ⟨hb, 0, none⟩ = some (.pointer (some ⟨bq, 0, none⟩)) := cell_of_row w4 _ 0 _ 55 (0, 0) hv4; have fv4 := fun o => frozen_of_row w4 _ o _ 55 hv4; have lv4 : hb < w4.heap.size := (Array.getElem?_eq_some_iff.1 hv4).1))
      all_goals
        have c41 : w4.cell? ⟨hb, 1, none⟩ = some (.int .i64 ((bsOf (L ++ x :: R)).length : Int)) := cell_of_row w4 _ 1 _ 55 (0, 0) hv4
        have KK : Hid (HmPost w base hb N (allocV N (bsOf (L ++ x :: R)) n) (allocB N (bsOf (L ++ x :: R)) n) (.returned (.tuple #[.int .i64 (x.a - x.g + 1), .bool true])) ((w4.setCell ⟨hb, 0, none⟩ (pv p4)).setCell ⟨hb, 1, none⟩ (.int .i64 (((bsOf (L ++ x :: R)).length : Int) + 1)))) := alloc_done HCB.out HT.out HC.out (by omega) HX.out.2.2.2 HX.out.1 F3.out X3.out t4 f4 hN hbw hbb HXB.out
        generalize bsOf (L ++ x :: R) = bs at *
        clear t4 f4 hv4 S2 T3 F3 X3 HT HC HS HXB HNE HV3 HCB HH HNO HA
        go_wp2_with fail
        try go_ret2
        have KK2 := KK.out
        rw [← hw4] at KK2
        exact KK2
end Go.Proofs.Ytpoepbmomfohlaa
namespace Go.Proofs.Ytpoepbmomfohlaa
open Go.RowKit
set_option linter.all false
theorem HM.kt {w w' : World} {base hb : Nat} {N : Int} {bs : List (Int × Int)} (h : HM w base hb N bs) (k : KT (fun t => t = 55 ∨ t = 70) w w') : HM w' base hb N bs := by
  obtain ⟨p, h, m, ht, xs, hc, t, r⟩ := h
  exact ⟨p, h, m, ht, xs, heap_kt' k hc (.inl rfl), t.frame (fun z hz => by
    obtain ⟨_, _, _, _, hvc⟩ := t.row z hz
    exact k _ _ _ _ hvc (.inr rfl)), r⟩
theorem HM.ok {w : World} {base hb : Nat} {N : Int} {bs : List (Int × Int)} (h : HM w base hb N bs) : HOK N 1 bs := by
  obtain ⟨p, h, m, ht, xs, hc, t, ch, rfl, r⟩ := h
  exact ch.hok
/-- Whose the blocks are. -/
structure OW (own : Nat → Option (Nat × Nat)) (base : Nat) (w : World) : Prop where
  olt : ∀ b, own b ≠ none → base ≤ b ∧ b < w.heap.size
  nh : ∀ b, own b ≠ none → ∃ c t, w.heap[b]? = some (.cells c t (0, 0)) ∧ t ≠ 55 ∧ t ≠ 70
  bs : base ≤ w.heap.size
/-- Only blocks of some groups have changed, and others are new. -/
structure CG (own own' : Nat → Option (Nat × Nat)) (G : Nat → Prop) (base : Nat) (w w' : World) : Prop where
  kx : KX (fun b => own b ≠ none) w.heap.size w w'
  same : ∀ b t, own b = some t → ¬ G t.1 → w'.heap[b]? = w.heap[b]?
  kp : ∀ b t, own b = some t → ¬ G t.1 → own' b = some t
  on : ∀ b, b < w.heap.size → own b = none → own' b = none
  ow : OW own' base w'
section
variable {own own' own'' : Nat → Option (Nat × Nat)} {G G' : Nat → Prop} {base : Nat} {w w' w'' : World}
theorem OW.free (h : OW own base w) {b : Nat} (hb : w.heap.size ≤ b) : own b = none := Classical.byContradiction fun hn => by
  have := (h.olt b hn).2
  omega
theorem CG.refl (h : OW own base w) : CG own own G base w w := ⟨KX.refl _ _ _, fun _ _ _ _ => rfl, fun _ _ h _ => h, fun _ _ h => h, h⟩
theorem CG.trans (h : CG own own' G base w w') (k : CG own' own'' G base w' w'') : CG own own'' G base w w'' :=
  ⟨⟨k.kx.os.trans h.kx.os, k.kx.tape.trans h.kx.tape, k.kx.output.trans h.kx.output, Nat.le_trans h.kx.size k.kx.size, fun b hb hn => (k.kx.block b (Nat.lt_of_lt_of_le hb h.kx.size) (fun hx => hx (h.on b hb (Classical.byContradiction hn)))).trans (h.kx.block b hb hn)⟩, fun b t e hg => (k.same b t (h.kp b t e hg) hg).trans (h.same b t e hg), fun b t e hg => k.kp b t (h.kp b t e hg) hg, fun b hb e => k.on b (Nat.lt_of_lt_of_le hb h.kx.size) (h.on b hb e), k.ow⟩
theorem CG.mono (h : CG own own' G base w w') (hG : ∀ x, G x → G' x) : CG own own' G' base w w' := ⟨h.kx, fun b t e hg => h.same b t e (fun hx => hg (hG _ hx)), fun b t e hg => h.kp b t e (fun hx => hg (hG _ hx)), h.on, h.ow⟩
theorem CG.below (h : OW own base w) (hb : Below w.heap.size w w') : CG own own G base w w' := ⟨KX.of_below hb, fun b t e _ => hb.block b (h.olt b (by rw [e]; simp)).2, fun _ _ h _ => h, fun _ _ h => h, ⟨fun b hn => ⟨(h.olt b hn).1, Nat.lt_of_lt_of_le (h.olt b hn).2 hb.size⟩, fun b hn => by
  obtain ⟨c, t, e, r⟩ := h.nh b hn
  exact ⟨c, t, (hb.block b (h.olt b hn).2).trans e, r⟩, Nat.le_trans h.bs hb.size⟩⟩
theorem CG.drewN (h : OW own base w) (k : Nat) : CG own own G base w (w.drewN k) := CG.below h ⟨rfl, rfl, rfl, Nat.le_refl _, fun _ _ => rfl⟩
theorem CG.set (h : OW own base w) {b : Nat} {t : Nat × Nat} (hb : own b = some t) (hG : G t.1) (o : Nat) (u : Value) : CG own own G base w (w.setCell ⟨b, o, none⟩ u) :=
  ⟨(KX.refl _ _ _).setCell (p := ⟨b, o, none⟩) (.inr (by rw [hb]; simp)) u, fun b' t' e hg => Below.heap_setCell _ _ _ _ (fun e2 => by
    have e3 : b' = b := e2
    subst e3
    rw [hb] at e
    rw [← Option.some.inj e] at hg
    exact hg hG), fun _ _ h _ => h, fun _ _ h => h, ⟨fun b hn => ⟨(h.olt b hn).1, by simpa using (h.olt b hn).2⟩, fun b' hn => by
    obtain ⟨c, t', e, r⟩ := h.nh b' hn
    by_cases hbb : b' = b
    · subst hbb
      exact ⟨_, t', heap_setCell_same w b' o _ t' u e, r⟩
    · exact ⟨c, t', (Below.heap_setCell _ ⟨b, o, none⟩ _ _ hbb).trans e, r⟩, by simpa using h.bs⟩⟩
theorem CG.new (h : OW own base w) {c : Array Value} {ty : TypeId} (h1 : ty ≠ 55) (h2 : ty ≠ 70) (t : Nat × Nat) : CG own (own1 own w.heap.size t) G base w (w.alloc (.cells c ty)) := by
  have hf : own w.heap.size = none := h.free (Nat.le_refl _)
  have hW := al1 w (.cells c ty)
  have hz : (w.alloc (.cells c ty)).heap.size = w.heap.size + 1 := by simp
  refine ⟨KX.of_below hW.1, fun b t e _ => hW.1.block b (h.olt b (by rw [e]; simp)).2, fun b t' e _ => by rw [own1_ne (fun e2 => by subst e2; rw [hf] at e; cases e)]; exact e, fun b hb e => by rw [own1_ne (by omega)]; exact e, ⟨fun b hn => ?_, fun b hn => ?_, Nat.le_trans h.bs hW.1.size⟩⟩
  · by_cases hb : b = w.heap.size
    · have := h.bs
      omega
    · rw [own1_ne hb] at hn
      have := h.olt b hn
      omega
  · by_cases hb : b = w.heap.size
    · subst hb
      exact ⟨c, ty, hW.2, h1, h2⟩
    · rw [own1_ne hb] at hn
      obtain ⟨c', t', e, r⟩ := h.nh b hn
      exact ⟨c', t', (hW.1.block b (h.olt b hn).2).trans e, r⟩
/-- A row lies elsewhere: its old block is nobody's. -/
def own2 (own : Nat → Option (Nat × Nat)) (b : Nat) (t : Nat × Nat) : Nat → Option (Nat × Nat) := fun x => if x = b then some t else if own x = some t then none else own x
theorem own2_at {b : Nat} {t : Nat × Nat} : own2 own b t b = some t := by unfold own2; rw [if_pos rfl]
theorem own2_old {b x : Nat} {t t' : Nat × Nat} (hx : x ≠ b) (h : own x = some t') (ht : t' ≠ t) : own2 own b t x = some t' := by unfold own2; rw [if_neg hx, if_neg (by rw [h]; simpa using ht)]; exact h
theorem own2_none {b x : Nat} {t : Nat × Nat} (hx : x ≠ b) (h : own x = none) : own2 own b t x = none := by unfold own2; rw [if_neg hx, if_neg (by rw [h]; simp)]; exact h
theorem own2_some {b x : Nat} {t : Nat × Nat} (hx : x ≠ b) (h : own2 own b t x ≠ none) : ∃ t', own x = some t' ∧ t' ≠ t := by
  unfold own2 at h
  rw [if_neg hx] at h
  split at h
  · exact absurd rfl h
  · rename_i hn
    cases ho : own x with
    | none => exact absurd ho h
    | some t' => exact ⟨t', rfl, fun e => hn (by rw [ho, e])⟩
/-- A row has grown. -/
theorem CG.grown {W w1 : World} (h : OW own base w) (hW : Below w.heap.size w W) {el size n k : Nat} {v v' : Value} {xs ys : List Value} (A : App W base el size v n xs ys k v' w1) {t : Nat × Nat} (hG : G t.1) (h1 : el ≠ 55) (h2 : el ≠ 70) (ho : ∀ b, v.ownBlock = some b → own b = some t) : ∃ own', CG own own' G base w w1 ∧ (∀ b, v'.ownBlock = some b → own' b = some t) ∧ (∀ b t', own b = some t' → t' ≠ t → own' b = some t') ∧ ∀ b t', own b = some t' → t' ≠ t → w1.heap[b]? = w.heap[b]? := by
  have hz := A.grown.size
  have hz2 := hW.size
  have hsame : ∀ b, b < w.heap.size → v.ownBlock ≠ some b → w1.heap[b]? = w.heap[b]? := fun b hb hv => (A.grown.block b (Nat.lt_of_lt_of_le hb hz2) (fun e => hv e.symm)).trans (hW.block b hb)
  have hkx : KX (fun b => own b ≠ none) w.heap.size w w1 := KX.grown (KX.of_below hW) A.grown (by omega) (fun k e => .inr (by rw [ho k e]; simp))
  have hs2 : ∀ b t', own b = some t' → t' ≠ t → w1.heap[b]? = w.heap[b]? := fun b t' e hne => hsame b (h.olt b (by rw [e]; simp)).2 (fun e2 => by
    have := ho b e2
    rw [e] at this
    exact hne (Option.some.inj this))
  have hs : ∀ b t', own b = some t' → ¬ G t'.1 → w1.heap[b]? = w.heap[b]? := fun b t' e hg => hs2 b t' e (fun e2 => hg (e2 ▸ hG))
  rcases A.own with e | e
  · refine ⟨own, ⟨hkx, hs, fun _ _ h _ => h, fun _ _ h => h, ⟨fun b hn => ⟨(h.olt b hn).1, by have := (h.olt b hn).2; omega⟩, fun b hn => ?_, by have := h.bs; omega⟩⟩, fun b hb => ho b (e ▸ hb), fun _ _ h _ => h, hs2⟩
    by_cases hv : v'.ownBlock = some b
    · obtain ⟨c, hc⟩ := own_heap A.row hv
      exact ⟨c, el, hc, h1, h2⟩
    · obtain ⟨c, t', e2, r⟩ := h.nh b hn
      exact ⟨c, t', (hsame b (h.olt b hn).2 (fun e3 => hv (e.trans e3))).trans e2, r⟩
  · have hfr : own W.heap.size = none := h.free hz2
    have hne : ∀ {b t'}, own b = some t' → b ≠ W.heap.size := fun {b t'} e2 e3 => by subst e3; rw [hfr] at e2; cases e2
    refine ⟨own2 own W.heap.size t, ⟨hkx, hs, fun b t' e2 hg => own2_old (hne e2) e2 (fun e3 => hg (e3 ▸ hG)), fun b hb e2 => own2_none (by omega) e2, ⟨fun b hn => ?_, fun b hn => ?_, by have := h.bs; omega⟩⟩, fun b hb => ?_, fun b t' e2 hg => own2_old (hne e2) e2 hg, hs2⟩
    · by_cases hb : b = W.heap.size
      · subst hb
        exact A.row.lt _ e
      · obtain ⟨t', e2, -⟩ := own2_some hb hn
        have := h.olt b (by rw [e2]; simp)
        omega
    · by_cases hb : b = W.heap.size
      · subst hb
        obtain ⟨c, hc⟩ := own_heap A.row e
        exact ⟨c, el, hc, h1, h2⟩
      · obtain ⟨t', e2, e3⟩ := own2_some hb hn
        obtain ⟨c, t2, e4, r⟩ := h.nh b (by rw [e2]; simp)
        exact ⟨c, t2, (hs2 b t' e2 e3).trans e4, r⟩
    · rw [e] at hb
      rw [← Option.some.inj hb]
      exact own2_at
theorem HM.cg {hb : Nat} {N : Int} {bs : List (Int × Int)} (h : HM w base hb N bs) (o : OW own base w) (c : CG own own' G base w w') : HM w' base hb N bs := h.kt (fun b cs t z hc ht => c.kx.block b (Array.getElem?_eq_some_iff.1 hc).1 (fun hn => by
  obtain ⟨c', t', e, r1, r2⟩ := o.nh b hn
  rw [hc] at e
  injection Option.some.inj e with _ e2
  rcases ht with rfl | rfl
  · exact r1 e2.symm
  · exact r2 e2.symm))
end
end Go.Proofs.Ytpoepbmomfohlaa
namespace Go.Proofs.Ytpoepbmomfohlaa
open Go.RowKit
set_option linter.all false
def pgP : Option Nat → Value
  | some g => .pointer (some ⟨g, 0, none⟩)
  | none => .pointer none
/-- Words in pages. -/
structure PZ (w : World) (base : Nat) (own : Nat → Option (Nat × Nat)) (g : Nat) (po : Option Addr) (pc : Nat) (pg : List (Option Nat)) (mem : Nat → Int) : Prop where
  row : w.ownsRow base 71 1 (.slice po pg.length pc) pg.length (pg.map pgP)
  orow : ∀ b, (Value.slice po pg.length pc).ownBlock = some b → own b = some (g, 0)
  page : ∀ (i q : Nat), pg[i]? = some (some q) → own q = some (g, i + 1) ∧ w.heap[q]? = some (.cells (pageA mem i) 73 (0, 0))
  zero : ∀ a, a < 4194304 → (∀ q, pg[a / 1024]? ≠ some (some q)) → mem a = 0
  few : pg.length ≤ 4096
/-- Words in pages, and the block in which their row stands. -/
structure WS (base g b o : Nat) (tg : Nat × Nat) (c : Array Value) (ty : TypeId) (mem : Nat → Int) (own : Nat → Option (Nat × Nat)) (po : Option Addr) (pc : Nat) (pg : List (Option Nat)) (w : World) : Prop where
  ow : OW own base w
  pz : PZ w base own g po pc pg mem
  blk : w.heap[b]? = some (.cells (c.setIfInBounds o (.slice po pg.length pc)) ty (0, 0))
  ob : own b = some tg
  ho : o < c.size
  htg : tg.1 ≠ g
section
variable {w w' : World} {base g b o : Nat} {tg : Nat × Nat} {c : Array Value} {ty : TypeId} {own own' : Nat → Option (Nat × Nat)} {po : Option Addr} {pc : Nat} {pg : List (Option Nat)} {mem : Nat → Int}
theorem PZ.same (h : PZ w base own g po pc pg mem) (hs : ∀ b s, own b = some (g, s) → w'.heap[b]? = w.heap[b]? ∧ own' b = some (g, s)) : PZ w' base own' g po pc pg mem :=
  ⟨ownsRow_same h.row (fun b hb _ => (hs b 0 (h.orow b hb)).1), fun b hb => (hs b 0 (h.orow b hb)).2, fun i q hq => ⟨(hs q _ (h.page i q hq).1).2, (hs q _ (h.page i q hq).1).1.trans (h.page i q hq).2⟩, h.zero, h.few⟩
theorem PZ.cg {G : Nat → Prop} (h : PZ w base own g po pc pg mem) (k : CG own own' G base w w') (hg : ¬ G g) : PZ w' base own' g po pc pg mem := h.same (fun b s e => ⟨k.same b _ e hg, k.kp b _ e hg⟩)
theorem PZ.nth (h : PZ w base own g po pc pg mem) {i : Nat} {x : Option Nat} (hx : pg[i]? = some x) : ∃ q, po = some ⟨q, 0, none⟩ ∧ q < w.heap.size ∧ w.cell? ⟨q, i, none⟩ = some (pgP x) := by
  have hl := (List.getElem?_eq_some_iff.1 hx).1
  rcases h.row.2 with ⟨h1, h2⟩ | ⟨q, cap, cur, h1, hb, hg, hnc, hcm, hcs, htake⟩
  · omega
  · simp at h1
    refine ⟨q, h1.1, (Array.getElem?_eq_some_iff.1 hg).1, ?_⟩
    rw [cell_of_row w q i cur 71 (0, 0) hg]
    have e : (cur.toList.take (pg.length * 1))[i]? = some (pgP x) := by rw [htake, List.getElem?_map, hx]; rfl
    rw [List.getElem?_take, if_pos (by omega)] at e
    simpa using e
theorem PZ.word (h : PZ w base own g po pc pg mem) {a q : Nat} (hx : pg[a / 1024]? = some (some q)) : q < w.heap.size ∧ w.cell? ⟨q, a % 1024, none⟩ = some (.int .i64 (mem a)) := by
  obtain ⟨h1, h3⟩ := h.page _ _ hx
  refine ⟨(Array.getElem?_eq_some_iff.1 h3).1, ?_⟩
  rw [cell_of_row w q _ _ 73 (0, 0) h3, pageA_at (by omega)]
  congr 3
  omega
set_option maxRecDepth 100000 in
set_option maxHeartbeats 1000000 in
theorem get61 (h : PZ w base own g po pc pg mem) (hc : w.cell? ⟨b, o, none⟩ = some (.slice po pg.length pc)) (hl : b < w.heap.size) (a : Nat) (ha : a < 4194304) : Calls Try.prog 34 #[.pointer (some ⟨b, o, none⟩), .int .i64 a] w (Gives w (.int .i64 (mem a))) := by
  have HH : Hid (PZ w base own g po pc pg mem) := h
  have hfew := h.few
  clear h
  obtain ⟨p, hp⟩ : ∃ p, p = a / 1024 := ⟨_, rfl⟩
  have hdiv : (a : Int).tdiv 1024 = (p : Int) := by rw [hp, Int.tdiv_eq_ediv_of_nonneg (by omega)]; omega
  obtain ⟨q, hq⟩ : ∃ q, q = a % 1024 := ⟨_, rfl⟩
  have hmod : (a : Int).tmod 1024 = (q : Int) := by rw [hq, Int.tmod_eq_emod_of_nonneg (by omega)]; omega
  have hp0 : (0 : Int) ≤ (p : Int) := by omega
  by_cases hlt : p < pg.length
  · have hltI : (p : Int) < (pg.length : Int) := by omega
    obtain ⟨x, hx⟩ : ∃ x, pg[p]? = some x := ⟨_, List.getElem?_eq_getElem hlt⟩
    obtain ⟨g0, e0, hg0, c0⟩ := HH.out.nth hx
    subst e0
    cases x with
    | none =>
      have HZ : Hid (mem a = 0) := HH.out.zero a ha (fun g hg => by rw [← hp, hx] at hg; simp at hg)
      have c0' : w.cell? ⟨g0, p, none⟩ = some (.pointer none) := c0
      clear hx c0 hp hq ha
      go_enter Try.func34, Try.ntmps34
      go_wp2_with fail
      go_ret
      exact ⟨by rw [HZ.out]; rfl, 0, rfl⟩
    | some q0 =>
      have hgw := HH.out.word (a := a) (by rw [← hp]; exact hx)
      have c0' : w.cell? ⟨g0, p, none⟩ = some (.pointer (some ⟨q0, 0, none⟩)) := c0
      have c1 : w.cell? ⟨q0, q, none⟩ = some (.int .i64 (mem a)) := by rw [hq]; exact hgw.2
      have l1 := hgw.1
      have hq1 : (q : Int) < 1024 := by omega
      have hq0 : (0 : Int) ≤ (q : Int) := by omega
      clear hx c0 hp hq hgw ha
      go_enter Try.func34, Try.ntmps34
      go_wp2_with fail
      go_ret
      exact ⟨rfl, 0, rfl⟩
  · have HZ : Hid (mem a = 0) := HH.out.zero a ha (fun g hg => by
      have : a / 1024 < pg.length := (List.getElem?_eq_some_iff.1 hg).1
      omega)
    have hltI : ¬ (p : Int) < (pg.length : Int) := by omega
    have hpB : (p : Int) ≤ 4096 := by omega
    clear hp hq hlt ha
    go_enter Try.func34, Try.ntmps34
    go_wp2_with fail
    go_ret
    exact ⟨by rw [HZ.out]; rfl, 0, rfl⟩
end
end Go.Proofs.Ytpoepbmomfohlaa
namespace Go.Proofs.Ytpoepbmomfohlaa
open Go.RowKit
set_option linter.all false
theorem infPP : (Try.prog.info? 71).map (fun i => (i.zero, i.size, i.bytes)) = some (some (.pointer none), 1, 8) := by kernel_rfl
section
variable {w w1 : World} {base g b o : Nat} {tg : Nat × Nat} {c : Array Value} {ty : TypeId} {own own' : Nat → Option (Nat × Nat)} {po : Option Addr} {pc : Nat} {pg : List (Option Nat)} {mem : Nat → Int}
theorem WS.lt (h : WS base g b o tg c ty mem own po pc pg w) : b < w.heap.size := (Array.getElem?_eq_some_iff.1 h.blk).1
theorem WS.cell (h : WS base g b o tg c ty mem own po pc pg w) : w.cell? ⟨b, o, none⟩ = some (.slice po pg.length pc) := by
  rw [cell_of_row w b o _ ty (0, 0) h.blk]
  have := h.ho
  simp [this]
theorem WS.row0 (h : WS base g b o tg c ty mem own po pc pg w) {b' : Nat} (hb : (Value.slice po pg.length pc).ownBlock = some b') : b ≠ b' := fun e => by
  have h1 := h.pz.orow b' hb
  rw [← e, h.ob] at h1
  exact h.htg (congrArg Prod.fst (Option.some.inj h1))
theorem WS.grow (h : WS base g b o tg c ty mem own po pc pg w) (hf : pg.length + 1 ≤ 4096) {v' : Value} (A : App (w.alloc (.cells #[.pointer none] 71)) base 71 1 (.slice po pg.length pc) pg.length (pg.map pgP) [.pointer none] 1 v' w1) : w1.heap[b]? = some (.cells (c.setIfInBounds o (.slice po pg.length pc)) ty (0, 0)) ∧ ∃ own' po' pc', v' = .slice po' (pg.length + 1) pc' ∧ WS base g b o tg c ty mem own' po' pc' (pg ++ [none]) (w1.setCell ⟨b, o, none⟩ v') ∧ CG own own' (fun x => x = g ∨ x = tg.1) base w (w1.setCell ⟨b, o, none⟩ v') := by
  obtain ⟨own', k1, k2, k3, k4⟩ := CG.grown (G := fun x => x = g ∨ x = tg.1) h.ow (al1 w _).1 A (t := (g, 0)) (.inl rfl) (by decide) (by decide) h.pz.orow
  obtain ⟨po', pc', rfl⟩ := A.shape
  have hb1 : w1.heap[b]? = some (.cells (c.setIfInBounds o (.slice po pg.length pc)) ty (0, 0)) := (k4 b tg h.ob (fun e => h.htg (congrArg Prod.fst e))).trans h.blk
  have ob1 : own' b = some tg := k3 b tg h.ob (fun e => h.htg (congrArg Prod.fst e))
  have k5 := CG.set (G := fun x => x = g ∨ x = tg.1) k1.ow ob1 (.inr rfl) o (.slice po' (pg.length + 1) pc')
  have hrow : w1.ownsRow base 71 1 (.slice po' (pg ++ [none]).length pc') (pg ++ [none]).length ((pg ++ [none]).map pgP) := by
    rw [List.map_append, List.length_append]
    exact A.row
  have hP : PZ w1 base own' g po' pc' (pg ++ [none]) mem := by
    refine ⟨hrow, fun b' e => k2 b' (by simpa using e), fun i q hq => ?_, fun a ha hn => h.pz.zero a ha (fun q hq => hn q ?_), by simpa using hf⟩
    · have hq' : pg[i]? = some (some q) := by
        rcases Nat.lt_or_ge i pg.length with hl | hl
        · rwa [List.getElem?_append_left hl] at hq
        · rw [List.getElem?_append_right hl] at hq
          cases hi : i - pg.length with
          | zero => rw [hi] at hq; simp at hq
          | succ n => rw [hi] at hq; simp at hq
      obtain ⟨q1, q3⟩ := h.pz.page i q hq'
      exact ⟨k3 q _ q1 (by simp), (k4 q _ q1 (by simp)).trans q3⟩
    · rw [List.getElem?_append_left (List.getElem?_eq_some_iff.1 hq).1]
      exact hq
  refine ⟨hb1, own', po', pc', rfl, ⟨k5.ow, ?_, ?_, ob1, h.ho, h.htg⟩, k1.trans k5⟩
  · exact hP.same (fun b' s e => ⟨Below.heap_setCell _ _ _ _ (fun e2 => by
      have e3 : b' = b := e2
      rw [e3, ob1] at e
      exact h.htg (congrArg Prod.fst (Option.some.inj e))), e⟩)
  · rw [heap_setCell_same w1 b o _ ty _ hb1]
    simp
theorem WS.page (h : WS base g b o tg c ty mem own po pc pg w) {i g0 : Nat} (hi : pg[i]? = some none) (hg0 : po = some ⟨g0, 0, none⟩) : ∃ own', WS base g b o tg c ty mem own' po pc (pg.set i (some w.heap.size)) ((w.alloc (.cells (pageA mem i) 73)).setCell ⟨g0, i, none⟩ (.pointer (some ⟨w.heap.size, 0, none⟩))) ∧ CG own own' (fun x => x = g ∨ x = tg.1) base w ((w.alloc (.cells (pageA mem i) 73)).setCell ⟨g0, i, none⟩ (.pointer (some ⟨w.heap.size, 0, none⟩))) := by
  have k1 := CG.new (G := fun x => x = g ∨ x = tg.1) h.ow (c := pageA mem i) (ty := 73) (by decide) (by decide) (g, i + 1)
  have hW := al1 w (.cells (pageA mem i) 73)
  have hf : own w.heap.size = none := h.ow.free (Nat.le_refl _)
  have hil := (List.getElem?_eq_some_iff.1 hi).1
  have hob : (Value.slice po pg.length pc).ownBlock = some g0 := by rw [hg0]; rfl
  have hog := h.pz.orow g0 hob
  have hgl := (h.ow.olt g0 (by rw [hog]; simp)).2
  have hkp : ∀ b' t, own b' = some t → own1 own w.heap.size (g, i + 1) b' = some t := fun b' t e => by rw [own1_ne (fun e2 => by subst e2; rw [hf] at e; cases e)]; exact e
  have k2 := CG.set (G := fun x => x = g ∨ x = tg.1) k1.ow (hkp g0 _ hog) (.inl rfl) i (.pointer (some ⟨w.heap.size, 0, none⟩))
  have hs : ∀ b' t, own b' = some t → b' ≠ g0 → ((w.alloc (.cells (pageA mem i) 73)).setCell ⟨g0, i, none⟩ (.pointer (some ⟨w.heap.size, 0, none⟩))).heap[b']? = w.heap[b']? := fun b' t e hne => (Below.heap_setCell _ _ _ _ hne).trans (hW.1.block b' (h.ow.olt b' (by rw [e]; simp)).2)
  have hrow := ownsRow_put (ownsRow_same h.pz.row (w' := w.alloc (.cells (pageA mem i) 73)) (fun b _ hl => hW.1.block b hl)) hob i (.pointer (some ⟨w.heap.size, 0, none⟩))
  have hlen : (pg.set i (some w.heap.size)).length = pg.length := List.length_set ..
  refine ⟨own1 own w.heap.size (g, i + 1), ⟨k2.ow, ⟨?_, ?_, fun j q hq => ?_, fun a ha hn => h.pz.zero a ha (fun q hq => ?_), by rw [hlen]; exact h.pz.few⟩, ?_, hkp b tg h.ob, h.ho, h.htg⟩, k1.trans k2⟩
  · have e : (pg.set i (some w.heap.size)).map pgP = (pg.map pgP).set i (.pointer (some ⟨w.heap.size, 0, none⟩)) := by rw [List.map_set]; rfl
    rw [e, hlen]
    exact hrow
  · rw [hlen]
    exact fun b' e => hkp b' _ (h.pz.orow b' e)
  · by_cases hji : j = i
    · subst hji
      rw [List.getElem?_set_self hil] at hq
      obtain rfl : w.heap.size = q := by simpa using hq
      refine ⟨own1_at, ?_⟩
      rw [Below.heap_setCell _ _ _ _ (by show w.heap.size ≠ g0; omega)]
      exact hW.2
    · rw [List.getElem?_set_ne (fun e => hji e.symm)] at hq
      obtain ⟨q1, q3⟩ := h.pz.page j q hq
      exact ⟨hkp q _ q1, (hs q _ q1 (fun e2 => by subst e2; rw [hog] at q1; simp at q1)).trans q3⟩
  · by_cases hai : a / 1024 = i
    · rw [hai, hi] at hq
      simp at hq
    · exact hn q (by rw [List.getElem?_set_ne (fun e => hai e.symm)]; exact hq)
  · rw [hlen]
    exact (hs b tg h.ob (h.row0 hob)).trans h.blk
theorem WS.word (h : WS base g b o tg c ty mem own po pc pg w) {a q : Nat} (hq : pg[a / 1024]? = some (some q)) (n : Int) : WS base g b o tg c ty (upd mem a n) own po pc pg (w.setCell ⟨q, a % 1024, none⟩ (.int .i64 n)) ∧ CG own own (fun x => x = g ∨ x = tg.1) base w (w.setCell ⟨q, a % 1024, none⟩ (.int .i64 n)) := by
  obtain ⟨q1, q3⟩ := h.pz.page _ _ hq
  have k := CG.set (G := fun x => x = g ∨ x = tg.1) h.ow q1 (.inl rfl) (a % 1024) (.int .i64 n)
  have hs : ∀ b t, own b = some t → t ≠ (g, a / 1024 + 1) → (w.setCell ⟨q, a % 1024, none⟩ (.int .i64 n)).heap[b]? = w.heap[b]? := fun b t e hne => Below.heap_setCell _ _ _ _ (fun e2 => by
    have e3 : b = q := e2
    subst e3
    rw [q1] at e
    exact hne (Option.some.inj e).symm)
  refine ⟨⟨k.ow, ⟨ownsRow_same h.pz.row (fun b hb _ => hs b _ (h.pz.orow b hb) (by simp)), h.pz.orow, fun i q' hq' => ?_, fun x hx hn => ?_, h.pz.few⟩, (hs b tg h.ob (fun e => h.htg (congrArg Prod.fst e))).trans h.blk, h.ob, h.ho, h.htg⟩, k⟩
  · obtain ⟨r1, r3⟩ := h.pz.page i q' hq'
    refine ⟨r1, ?_⟩
    by_cases hi : i = a / 1024
    · subst hi
      obtain rfl : q = q' := by rw [hq] at hq'; simpa using hq'
      rw [heap_setCell_same w q _ _ 73 _ q3, pageA_set]
    · rw [pageA_else hi, hs q' _ r1 (by simp; omega)]
      exact r3
  · unfold upd
    rw [if_neg (fun e => by subst e; exact hn q hq)]
    exact h.pz.zero x hx hn
theorem pz_run (h : WS base g b o tg c ty mem own po pc pg w) (hf : pg.length + 1 ≤ 4096) (tt : TypeId) {ad : Nat} (had : ad = w.heap.size) : ∃ v' w', (Builtin.append_ #[36, 36] tt #[.slice po pg.length pc, .slice (some ⟨ad, 0, none⟩) 1 1]).run Try.prog (w.alloc (.cells #[.pointer none] 71)) = .ok v' w' ∧ (w'.heap[b]? = some (.cells (c.setIfInBounds o (.slice po pg.length pc)) ty (0, 0)) ∧ ∃ own' po' pc', v' = .slice po' (pg.length + 1) pc' ∧ WS base g b o tg c ty mem own' po' pc' (pg ++ [none]) (w'.setCell ⟨b, o, none⟩ v') ∧ CG own own' (fun x => x = g ∨ x = tg.1) base w (w'.setCell ⟨b, o, none⟩ v')) := by
  obtain ⟨v', w', hr, A⟩ := app1 Try.underlying36 infPP rfl (by decide) h.pz.row h.ow.bs #[.pointer none] rfl (fun u hu => by simp at hu; rw [hu]; rfl) (by unfold maxLen; omega) (by omega) tt had
  exact ⟨v', w', hr, h.grow hf A⟩
end
end Go.Proofs.Ytpoepbmomfohlaa
