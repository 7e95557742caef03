/- The heap's tree: find, behindGap. -/
import Derived.Test.YtohhmcpaajcplaaTrh
namespace Go.Proofs.Ytohhmcpaajcplaa
open Go.RowKit
set_option linter.all false
theorem headB_cons (r : Rw) (R : List Rw) : headB (r :: R) = some r.b := rfl
theorem tup2 (a b : Value) : (Value.tuple #[a, b]) = .tuple #[a, b] := rfl
set_option maxRecDepth 100000 in
set_option maxHeartbeats 1000000 in
theorem find13 {w : World} {h : Nat} {d : Option Int} {p : Option Nat} {m ht : Int} {x : Rw} {L R : List Rw} (t : TT w h d p m ht (L ++ x :: R)) (hs : Srt (L ++ x :: R)) : Calls Try.prog 13 #[pv p, .int .i64 x.a] w (Gives w (.tuple #[.pointer (some ⟨x.b, 0, none⟩), pv (headB R)])) := by
  have T : Hid (TT w h d p m ht (L ++ x :: R)) := t
  have HS : Hid (Srt (L ++ x :: R)) := hs
  clear t hs
  go_enter Try.func13, Try.ntmps13
  go_wp2_with fail
  go_loopg [0, 5] h (fun gg v0 v3 wr => ∃ p' d' m' ht' L' R' R0, v0 = pv p' ∧ v3 = pv (headB R0) ∧ Hid (TT wr gg d' p' m' ht' (L' ++ x :: R')) ∧ Hid (R = R' ++ R0) ∧ Hid (Srt (L' ++ x :: R')) ∧ Hid (∃ n, wr = w.drewN n))
  case atStart => exact ⟨p, d, m, ht, L, R, [], rfl, rfl, T.out, by show R = _; simp, HS.out, ⟨0, rfl⟩⟩
  case round =>
    obtain ⟨p', d', m', ht', L', R', R0, rfl, rfl, T', HE, HS', HW⟩ := hrel
    obtain ⟨b, hb⟩ := T'.out.some_of (by simp)
    subst hb
    obtain ⟨k, r, pl, pr, ml, mr, hl, hr, LL, RR, hk, rfl, hb, tl, tr, e, -, -⟩ := T'.out.out
    obtain ⟨cb0, -, -, -, -, cb5, cb6, -, lb⟩ := nd_cells hb
    rw [pv_some]
    rcases Int.lt_trichotomy x.a r.a with hlt | heq | hgt
    · obtain ⟨R1, hLL, rfl⟩ := split_right (L := L' ++ [x]) (R := R') (by simpa using e) (fun hm => by
        simp at hm
        rcases hm with hm | rfl
        · have := HS'.out.mid.2.2.1 r hm; omega
        · omega)
      have hLL : LL = L' ++ x :: R1 := by simpa using hLL
      subst hLL
      have T2 : Hid (TT wr k (dl d' r.a) pl ml hl (L' ++ x :: R1)) := tl
      have S2 : Hid (Srt (L' ++ x :: R1)) := by
        have h1 := HS'.out
        rw [e] at h1
        exact h1.mid.1
      clear e hb tl tr T'
      go_wp2_with fail
      go_quiet (fail)
      go_wp2_with fail
      go_roundg k
      case measure => omega
      case rel =>
        obtain ⟨n0, hn0⟩ := HW.out
        exact ⟨pl, _, ml, hl, L', R1, r :: (RR ++ R0), rfl, rfl, T2.out.drewN _, by show R = _; rw [HE.out]; simp, S2.out, ⟨n0 + nq, by rw [hn0]; exact World.drewN_drewN _ _ _⟩⟩
    · obtain ⟨rfl, rfl, rfl⟩ := split_same e HS'.out heq
      cases pr with
      | none =>
        obtain ⟨-, -, rfl⟩ := tr.of_none
        replace cb6 : wr.cell? ⟨x.b, 6, none⟩ = some (.pointer none) := cb6
        have HE2 : Hid (R = R0) := by show R = R0; simpa using HE.out
        clear e hb tl tr T'
        go_wp2_with fail
        try go_ret2
        exact ⟨by rw [HE2.out]; rfl, HW.out⟩
      | some c =>
        obtain ⟨y, ys, rfl⟩ : ∃ y ys, R' = y :: ys := by
          cases R' with
          | nil => have := tr.none_iff.2 rfl; simp at this
          | cons y ys => exact ⟨y, ys, rfl⟩
        replace cb6 : wr.cell? ⟨x.b, 6, none⟩ = some (.pointer (some ⟨c, 0, none⟩)) := cb6
        have HE2 : Hid (headB R = some y.b) := by show headB R = _; rw [HE.out]; rfl
        have F1 := first18 tr
        clear e hb tl tr T'
        go_wp2_with (go_at_call 18; refine F1.mono ?_; rintro e2 wx ⟨rfl, hwx⟩; replace hwx := hwx.symm; subst hwx)
        try go_ret2
        exact ⟨by rw [HE2.out]; rfl, HW.out⟩
    · obtain ⟨L1, rfl, rfl⟩ := split_left (L := L') (R := x :: R') e (fun hm => by
        simp at hm
        rcases hm with rfl | hm
        · omega
        · have := HS'.out.mid.2.2.2.1 r hm; omega)
      have T2 : Hid (TT wr k (dr d' r.a) pr mr hr (L1 ++ x :: R')) := tr
      have S2 : Hid (Srt (L1 ++ x :: R')) := by
        have h1 := HS'.out
        rw [e] at h1
        exact h1.mid.2.1
      clear e hb tl tr T'
      go_wp2_with fail
      go_roundg k
      case measure => omega
      case rel => exact ⟨pr, _, mr, hr, L1, R', R0, rfl, rfl, T2.out, HE.out, S2.out, HW.out⟩
set_option maxRecDepth 100000 in
set_option maxHeartbeats 1000000 in
theorem find13n {w : World} {h : Nat} {d : Option Int} {p : Option Nat} {m ht at_ : Int} {xs : List Rw} (t : TT w h d p m ht xs) (hs : ∀ x ∈ xs, x.a ≠ at_) : Calls Try.prog 13 #[pv p, .int .i64 at_] w (Gives w (.tuple #[.pointer none, .pointer none])) := by
  have T : Hid (TT w h d p m ht xs) := t
  have HS : Hid (∀ x ∈ xs, x.a ≠ at_) := hs
  clear t hs
  go_enter Try.func13, Try.ntmps13
  go_wp2_with fail
  go_loopg [0, 5] h (fun gg v0 v3 wr => ∃ p' d' m' ht' ys q, v0 = pv p' ∧ v3 = pv q ∧ Hid (TT wr gg d' p' m' ht' ys) ∧ Hid (∀ x ∈ ys, x.a ≠ at_) ∧ Hid (∃ n, wr = w.drewN n))
  case atStart => exact ⟨p, d, m, ht, xs, none, rfl, rfl, T.out, HS.out, ⟨0, rfl⟩⟩
  case round =>
    obtain ⟨p', d', m', ht', ys, q, rfl, rfl, T', HS', HW⟩ := hrel
    cases p' with
    | none =>
      rw [pv_none]
      clear T'
      go_wp2_with fail
      try go_ret2
      exact ⟨rfl, HW.out⟩
    | some b =>
      obtain ⟨k, r, pl, pr, ml, mr, hl, hr, LL, RR, hk, rfl, hb, tl, tr, rfl, -, -⟩ := T'.out.out
      obtain ⟨cb0, -, -, -, -, cb5, cb6, -, lb⟩ := nd_cells hb
      rw [pv_some]
      have hne := HS'.out r (by simp)
      by_cases hlt : at_ < r.a
      · have T2 : Hid (TT wr k (dl d' r.a) pl ml hl LL) := tl
        clear hb tl tr T'
        go_wp2_with fail
        go_quiet (fail)
        go_wp2_with fail
        go_roundg k
        case measure => omega
        case rel =>
          obtain ⟨n0, hn0⟩ := HW.out
          exact ⟨pl, _, ml, hl, LL, some r.b, rfl, rfl, T2.out.drewN _, fun x hx => HS'.out x (by simp [hx]), ⟨n0 + nq, by rw [hn0]; exact World.drewN_drewN _ _ _⟩⟩
      · have hgt : r.a < at_ := by omega
        have T2 : Hid (TT wr k (dr d' r.a) pr mr hr RR) := tr
        clear hb tl tr T' hne
        go_wp2_with fail
        go_roundg k
        case measure => omega
        case rel => exact ⟨pr, _, mr, hr, RR, q, rfl, rfl, T2.out, fun x hx => HS'.out x (by simp [hx]), HW.out⟩
set_option maxRecDepth 100000 in
set_option maxHeartbeats 1000000 in
theorem behindGap16 {w : World} {h : Nat} {b : Nat} {m ht n : Int} {xs : List Rw} (t : TT w h none (some b) m ht xs) (hg : ∀ r ∈ xs, 0 ≤ r.g) (hn : 1 ≤ n) (hm : n ≤ m) : Calls Try.prog 16 #[.pointer (some ⟨b, 0, none⟩), .int .i64 n] w (fun e w' => ∃ L x R, xs = L ++ x :: R ∧ (∀ y ∈ L, y.g < n) ∧ n ≤ x.g ∧ e = .returned (.pointer (some ⟨x.b, 0, none⟩)) ∧ ∃ k, w' = w.drewN k) := by
  have T : Hid (TT w h none (some b) m ht xs) := t
  have HG : Hid (∀ r ∈ xs, 0 ≤ r.g) := hg
  clear t hg
  go_enter Try.func16, Try.ntmps16
  go_wp2_with fail
  go_loopg [0] h (fun gg v0 wr => ∃ b' m' ht' L0 ys R0, v0 = .pointer (some ⟨b', 0, none⟩) ∧ Hid (TT w gg none (some b') m' ht' ys) ∧ Hid (xs = L0 ++ ys ++ R0) ∧ Hid (∀ y ∈ L0, y.g < n) ∧ n ≤ m' ∧ wr = w)
  case atStart => exact ⟨b, m, ht, [], xs, [], rfl, T.out, by show xs = _; simp, fun y hy => by simp at hy, hm, rfl⟩
  case round =>
    obtain ⟨b', m', ht', L0, ys, R0, rfl, T', HE, HL, hm', rfl⟩ := hrel
    obtain ⟨k, r, pl, pr, ml, mr, hl, hr, LL, RR, hk, rfl, hb, tl, tr, rfl, -, hmx⟩ := T'.out.out
    have hmx := hmx rfl
    have tl : TT wr k none pl ml hl LL := tl
    have tr : TT wr k none pr mr hr RR := tr
    obtain ⟨-, -, cb2, -, -, cb5, cb6, -, lb⟩ := nd_cells hb
    have W1 := widest15 tl
    have hml := tl.most (fun y hy => HG.out y (by rw [HE.out]; simp [hy]))
    by_cases h1 : n ≤ ml
    · obtain ⟨c, rfl⟩ : ∃ c, pl = some c := by
        cases pl with
        | none => have := tl.of_none; omega
        | some c => exact ⟨c, rfl⟩
      replace cb5 : wr.cell? ⟨r.b, 5, none⟩ = some (.pointer (some ⟨c, 0, none⟩)) := cb5
      have T2 : Hid (TT wr k none (some c) ml hl LL) := tl
      clear hb tl tr T' hmx hml
      go_wp2_with (go_at_call 15; refine W1.mono ?_; rintro e2 wx ⟨rfl, hwx⟩; replace hwx := hwx.symm; subst hwx)
      go_roundg k
      case measure => omega
      case rel => exact ⟨c, ml, hl, L0, LL, r :: (RR ++ R0), rfl, T2.out, by show xs = _; rw [HE.out]; simp, HL.out, h1, rfl⟩
    · by_cases h2 : n ≤ r.g
      · have KK : Hid (∃ L x R, xs = L ++ x :: R ∧ (∀ y ∈ L, y.g < n) ∧ n ≤ x.g ∧ Ending.returned (.pointer (some ⟨r.b, 0, none⟩)) = .returned (.pointer (some ⟨x.b, 0, none⟩)) ∧ ∃ k, wr = wr.drewN k) := ⟨L0 ++ LL, r, RR ++ R0, by rw [HE.out]; simp, fun y hy => by
          rcases List.mem_append.1 hy with hy | hy
          · exact HL.out y hy
          · have := hml.2.1 y hy; omega, h2, rfl, 0, rfl⟩
        clear hb tl tr T' hmx hml
        go_wp2_with (go_at_call 15; refine W1.mono ?_; rintro e2 wx ⟨rfl, hwx⟩; replace hwx := hwx.symm; subst hwx)
        try go_ret
        exact KK.out
      · have h3 : n ≤ mr := by omega
        obtain ⟨c, rfl⟩ : ∃ c, pr = some c := by
          cases pr with
          | none => have := tr.of_none; omega
          | some c => exact ⟨c, rfl⟩
        replace cb6 : wr.cell? ⟨r.b, 6, none⟩ = some (.pointer (some ⟨c, 0, none⟩)) := cb6
        have T2 : Hid (TT wr k none (some c) mr hr RR) := tr
        have HL2 : Hid (∀ y ∈ L0 ++ LL ++ [r], y.g < n) := fun y hy => by
          simp at hy
          rcases hy with hy | hy | rfl
          · exact HL.out y hy
          · have := hml.2.1 y hy; omega
          · omega
        clear hb tl tr T' hmx hml
        go_wp2_with (go_at_call 15; refine W1.mono ?_; rintro e2 wx ⟨rfl, hwx⟩; replace hwx := hwx.symm; subst hwx)
        go_roundg k
        case measure => omega
        case rel => exact ⟨c, mr, hr, L0 ++ LL ++ [r], RR, R0, rfl, T2.out, by show xs = _; rw [HE.out]; simp, HL2.out, h3, rfl⟩
end Go.Proofs.Ytohhmcpaajcplaa
