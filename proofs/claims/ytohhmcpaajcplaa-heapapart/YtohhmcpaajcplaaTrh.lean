/- The heap's tree: upTo, find, behindGap. -/
import Derived.Test.YtohhmcpaajcplaaTrg
namespace Go.Proofs.Ytohhmcpaajcplaa
open Go.RowKit
set_option linter.all false
def lastB (L : List Rw) : Option Nat := L.getLast?.map (·.b)
def headB (L : List Rw) : Option Nat := L.head?.map (·.b)
theorem pv_none : pv none = .pointer none := rfl
theorem pv_some (b : Nat) : pv (some b) = .pointer (some ⟨b, 0, none⟩) := rfl
theorem lastB_snoc (L : List Rw) (r : Rw) : lastB (L ++ [r]) = some r.b := by simp [lastB]
set_option maxRecDepth 100000 in
set_option maxHeartbeats 1000000 in
theorem upTo12 {w : World} {h : Nat} {d : Option Int} {p : Option Nat} {m ht at_ : Int} {L R : List Rw} (t : TT w h d p m ht (L ++ R)) (hL : ∀ x ∈ L, x.a ≤ at_) (hR : ∀ x ∈ R, at_ < x.a) : Calls Try.prog 12 #[pv p, .int .i64 at_] w (Gives w (pv (lastB L))) := by
  have T : Hid (TT w h d p m ht (L ++ R)) := t
  have HL : Hid (∀ x ∈ L, x.a ≤ at_) := hL
  have HR : Hid (∀ x ∈ R, at_ < x.a) := hR
  clear t hL hR
  go_enter Try.func12, Try.ntmps12
  go_wp2_with fail
  go_loopg [0, 5] h (fun gg v0 v3 wr => ∃ p' d' m' ht' L0 L' R', v0 = pv p' ∧ v3 = pv (lastB L0) ∧ Hid (TT wr gg d' p' m' ht' (L' ++ R')) ∧ Hid (L = L0 ++ L') ∧ Hid (∀ x ∈ R', at_ < x.a) ∧ Hid (∃ n, wr = w.drewN n))
  case atStart => exact ⟨p, d, m, ht, [], L, R, rfl, rfl, T.out, rfl, HR.out, ⟨0, rfl⟩⟩
  case round =>
    obtain ⟨p', d', m', ht', L0, L', R', rfl, rfl, T', HE, HR', HW⟩ := hrel
    cases p' with
    | none =>
      have e := T'.out.of_none.2.2
      simp at e
      obtain ⟨rfl, rfl⟩ := e
      have HE2 : Hid (L = L0) := by show L = L0; simpa using HE.out
      rw [pv_none]
      go_wp2_with fail
      go_ret
      exact ⟨by rw [HE2.out]; rfl, HW.out⟩
    | some b =>
      obtain ⟨k, r, pl, pr, ml, mr, hl, hr, LL, RR, hk, rfl, hb, tl, tr, e, -, -⟩ := T'.out.out
      obtain ⟨cb0, -, -, -, -, cb5, cb6, -, lb⟩ := nd_cells hb
      rw [pv_some]
      by_cases hc : at_ < r.a
      · obtain ⟨R1, rfl, rfl⟩ := split_right e (fun hm => by have := HL.out r (by rw [HE.out]; simp [hm]); omega)
        have T2 : Hid (TT wr k (dl d' r.a) pl ml hl (L' ++ R1)) := tl
        clear e hb tl tr T'
        go_wp2_with fail
        go_roundg k
        case measure => omega
        case rel => exact ⟨pl, _, ml, hl, L0, L', R1, rfl, rfl, T2.out, HE.out, fun x hx => HR'.out x (by simp [hx]), HW.out⟩
      · obtain ⟨L1, rfl, rfl⟩ := split_left e (fun hm => by have := HR'.out r hm; omega)
        have T2 : Hid (TT wr k (dr d' r.a) pr mr hr (L1 ++ R')) := tr
        clear e hb tl tr T'
        go_wp2_with fail
        go_quiet (fail)
        go_wp2_with fail
        go_roundg k
        case measure => omega
        case rel =>
          obtain ⟨n0, hn0⟩ := HW.out
          exact ⟨pr, _, mr, hr, L0 ++ LL ++ [r], L1, R', rfl, by rw [lastB_snoc]; rfl, T2.out.drewN _, by show L = _; rw [HE.out]; simp, HR'.out, ⟨n0 + nq, by rw [hn0]; exact World.drewN_drewN _ _ _⟩⟩
end Go.Proofs.Ytohhmcpaajcplaa
