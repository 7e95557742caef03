/- The project's machine: a call is over. -/
import Derived.Test.YtpoepbmomfohlaaPmv
import Derived.Test.YtpoepbmomfohlaaPna
import Derived.Test.YtpoepbmomfohlaaPnb
import Derived.Test.YtpoepbmomfohlaaPnc
namespace Go.Proofs.Ytpoepbmomfohlaa
open Go.RowKit
set_option linter.all false
section
variable {C : Ct} {N N' : Nat} {K : Nat → Obj → Prop} {w w' w1 : World} {ps : List Int} {tb tb' : List Nat} {m m' : Mc} {t b : Nat} {th th' : Th}
set_option maxRecDepth 100000 in
set_option maxHeartbeats 1000000 in
theorem leave_no (h : PS C N K w ps tb m) (ht : m.ths[t]? = some th) (hb : tb[t]? = some b) (hc : th.calls = []) : Calls Try.prog 40 #[ptr b] w (fun e w' => e = thr 9 ∧ PS C N K w' ps tb m) := by
  have HH : Hid (PS C N K w ps tb m) := h
  obtain ⟨pv, own, L, hp, hk⟩ := h.pr
  obtain ⟨l, T⟩ := hp.th t b th ht hb
  have c4 : w.cell? ⟨b, 4, none⟩ = some (.slice l.co 0 l.cc) := by
    rw [cell_of_row w _ 4 _ 50 (0, 0) T.blk]
    show some (Value.slice l.co th.calls.length l.cc) = _
    rw [hc]
    rfl
  have lb := (Array.getElem?_eq_some_iff.1 T.blk).1
  clear h hp hk T ht hb hc
  go_enter Try.func40, Try.ntmps40
  go_wp2_with fail
  exact ⟨rfl, rfl, HH.out⟩
set_option maxRecDepth 100000 in
set_option maxHeartbeats 1000000 in
theorem leave_yes (h : PS C N K w ps tb m) (ht : m.ths[t]? = some th) (hb : tb[t]? = some b) {cs : List (Int × Int × Int)} {c : Int × Int × Int} (hc : th.calls = cs ++ [c]) : Calls Try.prog 40 #[ptr b] w (fun e w' => e = .returned (.int .i64 (c.1 - 1)) ∧ PS C N K w' ps tb { m with ths := m.ths.set t { th with calls := cs, frame := c.2.2 } }) := by
  obtain ⟨q, cp, k4, hcap, hcs, lq, kq0, kq1, hcok, hcf, hpop⟩ := h.pop ht hb hc
  obtain ⟨at_, hat, d0, d1, d3, d5, d6, d7, d8, lb, fz, f0, f1⟩ := h.thr ht hb
  have HP : Hid _ := hpop
  have HF : Hid _ := hcf
  have HT2 : Hid ({ m with ths := m.ths.set t { th with calls := cs } }.ths[t]? = some { th with calls := cs }) := by
    show (m.ths.set t { th with calls := cs })[t]? = _
    rw [List.getElem?_set_self (List.getElem?_eq_some_iff.1 ht).1]
  have HTB : Hid (tb[t]? = some b) := hb
  have f4 := fz 4
  have f3 := fz 3
  have hw : wrap64 ((((cs.length + 1 : Nat)) : Int) - 1) = (cs.length : Int) := (wrap_id (by omega) (by omega)).trans (by omega)
  obtain ⟨n, hn⟩ : ∃ n : Nat, n = cs.length + 1 := ⟨_, rfl⟩
  rw [← hn] at k4 hw hcap
  have hn0 : (cs.length : Int) < (n : Int) := by omega
  have hnc : (n : Int) ≤ (cp : Int) := by omega
  have hc0 : (0 : Int) ≤ (cs.length : Int) := by omega
  obtain ⟨c1, c2, c3⟩ := c
  have HPC : Hid (I64 th.pc) := (h.ok.th t th ht).1
  clear h ht hb hc hpop hcf fz d0 d1 d5 d6 d7 d8 hat hcok f0 f1 hn
  go_enter Try.func40, Try.ntmps40
  go_wp2_with fail
  go_ret
  refine ⟨rfl, ?_⟩
  have q1 := HP.out.tcell (th' := { th with calls := cs, frame := c3 }) HT2.out HTB.out 3 (.int .i64 (c3 - stk t)) (fun a => a) (fun _ => rfl) rfl (fun _ h => h) HF.out (HP.out.ok.setTh HT2.out HPC.out rfl)
  have q2 := q1.below (al1 _ (.cells #[.int .i64 (c1 - 1), .int .i64 (c3 - stk t)] 85)).1
  have e : (m.ths.set t { th with calls := cs }).set t { th with calls := cs, frame := c3 } = m.ths.set t { th with calls := cs, frame := c3 } := List.set_set ..
  rw [← e]
  exact q2
end
end Go.Proofs.Ytpoepbmomfohlaa
