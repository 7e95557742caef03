/- The document's machine: operators. -/
import Derived.Test.YtpoepbmomfohlaaMcg
namespace Go.Proofs.Ytpoepbmomfohlaa
open Go.RowKit
set_option linter.all false
def b2i (b : Bool) : Int := if b then 1 else 0
def in64 (x : Int) : Bool := decide (-9223372036854775808 ≤ x ∧ x ≤ 9223372036854775807)
/-- What an operator gives, and whether it can be reckoned; where it cannot, the number is of no account. -/
def reckon (op a b : Int) : Int × Bool :=
  if op = 0 then (a + b, in64 (a + b)) else if op = 1 then (a - b, in64 (a - b)) else if op = 2 then (a * b, in64 (a * b))
  else if op = 3 then (a.tdiv b, !(b == 0) && !(b == -1 && a == -9223372036854775808)) else if op = 4 then (a.tmod b, !(b == 0) && !(b == -1 && a == -9223372036854775808))
  else if op = 5 then (b2i (a == b), true) else if op = 6 then (b2i (a != b), true) else if op = 7 then (b2i (decide (a < b)), true) else if op = 8 then (b2i (decide (a ≤ b)), true)
  else if op = 9 then (b2i (decide (b < a)), true) else if op = 10 then (b2i (decide (b ≤ a)), true) else if op = 11 then (-a, in64 (-a)) else (b2i (a == 0), true)
def RkPost (w : World) (op a b : Int) (e : Ending) (w' : World) : Prop := (∃ m, w' = w.drewN m) ∧ ∃ v, e = .returned (.tuple #[.int .i64 v, .bool (reckon op a b).2]) ∧ ((reckon op a b).2 = true → v = (reckon op a b).1)
theorem in64_wrap {x : Int} (h : in64 x = true) : wrap64 x = x := by
  unfold in64 at h
  rw [decide_eq_true_iff] at h
  unfold wrap64
  omega
end Go.Proofs.Ytpoepbmomfohlaa
namespace Go.Proofs.Ytpoepbmomfohlaa
open Go.RowKit
set_option linter.all false
theorem mul64 {a b : Int} (hb : I64 b) (h0 : b ≠ 0) : ((wrap64 (a * b)).tdiv b == a) = in64 (a * b) := by
  have h3 := hb.1
  have h4 := hb.2
  obtain ⟨P, hP⟩ : ∃ P, P = a * b := ⟨_, rfl⟩
  obtain ⟨c, hc⟩ : ∃ c, c = wrap64 P := ⟨_, rfl⟩
  rw [← hP, ← hc]
  rw [Bool.eq_iff_iff, beq_iff_eq]
  unfold in64
  rw [decide_eq_true_iff]
  have e := Int.tdiv_mul_add_tmod c b
  have hm : (c.tmod b).natAbs < b.natAbs := by
    rw [Int.natAbs_tmod]
    exact Nat.mod_lt _ (by omega)
  constructor
  · intro h
    rw [h, ← hP] at e
    unfold wrap64 at hc
    omega
  · intro h
    have hcp : c = P := by
      rw [hc]
      unfold wrap64
      omega
    rw [hcp, hP]
    exact Int.mul_tdiv_cancel a h0
end Go.Proofs.Ytpoepbmomfohlaa
namespace Go.Proofs.Ytpoepbmomfohlaa
open Go.RowKit
set_option linter.all false
end Go.Proofs.Ytpoepbmomfohlaa
namespace Go.Proofs.Ytpoepbmomfohlaa
open Go.RowKit
set_option linter.all false
/-- Whether a thread's next step is a meeting; whether it can be done now. -/
def meetB (m : Mc) (code : List Mi) (t : Nat) (th : Th) : Bool × Bool :=
  if th.abo then (true, true)
  else if (insAt code th.pc).1.op = 16 ∨ (insAt code th.pc).1.op = 18 then (true, true)
  else if (insAt code th.pc).1.op = 17 then
    if (slotR th.frame t (insAt code th.pc).1.a).2 = false then (true, true)
    else if m.wordB (m.mem (slotR th.frame t (insAt code th.pc).1.a).1.toNat) (insAt code th.pc).1.c then (true, m.mem (m.mem (slotR th.frame t (insAt code th.pc).1.a).1.toNat + (insAt code th.pc).1.c).toNat != 0)
    else (true, true)
  else (false, true)
section
variable {w : World} {base mb : Nat} {co : Option Addr} {cc : Nat} {code : List Mi} {L : Ly} {m : Mc}
end
end Go.Proofs.Ytpoepbmomfohlaa
