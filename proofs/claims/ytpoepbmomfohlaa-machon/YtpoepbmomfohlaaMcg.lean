/- The document's machine: slots are read and written. -/
import Derived.Test.YtpoepbmomfohlaaMcc
namespace Go.Proofs.Ytpoepbmomfohlaa
open Go.RowKit
set_option linter.all false
section
variable {w : World} {base mb : Nat} {cv : Value} {L : Ly} {m : Mc}
end
end Go.Proofs.Ytpoepbmomfohlaa
namespace Go.Proofs.Ytpoepbmomfohlaa
open Go.RowKit
set_option linter.all false
def Mc.fr (m : Mc) (t : Nat) : Int := ((m.ths[t]?).map Th.frame).getD 0
/-- A slot is written. -/
def Mc.wr (m : Mc) (t : Nat) (k n : Int) : Mc × Bool := if (slotR (m.fr t) t k).2 then ({ m with mem := upd m.mem (slotR (m.fr t) t k).1.toNat n }, true) else (m.fin (slotR (m.fr t) t k).1, false)
theorem fr_eq {m : Mc} {t : Nat} {th : Th} (ht : m.ths[t]? = some th) : m.fr t = th.frame := by unfold Mc.fr; rw [ht]; rfl
section
variable {w : World} {base mb : Nat} {cv : Value} {L : Ly} {m : Mc}
end
end Go.Proofs.Ytpoepbmomfohlaa
namespace Go.Proofs.Ytpoepbmomfohlaa
open Go.RowKit
set_option linter.all false
def miC (x : Mi) : Array Value := #[.int .i64 x.op, .int .i64 x.a, .int .i64 x.b, .int .i64 x.c, .int .i64 x.d, .int .i64 x.e]
def Mi.z : Mi := ⟨0, 0, 0, 0, 0, 0⟩
/-- Code that is only read. -/
structure CD (w : World) (base : Nat) (co : Option Addr) (code : List Mi) : Prop where
  at_ : ∀ (i : Nat) (x : Mi), code[i]? = some x → ∃ b f, co = some ⟨b, f, none⟩ ∧ b < base ∧ w.cell? ⟨b, f + i * 6, none⟩ = some (.int .i64 x.op) ∧ w.cell? ⟨b, f + i * 6 + 1, none⟩ = some (.int .i64 x.a) ∧ w.cell? ⟨b, f + i * 6 + 2, none⟩ = some (.int .i64 x.b) ∧ w.cell? ⟨b, f + i * 6 + 3, none⟩ = some (.int .i64 x.c) ∧ w.cell? ⟨b, f + i * 6 + 4, none⟩ = some (.int .i64 x.d) ∧ w.cell? ⟨b, f + i * 6 + 5, none⟩ = some (.int .i64 x.e)
  few : code.length ≤ 9223372036854775807
def insAt (code : List Mi) (pc : Int) : Mi × Bool := if pc < 0 then (Mi.z, false) else match code[pc.toNat]? with
  | some x => (x, true)
  | none => (Mi.z, false)
theorem CD.below {w w' : World} {base : Nat} {co : Option Addr} {code : List Mi} (h : CD w base co code) (hb : Below base w w') : CD w' base co code := ⟨fun i x hx => by
  obtain ⟨b, f, e, hl, c0, c1, c2, c3, c4, c5⟩ := h.at_ i x hx
  have k : ∀ o, w'.cell? ⟨b, o, none⟩ = w.cell? ⟨b, o, none⟩ := fun o => hb.cell (p := ⟨b, o, none⟩) hl
  exact ⟨b, f, e, hl, (k _).trans c0, (k _).trans c1, (k _).trans c2, (k _).trans c3, (k _).trans c4, (k _).trans c5⟩, h.few⟩
section
variable {w : World} {base mb : Nat} {co : Option Addr} {cc : Nat} {code : List Mi} {L : Ly} {m : Mc}
end
end Go.Proofs.Ytpoepbmomfohlaa
