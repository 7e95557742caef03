/- The document's machine: a thread begins. -/
import Derived.Test.YtpoepbmomfohlaaTke
namespace Go.Proofs.Ytpoepbmomfohlaa
open Go.RowKit
set_option linter.all false
def Mc.swM (m : Mc) (t : Nat) (x : Mi) : Mc := match m.rd t x.b with
  | (none, m1) => m1
  | (some n, _) => if m.ths.length = 12 then m.fin 6 else { m with ths := m.ths ++ [Th.new x.a (stk m.ths.length)], mem := upd m.mem (stk m.ths.length).toNat n }
section
variable {base mb : Nat} {co : Option Addr} {cc : Nat} {code : List Mi} {N ib : Nat} {x : Mi} {w w' : World} {L L' : Ly} {m m' : Mc} {t : Nat} {th th' : Th}
end
end Go.Proofs.Ytpoepbmomfohlaa
namespace Go.Proofs.Ytpoepbmomfohlaa
open Go.RowKit
set_option linter.all false
section
variable {base mb : Nat} {co : Option Addr} {cc : Nat} {code : List Mi} {N ib : Nat} {x : Mi} {w w' : World} {L L' : Ly} {m m' : Mc} {t : Nat} {th th' : Th}
theorem MS.below (h : MS base mb co cc code N w L m) (hb : Below w.heap.size w w') : MS base mb co cc code N w' L m ∧ Kf L L w w' := by
  have k : Kf L L w w' := ⟨KX.of_below hb, fun _ _ h => h, rfl⟩
  exact ⟨h.next (h.mr.below hb) k h.ok, k⟩
theorem insAt_ok (hc : ∀ y ∈ code, y.ok) (pc : Int) : (insAt code pc).1.ok := by
  have hz : Mi.z.ok := ⟨I64_0, I64_0, I64_0, I64_0, I64_0, I64_0⟩
  unfold insAt
  split
  · exact hz
  · split
    · rename_i y hy
      exact hc _ (List.mem_of_getElem? hy)
    · exact hz
theorem MS.thr (h : MS base mb co cc code N w L m) (ht : m.ths[t]? = some th) : ∃ g, L.to_ = some ⟨g, 0, none⟩ ∧ w.cell? ⟨mb, 3, none⟩ = some (.slice (some ⟨g, 0, none⟩) m.ths.length L.tc) ∧ g < w.heap.size ∧ mb < w.heap.size ∧ (t : Int) < (m.ths.length : Int) ∧ w.cell? ⟨g, t * 6, none⟩ = some (.int .i64 th.pc) ∧ w.cell? ⟨g, t * 6 + 4, none⟩ = some (.bool th.abo) := by
  obtain ⟨g, r, e, hg, hr, c0, c1, c2, c3, c4, c5⟩ := h.mr.th.nth ht
  refine ⟨g, e, ?_, hg, h.mr.lt, by have := (List.getElem?_eq_some_iff.1 ht).1; omega, c0, c4⟩
  rw [cell_of_row w _ 3 _ 45 (0, 0) h.mr.blk, ← e]
  rfl
end
end Go.Proofs.Ytpoepbmomfohlaa
namespace Go.Proofs.Ytpoepbmomfohlaa
open Go.RowKit
set_option linter.all false
/-- What an instruction does, behind the thread's way on. -/
def Mc.exec (m : Mc) (t : Nat) (th : Th) (x : Mi) : Mc :=
  if x.op = 0 then (m.wr t x.a x.b).1
  else if x.op = 1 then (match m.rd t x.b with
    | (none, m1) => m1
    | (some n, _) => (m.wr t x.a n).1)
  else if x.op = 2 then (match slotR (m.fr t) t x.b with
    | (y, true) => (m.wr t x.a y).1
    | (y, false) => m.fin y)
  else if x.op = 3 then m.ldM t x else if x.op = 4 then m.stM t x else if x.op = 5 then m.opM t x
  else if x.op = 6 then m.goto t x.e
  else if x.op = 7 then (match m.rd t x.a with
    | (none, m1) => m1
    | (some n, _) => if n = 0 then m.goto t x.e else m)
  else if x.op = 8 then m.caM t th x x.a else if x.op = 9 then m.catM t th x else if x.op = 10 then m.reM t th false else if x.op = 11 then m.paM t th x else if x.op = 12 then m.reM t th true
  else if x.op = 13 then m.alM t x else if x.op = 14 then m.frM t x else if x.op = 15 then m.swM t x else if x.op = 16 then m else if x.op = 17 then m.waM t x else if x.op = 18 then m.ouM t x else if x.op = 19 then m.spM t th x
  else m.fin 9
def Mc.met (m : Mc) (code : List Mi) (t : Nat) (th : Th) : Mc := if (meetB m code t th).1 then { m with order := m.order ++ [(t : Int)] } else m
def Mc.stepM (m : Mc) (code : List Mi) (t : Nat) (th : Th) : Mc :=
  if th.abo then ({ m with steps := m.steps + 1 }.met code t th).fin 4
  else if (insAt code th.pc).2 then (({ m with steps := m.steps + 1 }.met code t th).setT t { th with pc := th.pc + 1 }).exec t { th with pc := th.pc + 1 } (insAt code th.pc).1
  else ({ m with steps := m.steps + 1 }.met code t th).fin 9
section
variable {base mb : Nat} {co : Option Addr} {cc : Nat} {code : List Mi} {N ib : Nat} {x : Mi} {w w' : World} {L L' : Ly} {m m' : Mc} {t : Nat} {th th' : Th}
theorem insAt_true {pc : Int} (h : (insAt code pc).2 = true) : 0 ≤ pc ∧ pc < (code.length : Int) := by
  unfold insAt at h
  split at h
  · cases h
  · split at h
    · rename_i y hy
      have := (List.getElem?_eq_some_iff.1 hy).1
      omega
    · cases h
end
end Go.Proofs.Ytpoepbmomfohlaa
namespace Go.Proofs.Ytpoepbmomfohlaa
open Go.RowKit
set_option linter.all false
/-- The first thread from number i on whose next step is no meeting; -1: none. -/
def aloneI (m : Mc) (code : List Mi) : Nat → List Th → Int
  | _, [] => -1
  | i, th :: r => if !th.over && !(meetB m code i th).1 then (i : Int) else aloneI m code (i + 1) r
theorem ms_lt {j l : Nat} (h : j < l) : l - (j + 1) < l - j := by omega
section
variable {base mb : Nat} {co : Option Addr} {cc : Nat} {code : List Mi} {N ib : Nat} {x : Mi} {w w' : World} {L L' : Ly} {m m' : Mc} {t : Nat} {th th' : Th}
theorem MS.over (h : MS base mb co cc code N w L m) (ht : m.ths[t]? = some th) {g : Nat} (hg : L.to_ = some ⟨g, 0, none⟩) : w.cell? ⟨g, t * 6 + 5, none⟩ = some (.bool th.over) := by
  obtain ⟨g', r, e, hg', hr, c0, c1, c2, c3, c4, c5⟩ := h.mr.th.nth ht
  rw [hg] at e
  obtain rfl : g = g' := by simpa using e
  exact c5
end
end Go.Proofs.Ytpoepbmomfohlaa
