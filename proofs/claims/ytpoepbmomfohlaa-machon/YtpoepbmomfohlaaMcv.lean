/- The document's machine: panics. -/
import Derived.Test.YtpoepbmomfohlaaMcr
namespace Go.Proofs.Ytpoepbmomfohlaa
open Go.RowKit
set_option linter.all false
def Mc.setT (m : Mc) (t : Nat) (th : Th) : Mc := { m with ths := m.ths.set t th }
def Mc.paM (m : Mc) (t : Nat) (th : Th) (x : Mi) : Mc := if th.unw then m.setT t { th with abo := true } else m.setT t { th with unw := true, pc := x.e }
section
variable {base mb : Nat} {co : Option Addr} {cc : Nat} {code : List Mi} {N ib : Nat} {x : Mi} {w w' : World} {L L' : Ly} {m m' : Mc} {t : Nat} {th th' : Th}
end
end Go.Proofs.Ytpoepbmomfohlaa
namespace Go.Proofs.Ytpoepbmomfohlaa
open Go.RowKit
set_option linter.all false
def Mc.reM (m : Mc) (t : Nat) (th : Th) (res : Bool) : Mc := match th.calls.getLast? with
  | none => m.fin 9
  | some c => m.setT t { th with calls := th.calls.dropLast, frame := c.2.2, pc := if res then c.2.1 else c.1 }
section
variable {base mb : Nat} {co : Option Addr} {cc : Nat} {code : List Mi} {N ib : Nat} {x : Mi} {w w' : World} {L L' : Ly} {m m' : Mc} {t : Nat} {th th' : Th}
theorem OKM.pop (h : OKM N m) (ht : m.ths[t]? = some th) {cs : List (Int × Int × Int)} {c : Int × Int × Int} (hc : th.calls = cs ++ [c]) (hp : I64 th'.pc) (hcs : th'.calls = cs) : OKM N (m.setT t th') := ⟨h.mem, fun i y hy => by
  have hx2 : (m.ths.set t th')[i]? = some y := hy
  by_cases hi : i = t
  · subst hi
    rw [List.getElem?_set_self (List.getElem?_eq_some_iff.1 ht).1] at hx2
    obtain rfl := Option.some.inj hx2
    have h3 := h.th i th ht
    rw [hcs]
    rw [hc] at h3
    simp at h3
    exact ⟨hp, by omega, fun q hq => h3.2.2 _ _ _ (.inl hq)⟩
  · rw [List.getElem?_set_ne (Ne.symm hi)] at hx2
    exact h.th i y hx2, h.outs, h.order, h.steps, h.big⟩
theorem MX.alloc (h : MX base mb co cc code N ib x w L m) (o : Obj) : MX base mb co cc code N ib x (w.alloc o) L m ∧ Kf L L w (w.alloc o) := by
  have hb := (al1 w o).1
  have k : Kf L L w (w.alloc o) := ⟨KX.of_below hb, fun _ _ h => h, rfl⟩
  exact ⟨h.next (h.ms.mr.below hb) k h.ms.ok, k⟩
end
end Go.Proofs.Ytpoepbmomfohlaa
namespace Go.Proofs.Ytpoepbmomfohlaa
open Go.RowKit
set_option linter.all false
section
variable {w w1 : World} {base mb : Nat} {cv : Value} {L : Ly} {m : Mc}
end
def Mc.ouM (m : Mc) (t : Nat) (x : Mi) : Mc := match m.rd t x.a with
  | (none, m1) => m1
  | (some n, _) => { m with outs := m.outs ++ [n] }
section
variable {base mb : Nat} {co : Option Addr} {cc : Nat} {code : List Mi} {N ib : Nat} {x : Mi} {w w' : World} {L L' : Ly} {m m' : Mc} {t : Nat} {th th' : Th}
end
end Go.Proofs.Ytpoepbmomfohlaa
namespace Go.Proofs.Ytpoepbmomfohlaa
open Go.RowKit
set_option linter.all false
def Mc.spM (m : Mc) (t : Nat) (th : Th) (x : Mi) : Mc := if x.d = 1 then match m.rd t x.a with
    | (none, m1) => m1
    | (some n, _) => { m with value := n }.setT t { th with over := true }
  else if x.d = 2 then { m with failed := true }.setT t { th with over := true } else m.setT t { th with over := true }
section
variable {base mb : Nat} {co : Option Addr} {cc : Nat} {code : List Mi} {N ib : Nat} {x : Mi} {w w' : World} {L L' : Ly} {m m' : Mc} {t : Nat} {th th' : Th}
theorem MX.own (h : MX base mb co cc code N ib x w L m) (ht : m.ths[t]? = some th) {g : Nat} (hg : L.to_ = some ⟨g, 0, none⟩) : mb ≠ g ∧ ib ≠ g ∧ ib ≠ mb ∧ w.cell? ⟨mb, 7, none⟩ = some (.int .i64 m.value) ∧ w.cell? ⟨mb, 4, none⟩ = some (.bool m.failed) ∧ ∀ o, w.frozen? ⟨mb, o, none⟩ = false := by
  have h1 := h.ms.mr.th.orow g (by rw [hg]; rfl)
  refine ⟨fun e => ?_, fun e => ?_, fun e => ?_, cell_of_row w _ 7 _ 45 (0, 0) h.ms.mr.blk, cell_of_row w _ 4 _ 45 (0, 0) h.ms.mr.blk, fun o => frozen_of_row w _ o _ 45 h.ms.mr.blk⟩
  · have h2 := h.ms.mr.omb
    rw [e, h1] at h2
    simp at h2
  · have h2 := h.ko
    rw [e, h1] at h2
    simp at h2
  · have h2 := h.ko
    rw [e, h.ms.mr.omb] at h2
    simp at h2
end
end Go.Proofs.Ytpoepbmomfohlaa
