/- The document's machine: its code. -/
import Derived.Test.YtflifialjdhenaaMce
namespace Go.Proofs.Ytflifialjdhenaa
open Go.RowKit
set_option linter.all false
def miC (x : Mi) : Array Value := #[.int .i64 x.op, .int .i64 x.a, .int .i64 x.b, .int .i64 x.c, .int .i64 x.d, .int .i64 x.e]
def Mi.z : Mi := ⟨0, 0, 0, 0, 0, 0⟩
/-- Code that is only read. -/
structure CD (w : World) (base : Nat) (co : Option Addr) (code : List Mi) : Prop where
  at_ : ∀ (i : Nat) (x : Mi), code[i]? = some x → ∃ b f, co = some ⟨b, f, none⟩ ∧ b < base ∧ w.cell? ⟨b, f + i * 6, none⟩ = some (.int .i64 x.op) ∧ w.cell? ⟨b, f + i * 6 + 1, none⟩ = some (.int .i64 x.a) ∧ w.cell? ⟨b, f + i * 6 + 2, none⟩ = some (.int .i64 x.b) ∧ w.cell? ⟨b, f + i * 6 + 3, none⟩ = some (.int .i64 x.c) ∧ w.cell? ⟨b, f + i * 6 + 4, none⟩ = some (.int .i64 x.d) ∧ w.cell? ⟨b, f + i * 6 + 5, none⟩ = some (.int .i64 x.e)
  few : code.length ≤ 9223372036854775807
def insAt (code : List Mi) (pc : Int) : Mi × Bool := if pc < 0 then (Mi.z, false) else match code[pc.toNat]? with
  | some x => (x, true)
  | none => (Mi.z, false)
theorem CD.below {w w' : World} {base : Nat} {co : Option Addr} {code : List Mi} (h : CD w base co code) (hb : Below base w w') : CD w' base co code := ⟨fun i x hx => by
  obtain ⟨b, f, e, hl, c0, c1, c2, c3, c4, c5⟩ := h.at_ i x hx
  have k : ∀ o, w'.cell? ⟨b, o, none⟩ = w.cell? ⟨b, o, none⟩ := fun o => hb.cell (p := ⟨b, o, none⟩) hl
  exact ⟨b, f, e, hl, (k _).trans c0, (k _).trans c1, (k _).trans c2, (k _).trans c3, (k _).trans c4, (k _).trans c5⟩, h.few⟩
set_option maxRecDepth 100000 in
theorem results_ins {fn : Func} (hf : fn.results = #[.cell 4 72, .tmp 5]) {tmps : Array Value} {b : Nat} {x : Value} (h4 : tmps.getD 4 undef = .pointer (some ⟨b, 0, none⟩)) (h5 : tmps.getD 5 undef = x) {W : World} {c0 c1 c2 c3 c4 c5 : Value} (hB : W.heap[b]? = some (.cells #[c0, c1, c2, c3, c4, c5] 72 (0, 0))) :
    (results fn tmps).run Try.prog W = .ok (.tuple #[.agg #[c0, c1, c2, c3, c4, c5], x]) W := by
  have y := fun o => cell_of_row W b o _ 72 (0, 0) hB
  have h4' : tmps[4]?.getD undef = .pointer (some ⟨b, 0, none⟩) := by simpa using h4
  have h5' : tmps[5]?.getD undef = x := by simpa using h5
  simp [results, hf, h4', h5', go_sem, y]
section
variable {w : World} {base mb : Nat} {co : Option Addr} {cc : Nat} {code : List Mi} {L : Ly} {m : Mc}
set_option maxRecDepth 100000 in
set_option maxHeartbeats 1000000 in
theorem ins38 (h : MR w base mb (.slice co code.length cc) L m) (hc : CD w base co code) {t : Nat} {th : Th} (ht : m.ths[t]? = some th) (hpc : I64 th.pc) : Calls Try.prog 29 #[.pointer (some ⟨mb, 0, none⟩), .int .i64 t] w (fun e w' => e = .returned (.tuple #[.agg (miC (insAt code th.pc).1), .bool (insAt code th.pc).2]) ∧ Below w.heap.size w w') := by
  have htl : t < m.ths.length := (List.getElem?_eq_some_iff.1 ht).1
  have htI : (t : Int) < (m.ths.length : Int) := by omega
  have ht0 : (0 : Int) ≤ (t : Int) := by omega
  have hfew := h.th.few
  have hcf := hc.few
  obtain ⟨g, r, e0, hg, hr, c0, -⟩ := h.th.nth ht
  have c_3 : w.cell? ⟨mb, 3, none⟩ = some (.slice (some ⟨g, 0, none⟩) m.ths.length L.tc) := by
    rw [cell_of_row w _ 3 _ 45 (0, 0) h.blk, ← e0]
    rfl
  have c_0 : w.cell? ⟨mb, 0, none⟩ = some (.slice co code.length cc) := by rw [cell_of_row w _ 0 _ 45 (0, 0) h.blk]; rfl
  have l_m : mb < w.heap.size := h.lt
  have hbm := h.hbase
  obtain ⟨pc, hpe⟩ : ∃ pc, pc = th.pc := ⟨_, rfl⟩
  rw [← hpe] at c0 hpc ⊢
  clear hpe h ht e0 hr
  by_cases h1 : pc < 0
  · have HI : Hid (insAt code pc = (Mi.z, false)) := by show _ = _; unfold insAt; rw [if_pos h1]
    go_enter Try.func29, Try.ntmps29
    go_wp2_with fail
    refine bodyPost_ret (results_ins Try.results29 rfl rfl (al1 w _).2) rfl ⟨?_, (al1 w _).1⟩
    rw [HI.out]
    rfl
  · obtain ⟨k, rfl⟩ : ∃ k : Nat, pc = (k : Int) := ⟨pc.toNat, by omega⟩
    have h0 : (0 : Int) ≤ (k : Int) := by omega
    cases hx : code[k]? with
    | none =>
      have HI : Hid (insAt code (k : Int) = (Mi.z, false)) := by
        show _ = _
        unfold insAt
        rw [if_neg h1, Int.toNat_natCast, hx]
      have hl : (code.length : Int) ≤ (k : Int) := by have := List.getElem?_eq_none_iff.1 hx; omega
      clear hx
      go_enter Try.func29, Try.ntmps29
      go_wp2_with fail
      refine bodyPost_ret (results_ins Try.results29 rfl rfl (al1 w _).2) rfl ⟨?_, (al1 w _).1⟩
      rw [HI.out]
      rfl
    | some x =>
      have HI : Hid (insAt code (k : Int) = (x, true)) := by
        show _ = _
        unfold insAt
        rw [if_neg h1, Int.toNat_natCast, hx]
      have hl : (k : Int) < (code.length : Int) := by have := (List.getElem?_eq_some_iff.1 hx).1; omega
      obtain ⟨b, f, rfl, hb, d0, d1, d2, d3, d4, d5⟩ := hc.at_ k x hx
      have l_b : b < w.heap.size := by omega
      obtain ⟨x0, x1, x2, x3, x4, x5⟩ := x
      clear hx hc hb hbm
      go_enter Try.func29, Try.ntmps29
      go_wp2_with fail
      refine bodyPost_ret (results_ins Try.results29 rfl rfl (al1 w _).2) rfl ⟨?_, (al1 w _).1⟩
      rw [HI.out]
      rfl
end
end Go.Proofs.Ytflifialjdhenaa
