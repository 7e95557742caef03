/- MachOn: for every row of instructions, every three numbers and every row of numbers the law returns true, and its arguments read as they did. -/
import Derived.Test.YtpoepbmomfohlaaRows
import Derived.WalkKit
import Derived.ProofKit
import Derived.OpenShut
import Derived.SizedLaws
import Derived.ChangeMaps5
import Derived.Deep.Slices
import Derived.Test.YtpoepbmomfohlaaPmf
namespace Go.Proofs.Ytpoepbmomfohlaa
open Go.ChangeShapes Go.WideShapes Go.ChangeAt Go.RowKit Go.ChangeMaps Go.Deep
set_option linter.all false
theorem own3 : ownKnob Try.prog.godebug = none := by kernel_rfl
theorem laid3 : laidOutB Try.prog = true := by kernel_rfl
theorem cells3 : Try.prog.cellsOf 3 = 1 := by kernel_rfl
theorem cells72 : Try.prog.cellsOf 61 = 6 := by kernel_rfl
theorem wf_i64 {x : Int} (h : (Lit.int .i64 x).wf = true) : I64 x := by
  simp only [Lit.wf, Bool.and_eq_true, decide_eq_true_eq] at h
  exact h
/-- A row of numbers that is read. -/
theorem ints_open {H : Type} {enc : TypeId × Value → H} {W : World} {a0 : Option Addr} {len cap fuel : Nat} {x : DataW H × List MemPlace} (hf : DataW.trod enc Try.prog W 0 (fun _ => true) true fuel 23 (Value.slice a0 len cap).cells.toList = some x) : ∃ xs : List Int, xs.length = len ∧ PK W W.heap.size (.slice a0 len cap) xs := by
  rcases open_ints Try.underlying23 Try.underlying3 cells3 hf with ⟨hcs, -⟩ | ⟨a, len', cap', zs, hcs, _, hl, hm, hz, hx, hcell, hwz⟩
  · simp [Value.cells] at hcs
    obtain ⟨rfl, rfl, rfl⟩ := hcs
    exact ⟨[], rfl, ⟨none, 0, rfl, by decide, by decide, fun j x hj => by simp at hj⟩⟩
  · simp [Value.cells] at hcs
    obtain ⟨rfl, rfl, rfl⟩ := hcs
    simp only [if_true] at hz
    have hlen : (zs.take len).length = len := by rw [List.length_take]; omega
    refine ⟨zs.take len, hlen, ⟨some a, cap, by rw [hlen], by rw [hlen]; exact hl, by unfold maxLen at hm; omega, fun j x hj => ⟨wf_i64 (hwz x (List.mem_of_mem_take (List.mem_of_getElem? hj))), ?_⟩⟩⟩
    have hjl : j < len := by
      have := (List.getElem?_eq_some_iff.1 hj).1
      omega
    have hc := hcell j (by omega)
    have hxe : zs.getD j 0 = x := by
      rw [List.getElem?_take, if_pos hjl] at hj
      rw [List.getD_eq_getElem?_getD, hj]
      rfl
    rw [hxe] at hc
    obtain ⟨b, off, spot⟩ := a
    have hspot : spot = none := by
      have := World.cell?_spot (hcell 0 (by omega))
      simpa [Addr.add] using this
    subst hspot
    rw [add_plain] at hc
    exact ⟨b, off, rfl, World.block_lt_of_cell? W _ hc, hc⟩
set_option maxRecDepth 100000 in
theorem ins_open {H : Type} {enc : TypeId × Value → H} {W : World} {sp : Nat → Bool} {hd : Bool} {n : Nat} {cs : List Value} {y : DataW H × List MemPlace} (h : DataW.trod enc Try.prog W 0 sp hd n 61 cs = some y) : ∃ x : Mi, x.ok ∧ cs = (miC x).toList := by
  obtain ⟨xs, k, hk, hxy, hl, hxl, hf⟩ := DataW.trod_struct Try.underlying61 h
  rw [cells72] at hl
  match cs, hl with
  | [v0, v1, v2, v3, v4, v5], _ =>
    match xs, hxl with
    | [y0, y1, y2, y3, y4, y5], _ =>
      have g0 := hf 0 _ rfl
      have g1 := hf 1 _ rfl
      have g2 := hf 2 _ rfl
      have g3 := hf 3 _ rfl
      have g4 := hf 4 _ rfl
      have g5 := hf 5 _ rfl
      simp [cells3] at g0 g1 g2 g3 g4 g5
      obtain ⟨n0, e0, -, w0⟩ := DataW.trod_int Try.underlying3 g0
      obtain ⟨n1, e1, -, w1⟩ := DataW.trod_int Try.underlying3 g1
      obtain ⟨n2, e2, -, w2⟩ := DataW.trod_int Try.underlying3 g2
      obtain ⟨n3, e3, -, w3⟩ := DataW.trod_int Try.underlying3 g3
      obtain ⟨n4, e4, -, w4⟩ := DataW.trod_int Try.underlying3 g4
      obtain ⟨n5, e5, -, w5⟩ := DataW.trod_int Try.underlying3 g5
      simp at e0 e1 e2 e3 e4 e5
      exact ⟨⟨n0, n1, n2, n3, n4, n5⟩, ⟨wf_i64 w0, wf_i64 w1, wf_i64 w2, wf_i64 w3, wf_i64 w4, wf_i64 w5⟩, by simp [miC, e0, e1, e2, e3, e4, e5]⟩
set_option maxRecDepth 100000 in
theorem code_open {H : Type} {enc : TypeId × Value → H} {W : World} {a0 : Option Addr} {len cap fuel : Nat} {x : DataW H × List MemPlace} (hf : DataW.trod enc Try.prog W 0 (fun _ => true) true fuel 22 (Value.slice a0 len cap).cells.toList = some x) : ∃ code : List Mi, code.length = len ∧ CD W W.heap.size a0 code ∧ ∀ x ∈ code, x.ok := by
  rcases open_slice Try.underlying22 hf with ⟨hcs, -⟩ | ⟨a, len', cap', m, n, D, Pl, hcs, _, hl, hm, hz, hx, hcell⟩
  · simp [Value.cells] at hcs
    obtain ⟨rfl, rfl, rfl⟩ := hcs
    exact ⟨[], rfl, ⟨fun i x hx => by simp at hx, by decide⟩, by simp⟩
  · simp [Value.cells] at hcs
    obtain ⟨rfl, rfl, rfl⟩ := hcs
    simp only [if_true] at hz
    subst hz
    have each : ∀ i, i < len → ∃ x : Mi, x.ok ∧ ∃ b f, a = ⟨b, f, none⟩ ∧ b < W.heap.size ∧ ∀ o, o < 6 → W.cell? ⟨b, f + i * 6 + o, none⟩ = (miC x)[o]? := fun i hi => by
      obtain ⟨cs', h1, h2⟩ := hcell i (by omega)
      obtain ⟨x, hok, rfl⟩ := ins_open h2
      rw [cells72] at h1
      obtain ⟨_, _, hc⟩ := World.cells?_some h1
      obtain ⟨b, off, spot⟩ := a
      have h0 := hc 0 (by omega)
      rw [add_add] at h0
      have hspot : spot = none := by
        obtain ⟨c0, g1, g2⟩ := hcell 0 (by omega)
        obtain ⟨x0, -, rfl⟩ := ins_open g2
        rw [cells72] at g1
        have z : W.cell? _ = some _ := (World.cells?_some g1).2.2 0 (by omega)
        have := World.cell?_spot z
        simpa [Addr.add] using this
      subst hspot
      refine ⟨x, hok, b, off, rfl, ?_, fun o ho => ?_⟩
      · rw [add_plain] at h0
        exact World.block_lt_of_cell? W _ h0
      · have := hc o ho
        rw [add_add, add_plain] at this
        simpa [Nat.add_assoc] using this
    obtain ⟨q, hq⟩ : ∃ q : Nat → Mi, ∀ i, i < len → (q i).ok ∧ ∃ b f, a = ⟨b, f, none⟩ ∧ b < W.heap.size ∧ ∀ o, o < 6 → W.cell? ⟨b, f + i * 6 + o, none⟩ = (miC (q i))[o]? := by
      classical
      refine ⟨fun i => if hi : i < len then Classical.choose (each i hi) else Mi.z, fun i hi => ?_⟩
      simp only [dif_pos hi]
      exact Classical.choose_spec (each i hi)
    refine ⟨(List.range len).map q, by simp, ⟨fun i x hx => ?_, by unfold maxLen at hm; simp; omega⟩, fun x hx => ?_⟩
    · have hi : i < len := by
        have := (List.getElem?_eq_some_iff.1 hx).1
        simpa using this
      have hq2 : q i = x := by
        rw [List.getElem?_map, List.getElem?_eq_getElem (by simpa using hi)] at hx
        simpa using hx
      subst hq2
      obtain ⟨-, b, f, rfl, hb, hc⟩ := hq i hi
      exact ⟨b, f, rfl, hb, by simpa [miC] using hc 0 (by decide), by simpa [miC] using hc 1 (by decide), by simpa [miC] using hc 2 (by decide), by simpa [miC] using hc 3 (by decide), by simpa [miC] using hc 4 (by decide), by simpa [miC] using hc 5 (by decide)⟩
    · obtain ⟨j, hj, rfl⟩ := List.mem_map.1 hx
      exact (hq j (by simpa using hj)).1
end Go.Proofs.Ytpoepbmomfohlaa
