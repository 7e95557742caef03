/- The run of the document's machine with no steps left, in two spellings. -/
import Derived.Test.YtpoepbmomfohlaaMdg
import Derived.Test.YtpoepbmomfohlaaPog
import Derived.Test.YtpoepbmomfohlaaLwa
namespace Go.Proofs.Ytpoepbmomfohlaa
set_option linter.all false
theorem runM_neg {code : List Mi} {picks : List Int} {F : Int} (hF : F ≤ 0) (arg : Int) : runM code picks F 1 0 (Mc.init arg) = runM code picks 0 1 0 (Mc.init arg) := by
  have e : (Mc.init arg).steps = 0 := rfl
  simp only [runM, e, hF, Int.le_refl, if_true]
end Go.Proofs.Ytpoepbmomfohlaa
namespace Go.Proofs.Ytpoepbmomfohlaa
open Go.RowKit
set_option linter.all false
theorem run5 {w : World} {co : Option Addr} {cc : Nat} {code : List Mi} {po : Option Addr} {pl pc : Nat} {picks : List Int} {arg fuel : Int} (harg : I64 arg) (hf3 : fuel ≤ 100000) (cd : CD w w.heap.size co code) (c64 : ∀ x ∈ code, x.ok) (pk : PK w w.heap.size (.slice po pl pc) picks) : Calls Try.prog 4 #[.slice co code.length cc, .int .i64 arg, .int .i64 fuel, .slice po pl pc] w (RunP w (runM code picks fuel ((max fuel 0).toNat + 1) 0 (Mc.init arg))) := by
  rcases Int.lt_trichotomy fuel 0 with h | h | h
  · have e : (max fuel 0).toNat = 0 := by omega
    rw [e, runM_neg (by omega)]
    exact run5_neg harg h cd c64 pk
  · have e : (max fuel 0).toNat = 0 := by omega
    rw [e, runM_neg (by omega)]
    exact run5_zero harg h cd c64 pk
  · have e : (max fuel 0).toNat = fuel.toNat := by omega
    rw [e]
    exact run5_pos harg h hf3 cd c64 pk
theorem ints_g {w W : World} {base : Nat} {o : Option Addr} {c : Nat} {zs : List Int} (h : w.ownsRow base 3 1 (.slice o zs.length c) zs.length (zs.map (Value.int .i64))) (hb : Below w.heap.size w W) : ∀ i x, zs[i]? = some x → ∃ g, o = some ⟨g, 0, none⟩ ∧ g < W.heap.size ∧ W.cell? ⟨g, i, none⟩ = some (.int .i64 x) := fun i x hx => by
  obtain ⟨g, c', e, hg, k⟩ := ints_at h rfl hx
  have e2 : o = some ⟨g, 0, none⟩ := by injection e
  exact ⟨g, e2, Nat.lt_of_lt_of_le hg hb.size, (hb.cell (p := ⟨g, i, none⟩) hg).trans k⟩
end Go.Proofs.Ytpoepbmomfohlaa
