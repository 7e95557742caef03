/- The run of the document's machine with no steps left, in two spellings. -/
import Derived.Test.YtflifialjdhenaaMdh
import Derived.Test.YtflifialjdhenaaPog
import Derived.Test.YtflifialjdhenaaPoh
import Derived.Test.YtflifialjdhenaaLwa
namespace Go.Proofs.Ytflifialjdhenaa
set_option linter.all false
theorem runM_neg {code : List Mi} {picks : List Int} {F : Int} (hF : F ≤ 0) (arg : Int) : runM code picks F 1 0 (Mc.init arg) = runM code picks 0 1 0 (Mc.init arg) := by
  have e : (Mc.init arg).steps = 0 := rfl
  simp only [runM, e, hF, Int.le_refl, if_true]
end Go.Proofs.Ytflifialjdhenaa
namespace Go.Proofs.Ytflifialjdhenaa
open Go.RowKit
set_option linter.all false
theorem run5 {w : World} {co : Option Addr} {cc : Nat} {code : List Mi} {po : Option Addr} {pl pc : Nat} {picks : List Int} {arg fuel : Int} (harg : I64 arg) (hf3 : fuel ≤ 100000) (cd : CD w w.heap.size co code) (c64 : ∀ x ∈ code, x.ok) (pk : PK w w.heap.size (.slice po pl pc) picks) : Calls Try.prog 5 #[.slice co code.length cc, .int .i64 arg, .int .i64 fuel, .slice po pl pc] w (RunP w (runM code picks fuel ((max fuel 0).toNat + 1) 0 (Mc.init arg))) := by
  rcases Int.lt_trichotomy fuel 0 with h | h | h
  · have e : (max fuel 0).toNat = 0 := by omega
    rw [e, runM_neg (by omega)]
    exact run5_neg harg h cd c64 pk
  · have e : (max fuel 0).toNat = 0 := by omega
    rw [e, runM_neg (by omega)]
    exact run5_zero harg h cd c64 pk
  · have e : (max fuel 0).toNat = fuel.toNat := by omega
    rw [e]
    exact run5_pos harg h hf3 cd c64 pk
theorem ints_g {w W : World} {base : Nat} {o : Option Addr} {c : Nat} {zs : List Int} (h : w.ownsRow base 3 1 (.slice o zs.length c) zs.length (zs.map (Value.int .i64))) (hb : Below w.heap.size w W) : ∀ i x, zs[i]? = some x → ∃ g, o = some ⟨g, 0, none⟩ ∧ g < W.heap.size ∧ W.cell? ⟨g, i, none⟩ = some (.int .i64 x) := fun i x hx => by
  obtain ⟨g, c', e, hg, k⟩ := ints_at h rfl hx
  have e2 : o = some ⟨g, 0, none⟩ := by injection e
  exact ⟨g, e2, Nat.lt_of_lt_of_le hg hb.size, (hb.cell (p := ⟨g, i, none⟩) hg).trans k⟩
set_option maxRecDepth 100000 in
set_option maxHeartbeats 1000000 in
theorem law3 {w : World} {co : Option Addr} {cc : Nat} {code : List Mi} {po : Option Addr} {pl pc : Nat} {picks : List Int} {arg fuel : Int} (harg : I64 arg) (cd : CD w w.heap.size co code) (c64 : ∀ x ∈ code, x.ok) (pk : PK w w.heap.size (.slice po pl pc) picks) : Calls Try.prog 3 #[.slice co code.length cc, .int .i64 arg, .int .i64 fuel, .slice po pl pc] w (fun e w' => e = .returned (.bool true) ∧ Below w.heap.size w w') := by
  by_cases hf : 100000 < fuel
  · clear cd c64 pk harg
    go_enter Try.func3, Try.ntmps3
    go_wp2_with fail
    go_ret
    exact ⟨rfl, Below.refl _ _⟩
  have R5 : Hid (∀ W : World, Below w.heap.size w W → Calls Try.prog 5 #[.slice co code.length cc, .int .i64 arg, .int .i64 fuel, .slice po pl pc] W (RunP W (runM code picks fuel ((max fuel 0).toNat + 1) 0 (Mc.init arg)))) := fun W hW => run5 harg (by omega) (cd.up hW hW.size) c64 (pk.up hW hW.size)
  have R6 : Hid (∀ W : World, Below w.heap.size w W → Calls Try.prog 6 #[.slice co code.length cc, .int .i64 arg, .int .i64 fuel, .slice po pl pc] W (RunP W (runM code picks fuel ((max fuel 0).toNat + 1) 0 (Mc.init arg)))) := fun W hW => run6 harg (by omega) (cd.up hW hW.size) c64 (pk.up hW hW.size)
  obtain ⟨R, hR⟩ : ∃ R, R = runM code picks fuel ((max fuel 0).toNat + 1) 0 (Mc.init arg) := ⟨_, rfl⟩
  rw [← hR] at R5 R6
  clear hR cd c64 pk harg
  go_enter Try.func3, Try.ntmps3
  go_wp2_with (first
    | (go_at_call 4; refine (same4 H1.out.2.2.1 H1.out.2.2.2 (ints_g H1.out.1 H2.out.2.2) (ints_g H2.out.1 (Below.refl _ _)) (ints_g H1.out.2.1 H2.out.2.2) (ints_g H2.out.2.1 (Below.refl _ _))).mono ?_; rintro e w3 ⟨rfl, hb3⟩)
    | (go_at_call 6; refine (R6.out _ hb1).mono ?_; rintro e w2 ⟨o3, c3, o4, c4, rfl, r3, r4, hb2, -, -⟩; have H2 : Hid (_ ∧ _ ∧ _) := ⟨r3, r4, hb2⟩; clear r3 r4)
    | (go_at_call 5; refine (R5.out _ (Below.refl _ _)).mono ?_; rintro e w1 ⟨o1, c1, o2, c2, rfl, r1, r2, hb1, l1, l2⟩; have H1 : Hid (_ ∧ _ ∧ _ ∧ _) := ⟨r1, r2, l1, l2⟩; clear r1 r2 l1 l2))
  go_ret
  exact ⟨rfl, hb1.trans ((hb2.mono hb1.size).trans (hb3.mono (Nat.le_trans hb1.size hb2.size)))⟩
end Go.Proofs.Ytflifialjdhenaa
