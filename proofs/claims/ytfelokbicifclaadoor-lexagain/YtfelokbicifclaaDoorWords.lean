/- The words of the language: both functions that say whether a text is a word give the same answer, 'isWord'. -/
import Derived.Test.YtfelokbicifclaaDoorProg
import Derived.WalkKit
import Derived.WalkLawsBesides
import Derived.WalkSpells
import Derived.Outline
namespace Go.Proofs.YtfelokbicifclaaDoor
open Go.RowKit

/-- The words, as byte strings, in the table's order. -/
def wordsB : List ByteArray := [⟨#[109, 111, 100]⟩, ⟨#[117, 115, 101]⟩, ⟨#[112, 117, 98]⟩, ⟨#[99, 111, 112, 121]⟩, ⟨#[115, 116, 114, 117, 99, 116]⟩, ⟨#[101, 110, 117, 109]⟩, ⟨#[116, 114, 97, 105, 116]⟩, ⟨#[105, 109, 112, 108]⟩, ⟨#[102, 111, 114]⟩, ⟨#[102, 110]⟩, ⟨#[108, 101, 116]⟩, ⟨#[109, 117, 116]⟩, ⟨#[105, 102]⟩, ⟨#[101, 108, 115, 101]⟩, ⟨#[109, 97, 116, 99, 104]⟩, ⟨#[119, 104, 105, 108, 101]⟩, ⟨#[108, 111, 111, 112]⟩, ⟨#[98, 114, 101, 97, 107]⟩, ⟨#[110, 101, 120, 116]⟩, ⟨#[114, 101, 116, 117, 114, 110]⟩, ⟨#[112, 97, 110, 105, 99]⟩, ⟨#[109, 97, 107, 101]⟩, ⟨#[114, 101, 102]⟩, ⟨#[111, 110, 99, 101]⟩, ⟨#[115, 112, 97, 119, 110]⟩, ⟨#[116, 114, 117, 101]⟩, ⟨#[102, 97, 108, 115, 101]⟩, ⟨#[105, 110, 116]⟩, ⟨#[98, 111, 111, 108]⟩]
/-- The table's cells. -/
def wordsC : Array Value := (wordsB.map Value.string).toArray
def wordAt (k : Nat) : ByteArray := wordsB.getD k ByteArray.empty
def isWord (l : List UInt8) : Bool := wordsB.any fun b => l == b.toList

theorem index_words (w : World) : (k : Nat) → k < 29 → (Instr.index 41 (.agg wordsC) (.int .i64 k)).run Tryd.prog w = .ok (.string (wordAt k)) w
  | 0, _ => by kernel_rfl
  | 1, _ => by kernel_rfl
  | 2, _ => by kernel_rfl
  | 3, _ => by kernel_rfl
  | 4, _ => by kernel_rfl
  | 5, _ => by kernel_rfl
  | 6, _ => by kernel_rfl
  | 7, _ => by kernel_rfl
  | 8, _ => by kernel_rfl
  | 9, _ => by kernel_rfl
  | 10, _ => by kernel_rfl
  | 11, _ => by kernel_rfl
  | 12, _ => by kernel_rfl
  | 13, _ => by kernel_rfl
  | 14, _ => by kernel_rfl
  | 15, _ => by kernel_rfl
  | 16, _ => by kernel_rfl
  | 17, _ => by kernel_rfl
  | 18, _ => by kernel_rfl
  | 19, _ => by kernel_rfl
  | 20, _ => by kernel_rfl
  | 21, _ => by kernel_rfl
  | 22, _ => by kernel_rfl
  | 23, _ => by kernel_rfl
  | 24, _ => by kernel_rfl
  | 25, _ => by kernel_rfl
  | 26, _ => by kernel_rfl
  | 27, _ => by kernel_rfl
  | 28, _ => by kernel_rfl
  | k + 29, h => absurd h (by omega)

theorem isWord_of_none (l : List UInt8) (h : ∀ j, j < 29 → (l == (wordAt j).toList) = false) : isWord l = false := by
  rw [isWord, List.any_eq_false]
  intro b hb
  obtain ⟨j, hj, rfl⟩ := List.getElem_of_mem hb
  have := h j hj
  simpa [wordAt, List.getD, hj] using this

theorem isWord_of_some (l : List UInt8) (j : Nat) (hj : j < 29) (h : (l == (wordAt j).toList) = true) : isWord l = true := by
  rw [isWord, List.any_eq_true]
  refine ⟨wordsB[j]'hj, List.getElem_mem _, ?_⟩
  have hl : j < wordsB.length := hj
  have e : wordAt j = wordsB[j]'hl := by simp [wordAt, List.getD, hl]
  rw [e] at h
  exact h

set_option maxRecDepth 100000 in
set_option maxHeartbeats 1000000 in
theorem word10 (s : ByteArray) (w : World) : Calls Tryd.prog 10 #[.string s] w fun e w' => e = .returned (.bool (isWord s.toList)) ∧ w' = w := by
  go_enter Tryd.func10, Tryd.ntmps10
  go_wp2_with fail
  all_goals first | (exfalso; simp_all; done) | (go_ret; refine ⟨?_, rfl⟩; simp [isWord, wordsB, *])

set_option maxRecDepth 100000 in
set_option maxHeartbeats 400000 in
theorem word9 (s : ByteArray) (w : World) (tt : TypeId) (fr : Nat × Nat) (hg : w.heap[1]? = some (.cells wordsC tt fr)) :
    Calls Tryd.prog 9 #[.string s] w fun e w' => e = .returned (.bool (isWord s.toList)) ∧ w' = w := by
  go_enter Tryd.func9, Tryd.ntmps9
  go_wp2_with (refine wpList_load_row rfl 41 _ rfl 1 rfl tt _ fr _ hg Tryd.underlying41 rfl (by kernel_rfl) ?_)
  go_loop [6] (fun i => ∃ k : Nat, k ≤ 29 ∧ i = .int .i64 k ∧ ∀ j, j < k → (s.toList == (wordAt j).toList) = false) (fun i => 29 - (intOf i).toNat)
  case atStart => exact ⟨0, by omega, rfl, fun j hj => absurd hj (by omega)⟩
  case round =>
    obtain ⟨k, hk, rfl, hno⟩ := hrel
    have HN : Hid (∀ j, j < k → (s.toList == (wordAt j).toList) = false) := hno
    clear hno
    by_cases hlt : k < 29
    · have hi : ∀ w, (Instr.index 41 (.agg wordsC) (.int .i64 k)).run Tryd.prog w = .ok (.string (wordAt k)) w := fun w => index_words w k hlt
      cases he : (s.toList == (wordAt k).toList)
      · go_wp2
        go_round
        case rel =>
          refine ⟨k + 1, by omega, by go_num, fun j hj => ?_⟩
          by_cases hjk : j = k
          · subst hjk; exact he
          · exact HN.out j (by omega)
        case measure => simp [intOf]; omega
      · go_wp2
        go_ret
        exact ⟨by rw [isWord_of_some _ k hlt he]; rfl, rfl⟩
    · go_wp2
      go_ret
      exact ⟨by rw [isWord_of_none _ (fun j hj => HN.out j (by omega))]; rfl, rfl⟩

set_option maxRecDepth 100000 in
set_option maxHeartbeats 400000 in
theorem law4 (s : ByteArray) (w : World) (tt : TypeId) (fr : Nat × Nat) (hg : w.heap[1]? = some (.cells wordsC tt fr)) :
    Calls Tryd.prog 4 #[.string s] w fun e w' => e = .returned (.bool true) ∧ w' = w := by
  go_enter Tryd.func4, Tryd.ntmps4
  go_wp2_with (first | (go_at_call 9; refine (word9 s _ tt fr hg).mono ?_; rintro e w' ⟨rfl, rfl⟩) | (go_at_call 10; refine (word10 s _).mono ?_; rintro e w' ⟨rfl, rfl⟩))
  go_ret
  exact ⟨by simp, rfl⟩
end Go.Proofs.YtfelokbicifclaaDoor
