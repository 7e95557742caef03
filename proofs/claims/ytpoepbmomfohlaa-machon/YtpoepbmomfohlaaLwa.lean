/- Rows of numbers that are the same. -/
import Derived.Test.YtpoepbmomfohlaaMba
namespace Go.Proofs.Ytpoepbmomfohlaa
open Go.RowKit
set_option linter.all false
/-- The numbers of a row. -/
theorem ints_at {w : World} {base n : Nat} {v : Value} {zs : List Int} (h : w.ownsRow base 3 1 v n (zs.map (Value.int .i64))) (hn : zs.length = n) {i : Nat} {x : Int} (hx : zs[i]? = some x) : ∃ g c, v = .slice (some ⟨g, 0, none⟩) n c ∧ g < w.heap.size ∧ w.cell? ⟨g, i, none⟩ = some (.int .i64 x) := by
  have e : zs.map (Value.int .i64) = (zs.map (fun x => [Value.int .i64 x])).flatten := by
    clear hn hx h
    induction zs with
    | nil => rfl
    | cons a t ih => simp [ih]
  rw [e] at h
  obtain ⟨g, c, e1, hl, _, hc⟩ := ownsRow_nth h (by simpa using hn) (fun x hx => by obtain ⟨y, _, rfl⟩ := List.mem_map.1 hx; rfl) (i := i) (x := [Value.int .i64 x]) (by rw [List.getElem?_map, hx]; rfl)
  refine ⟨g, c, e1, hl, ?_⟩
  have := hc 0 (by decide)
  simpa using this
end Go.Proofs.Ytpoepbmomfohlaa
