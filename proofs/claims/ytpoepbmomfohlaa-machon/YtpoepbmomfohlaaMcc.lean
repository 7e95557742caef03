/- The document's machine: the words. -/
import Derived.Test.YtpoepbmomfohlaaHpd
namespace Go.Proofs.Ytpoepbmomfohlaa
open Go.RowKit
set_option linter.all false
theorem pageA_at {mem : Nat → Int} {i k : Nat} (hk : k < 1024) : (pageA mem i)[k]? = some (.int .i64 (mem (i * 1024 + k))) := by
  unfold pageA
  rw [List.getElem?_toArray, List.getElem?_map, List.getElem?_range hk]
  rfl
theorem pageA_size {mem : Nat → Int} {i : Nat} : (pageA mem i).size = 1024 := by
  unfold pageA
  simp
section
variable {w : World} {base : Nat} {own : Nat → Option (Nat × Nat)} {po : Option Addr} {pc : Nat} {pg : List (Option Nat)} {mem : Nat → Int}
/-- The cell of a page. -/
theorem PGS.nth (h : PGS w base own po pc pg mem) {i : Nat} {x : Option Nat} (hx : pg[i]? = some x) : ∃ g, po = some ⟨g, 0, none⟩ ∧ g < w.heap.size ∧ w.cell? ⟨g, i, none⟩ = some (pgV x) := by
  have hl := (List.getElem?_eq_some_iff.1 hx).1
  rcases h.row.2 with ⟨h1, h2⟩ | ⟨g, cap, cur, h1, hb, hg, hnc, hcm, hcs, htake⟩
  · omega
  · simp at h1
    refine ⟨g, h1.1, (Array.getElem?_eq_some_iff.1 hg).1, ?_⟩
    rw [cell_of_row w g i cur 23 (0, 0) hg]
    have e : (cur.toList.take (pg.length * 1))[i]? = some (pgV x) := by rw [htake, List.getElem?_map, hx]; rfl
    rw [List.getElem?_take, if_pos (by omega)] at e
    simpa using e
theorem PGS.word (h : PGS w base own po pc pg mem) {a g : Nat} (hx : pg[a / 1024]? = some (some g)) : g < w.heap.size ∧ w.cell? ⟨g, a % 1024, none⟩ = some (.int .i64 (mem a)) := by
  obtain ⟨h1, h2, h3⟩ := h.page _ _ hx
  refine ⟨(Array.getElem?_eq_some_iff.1 h3).1, ?_⟩
  rw [cell_of_row w g _ _ 3 (0, 0) h3, pageA_at (by omega)]
  congr 3
  omega
end
section
variable {w : World} {base mb : Nat} {cv : Value} {L : Ly} {m : Mc}
end
end Go.Proofs.Ytpoepbmomfohlaa
namespace Go.Proofs.Ytpoepbmomfohlaa
open Go.RowKit
set_option linter.all false
def upd (mem : Nat → Int) (a : Nat) (n : Int) : Nat → Int := fun x => if x = a then n else mem x
/-- A block more that is somebody's. -/
def own1 (own : Nat → Option (Nat × Nat)) (b : Nat) (t : Nat × Nat) : Nat → Option (Nat × Nat) := fun x => if x = b then some t else own x
theorem own1_at {own : Nat → Option (Nat × Nat)} {b : Nat} {t : Nat × Nat} : own1 own b t b = some t := by unfold own1; rw [if_pos rfl]
theorem own1_ne {own : Nat → Option (Nat × Nat)} {b x : Nat} {t : Nat × Nat} (h : x ≠ b) : own1 own b t x = own x := by unfold own1; rw [if_neg h]
theorem own1_keep {own : Nat → Option (Nat × Nat)} {b : Nat} {t : Nat × Nat} (h : own b = none) (g : Nat) : keepG own (own1 own b t) g := fun x s e => by
  rw [own1_ne (fun e2 => by subst e2; rw [h] at e; cases e)]
  exact e
theorem MR.lt {w : World} {base mb : Nat} {cv : Value} {L : Ly} {m : Mc} (h : MR w base mb cv L m) : mb < w.heap.size := (h.olt mb (by rw [h.omb]; simp)).2
theorem MR.free {w : World} {base mb : Nat} {cv : Value} {L : Ly} {m : Mc} (h : MR w base mb cv L m) {b : Nat} (hb : w.heap.size ≤ b) : L.own b = none := Classical.byContradiction fun hn => by
  have := (h.olt b hn).2
  omega
section
variable {w w1 : World} {base mb : Nat} {cv : Value} {L : Ly} {m : Mc}
theorem pageA_set {mem : Nat → Int} {a : Nat} {n : Int} : (pageA mem (a / 1024)).setIfInBounds (a % 1024) (.int .i64 n) = pageA (upd mem a n) (a / 1024) := by
  apply Array.ext'
  unfold pageA
  rw [Array.toList_setIfInBounds]
  apply List.ext_getElem?
  intro k
  by_cases hk : k < 1024
  · by_cases hka : k = a % 1024
    · subst hka
      rw [List.getElem?_set_self (by simpa using hk), List.getElem?_map, List.getElem?_range hk]
      simp [upd]
      omega
    · rw [List.getElem?_set_ne (fun e => hka e.symm), List.getElem?_map, List.getElem?_map, List.getElem?_range hk]
      simp [upd]
      intro e
      omega
  · rw [List.getElem?_eq_none (by simp; omega), List.getElem?_eq_none (by simp; omega)]
theorem pageA_else {mem : Nat → Int} {a i : Nat} {n : Int} (h : i ≠ a / 1024) : pageA (upd mem a n) i = pageA mem i := by
  have e : ∀ k ∈ List.range 1024, Value.int .i64 (upd mem a n (i * 1024 + k)) = Value.int .i64 (mem (i * 1024 + k)) := fun k hk => by
    have hk2 : k < 1024 := List.mem_range.1 hk
    unfold upd
    rw [if_neg (by omega)]
  unfold pageA
  rw [List.map_congr_left e]
/-- A word is written. -/
theorem MR.word (h : MR w base mb cv L m) {a g : Nat} (hg : L.pg[a / 1024]? = some (some g)) (n : Int) : MR (w.setCell ⟨g, a % 1024, none⟩ (.int .i64 n)) base mb cv L { m with mem := upd m.mem a n } ∧ Kf L L w (w.setCell ⟨g, a % 1024, none⟩ (.int .i64 n)) := by
  obtain ⟨q1, q2, q3⟩ := h.pg.page _ _ hg
  have hs : ∀ b t, L.own b = some t → t ≠ (2, a / 1024 + 1) → (w.setCell ⟨g, a % 1024, none⟩ (.int .i64 n)).heap[b]? = w.heap[b]? := fun b t e hne => Below.heap_setCell _ _ _ _ (fun e2 => by
    have e3 : b = g := e2
    subst e3
    rw [q1] at e
    exact hne (Option.some.inj e).symm)
  have hsg : ∀ k, k ≠ 2 → sameG L.own k w (w.setCell ⟨g, a % 1024, none⟩ (.int .i64 n)) := fun k hk b s e => hs b _ e (by simp; omega)
  have hid : ∀ k, keepG L.own L.own k := fun _ _ _ h => h
  refine ⟨⟨(hsg 0 (by decide) mb 0 h.omb).trans h.blk, h.omb, h.hp.frame (hsg 1 (by decide)) (hid 1), ?_, h.th.frame (hsg 3 (by decide)) (hid 3), h.ou.frame (hsg 4 (by decide)) (hid 4), h.or_.frame (hsg 5 (by decide)) (hid 5), h.hbase, fun b hn => ⟨(h.olt b hn).1, by simpa using (h.olt b hn).2⟩, h.o0⟩, ⟨(KX.refl _ _ _).setCell (p := ⟨g, a % 1024, none⟩) (.inr (by rw [q1]; simp)) _, fun _ _ h => h, rfl⟩⟩
  refine ⟨ownsRow_same h.pg.row (fun b hb _ => hs b _ (h.pg.orow b hb) (by simp)), h.pg.orow, fun i g' hg' => ?_, fun x hx => ?_, h.pg.few⟩
  · obtain ⟨r1, r2, r3⟩ := h.pg.page i g' hg'
    refine ⟨r1, r2, ?_⟩
    by_cases hi : i = a / 1024
    · subst hi
      obtain rfl : g = g' := by rw [hg] at hg'; simpa using hg'
      rw [heap_setCell_same w g _ _ 3 _ q3, pageA_set]
    · show _ = some (Obj.cells (pageA (upd m.mem a n) i) 3 (0, 0))
      rw [pageA_else hi, hs g' _ r1 (by simp; omega)]
      exact r3
  · show upd m.mem a n x = 0
    unfold upd
    rw [if_neg (fun e => by subst e; exact hx g hg)]
    exact h.pg.zero x hx
end
end Go.Proofs.Ytpoepbmomfohlaa
namespace Go.Proofs.Ytpoepbmomfohlaa
open Go.RowKit
set_option linter.all false
theorem heap_comm {w : World} {g i : Nat} {u : Value} {o : Obj} {c : Array Value} {t : TypeId} (hg : w.heap[g]? = some (.cells c t (0, 0))) : ((w.setCell ⟨g, i, none⟩ u).alloc o).heap = ((w.alloc o).setCell ⟨g, i, none⟩ u).heap := by
  have hl := (Array.getElem?_eq_some_iff.1 hg).1
  apply Array.ext_getElem?
  intro b
  have hz : (w.setCell ⟨g, i, none⟩ u).heap.size = w.heap.size := by simp
  rcases Nat.lt_trichotomy b w.heap.size with hb | hb | hb
  · rw [Below.heap_alloc _ _ _ (by rw [hz]; exact hb)]
    by_cases hbg : b = g
    · subst hbg
      rw [heap_setCell_same w b i c t u hg, heap_setCell_same _ b i c t u ((Below.heap_alloc _ _ _ hl).trans hg)]
    · rw [Below.heap_setCell _ _ _ _ hbg, Below.heap_setCell _ _ _ _ hbg, Below.heap_alloc _ _ _ hb]
  · subst hb
    have h1 := heap_alloc_new (w.setCell ⟨g, i, none⟩ u) o
    rw [hz] at h1
    rw [h1, Below.heap_setCell _ _ _ _ (by show w.heap.size ≠ g; omega), heap_alloc_new]
  · rw [Array.getElem?_eq_none (by simp; omega), Array.getElem?_eq_none (by simp; omega)]
theorem MR.of_heap {w w' : World} {base mb : Nat} {cv : Value} {L : Ly} {m : Mc} (h : MR w base mb cv L m) (e : w'.heap = w.heap) : MR w' base mb cv L m := by
  have hs : ∀ g, sameG L.own g w w' := fun g b s _ => by rw [e]
  exact ⟨by rw [e]; exact h.blk, h.omb, h.hp.frame (hs 1) (fun _ _ h => h), h.pg.frame (hs 2) (fun _ _ h => h), h.th.frame (hs 3) (fun _ _ h => h), h.ou.frame (hs 4) (fun _ _ h => h), h.or_.frame (hs 5) (fun _ _ h => h), h.hbase, by rw [e]; exact h.olt, h.o0⟩
theorem Kf.of_heap {L L' : Ly} {w w' w'' : World} (h : Kf L L' w w') (e : w''.heap = w'.heap) (e1 : w''.os = w'.os) (e2 : w''.tape = w'.tape) (e3 : w''.output = w'.output) : Kf L L' w w'' := ⟨⟨e1.trans h.kx.os, e2.trans h.kx.tape, e3.trans h.kx.output, by rw [e]; exact h.kx.size, by rw [e]; exact h.kx.block⟩, h.on, h.hb⟩
end Go.Proofs.Ytpoepbmomfohlaa
namespace Go.Proofs.Ytpoepbmomfohlaa
open Go.RowKit
set_option linter.all false
theorem THS.nth {w : World} {base : Nat} {own : Nat → Option (Nat × Nat)} {to_ : Option Addr} {tc : Nat} {cr : List Rq} {ths : List Th} (h : THS w base own to_ tc cr ths) {i : Nat} {t : Th} (ht : ths[i]? = some t) : ∃ g r, to_ = some ⟨g, 0, none⟩ ∧ g < w.heap.size ∧ cr[i]? = some r ∧ w.cell? ⟨g, i * 6, none⟩ = some (.int .i64 t.pc) ∧ w.cell? ⟨g, i * 6 + 1, none⟩ = some (.int .i64 t.frame) ∧ w.cell? ⟨g, i * 6 + 2, none⟩ = some (.slice r.o t.calls.length r.c) ∧ w.cell? ⟨g, i * 6 + 3, none⟩ = some (.bool t.unw) ∧ w.cell? ⟨g, i * 6 + 4, none⟩ = some (.bool t.abo) ∧ w.cell? ⟨g, i * 6 + 5, none⟩ = some (.bool t.over) := by
  have hl := (List.getElem?_eq_some_iff.1 ht).1
  obtain ⟨r, hr⟩ : ∃ r, cr[i]? = some r := ⟨_, List.getElem?_eq_getElem (by rw [h.crl]; exact hl)⟩
  have hz : (ths.zip cr)[i]? = some (t, r) := by rw [List.getElem?_zip_eq_some]; exact ⟨ht, hr⟩
  obtain ⟨g, c, e, hg, _, hc⟩ := ownsRow_nth h.row (by rw [List.length_map, List.length_zip, h.crl, Nat.min_self]) (fun x hx => by obtain ⟨y, _, rfl⟩ := List.mem_map.1 hx; rfl) (i := i) (x := thC (t, r)) (by rw [List.getElem?_map, hz]; rfl)
  simp at e
  exact ⟨g, r, e.1, hg, hr, hc 0 (by decide), hc 1 (by decide), hc 2 (by decide), hc 3 (by decide), hc 4 (by decide), hc 5 (by decide)⟩
section
variable {w : World} {base mb : Nat} {cv : Value} {L : Ly} {m : Mc}
end
end Go.Proofs.Ytpoepbmomfohlaa
