/- The heap's tree: what a top knows; settle. -/
import Derived.Test.YtohhmcpaajcplaaTra
namespace Go.Proofs.Ytohhmcpaajcplaa
open Go.RowKit
set_option linter.all false
/-- What a call gives that only reads. -/
def Gives (w : World) (v : Value) (e : Ending) (w' : World) : Prop := e = .returned v ∧ ∃ m, w' = w.drewN m
theorem TT.cell {w : World} {h : Nat} {d : Option Int} {b : Nat} {m ht : Int} {xs : List Rw} (t : TT w h d (some b) m ht xs) : ∃ (r : Rw) (pl pr : Option Nat), b = r.b ∧ w.heap[r.b]? = some (ndC r m ht pl pr) := by
  obtain ⟨k, r, pl, pr, ml, mr, hl, hr, L, R, _, e, hc, _⟩ := t.out
  exact ⟨r, pl, pr, e, hc⟩
set_option maxRecDepth 100000 in
set_option maxHeartbeats 1000000 in
theorem tall22 {w : World} {h : Nat} {d : Option Int} {p : Option Nat} {m ht : Int} {xs : List Rw} (t : TT w h d p m ht xs) : Calls Try.prog 22 #[pv p] w (fun e w' => e = .returned (.int .i64 ht) ∧ w' = w) := by
  cases p with
  | none =>
    obtain ⟨_, rfl, _⟩ := t.of_none
    clear t
    show Calls Try.prog 22 #[.pointer none] w _
    go_enter Try.func22, Try.ntmps22
    go_wp2_with fail
    go_ret
    exact ⟨rfl, rfl⟩
  | some b =>
    obtain ⟨r, pl, pr, rfl, hc⟩ := t.cell
    have c_h := fun o => cell_of_row w _ o _ 41 (0, 0) hc
    have l_h : r.b < w.heap.size := (Array.getElem?_eq_some_iff.1 hc).1
    clear t hc
    show Calls Try.prog 22 #[.pointer (some ⟨r.b, 0, none⟩)] w _
    go_enter Try.func22, Try.ntmps22
    go_wp2_with fail
    go_ret
    exact ⟨rfl, rfl⟩
set_option maxRecDepth 100000 in
set_option maxHeartbeats 1000000 in
theorem widest15 {w : World} {h : Nat} {d : Option Int} {p : Option Nat} {m ht : Int} {xs : List Rw} (t : TT w h d p m ht xs) : Calls Try.prog 15 #[pv p] w (fun e w' => e = .returned (.int .i64 m) ∧ w' = w) := by
  cases p with
  | none =>
    obtain ⟨rfl, _, _⟩ := t.of_none
    clear t
    show Calls Try.prog 15 #[.pointer none] w _
    go_enter Try.func15, Try.ntmps15
    go_wp2_with fail
    go_ret
    exact ⟨rfl, rfl⟩
  | some b =>
    obtain ⟨r, pl, pr, rfl, hc⟩ := t.cell
    have c_h := fun o => cell_of_row w _ o _ 41 (0, 0) hc
    have l_h : r.b < w.heap.size := (Array.getElem?_eq_some_iff.1 hc).1
    clear t hc
    show Calls Try.prog 15 #[.pointer (some ⟨r.b, 0, none⟩)] w _
    go_enter Try.func15, Try.ntmps15
    go_wp2_with fail
    go_ret
    exact ⟨rfl, rfl⟩
theorem ifmax (a b : Int) : (if a < b then b else a) = max a b := by
  split <;> omega
theorem nd_set2 {w : World} {r : Rw} {m ht : Int} {pl pr : Option Nat} (hc : w.heap[r.b]? = some (ndC r m ht pl pr)) (g : Int) : (w.setCell ⟨r.b, 2, none⟩ (.int .i64 g)).heap[r.b]? = some (ndC { r with g := g } m ht pl pr) := heap_setCell_same w r.b 2 _ 41 _ hc
theorem nd_set3 {w : World} {r : Rw} {m ht : Int} {pl pr : Option Nat} (hc : w.heap[r.b]? = some (ndC r m ht pl pr)) (m' : Int) : (w.setCell ⟨r.b, 3, none⟩ (.int .i64 m')).heap[r.b]? = some (ndC r m' ht pl pr) := heap_setCell_same w r.b 3 _ 41 _ hc
theorem nd_set4 {w : World} {r : Rw} {m ht : Int} {pl pr : Option Nat} (hc : w.heap[r.b]? = some (ndC r m ht pl pr)) (ht' : Int) : (w.setCell ⟨r.b, 4, none⟩ (.int .i64 ht')).heap[r.b]? = some (ndC r m ht' pl pr) := heap_setCell_same w r.b 4 _ 41 _ hc
theorem nd_set5 {w : World} {r : Rw} {m ht : Int} {pl pr : Option Nat} (hc : w.heap[r.b]? = some (ndC r m ht pl pr)) (p : Option Nat) : (w.setCell ⟨r.b, 5, none⟩ (pv p)).heap[r.b]? = some (ndC r m ht p pr) := heap_setCell_same w r.b 5 _ 41 _ hc
theorem nd_set6 {w : World} {r : Rw} {m ht : Int} {pl pr : Option Nat} (hc : w.heap[r.b]? = some (ndC r m ht pl pr)) (p : Option Nat) : (w.setCell ⟨r.b, 6, none⟩ (pv p)).heap[r.b]? = some (ndC r m ht pl p) := heap_setCell_same w r.b 6 _ 41 _ hc
theorem nd_cells {w : World} {r : Rw} {m ht : Int} {pl pr : Option Nat} (hc : w.heap[r.b]? = some (ndC r m ht pl pr)) : w.cell? ⟨r.b, 0, none⟩ = some (.int .i64 r.a) ∧ w.cell? ⟨r.b, 1, none⟩ = some (.int .i64 r.s) ∧ w.cell? ⟨r.b, 2, none⟩ = some (.int .i64 r.g) ∧ w.cell? ⟨r.b, 3, none⟩ = some (.int .i64 m) ∧ w.cell? ⟨r.b, 4, none⟩ = some (.int .i64 ht) ∧ w.cell? ⟨r.b, 5, none⟩ = some (pv pl) ∧ w.cell? ⟨r.b, 6, none⟩ = some (pv pr) ∧ (∀ o, w.frozen? ⟨r.b, o, none⟩ = false) ∧ r.b < w.heap.size :=
  ⟨cell_of_row w _ 0 _ 41 (0, 0) hc, cell_of_row w _ 1 _ 41 (0, 0) hc, cell_of_row w _ 2 _ 41 (0, 0) hc, cell_of_row w _ 3 _ 41 (0, 0) hc, cell_of_row w _ 4 _ 41 (0, 0) hc, cell_of_row w _ 5 _ 41 (0, 0) hc, cell_of_row w _ 6 _ 41 (0, 0) hc, fun o => frozen_of_row w _ o _ 41 hc, (Array.getElem?_eq_some_iff.1 hc).1⟩
theorem nd_drew {w : World} {r : Rw} {m ht : Int} {pl pr : Option Nat} (hc : w.heap[r.b]? = some (ndC r m ht pl pr)) : w.drew.heap[r.b]? = some (ndC r m ht pl pr) := hc
set_option maxRecDepth 100000 in
set_option maxHeartbeats 1000000 in
theorem settle21 {w : World} {r : Rw} {m ht : Int} {pl pr : Option Nat} (hc : w.heap[r.b]? = some (ndC r m ht pl pr)) {h h' : Nat} {d d' : Option Int} {ml mr hl hr : Int} {L R : List Rw} (tl : TT w h d pl ml hl L) (tr : TT w h' d' pr mr hr R) (nl : ∀ x ∈ L, x.b ≠ r.b) (nr : ∀ x ∈ R, x.b ≠ r.b) (bl : L.length ≤ 4000000000) (br : R.length ≤ 4000000000) : Calls Try.prog 21 #[.pointer (some ⟨r.b, 0, none⟩)] w (fun e w' => e = .returned (.tuple #[]) ∧ w'.heap[r.b]? = some (ndC r (max r.g (max ml mr)) (1 + max hl hr) pl pr) ∧ FX (fun b => b = r.b) w w') := by
  have TL : Hid (∀ W, FX (fun b => b = r.b) w W → TT W h d pl ml hl L) := fun W k => tl.frame (fun x hx => k.block _ (nl x hx))
  have TR : Hid (∀ W, FX (fun b => b = r.b) w W → TT W h' d' pr mr hr R) := fun W k => tr.frame (fun x hx => k.block _ (nr x hx))
  have hhl := tl.tall
  have hhr := tr.tall
  have HC : Hid (w.heap[r.b]? = some (ndC r m ht pl pr)) := hc
  obtain ⟨-, -, c_2, c_3, -, c_5, c_6, f_h, l_h⟩ := nd_cells hc
  clear hc tl tr nl nr
  have HH : Hid (0 ≤ hl ∧ hl ≤ 4000000000 ∧ 0 ≤ hr ∧ hr ≤ 4000000000) := ⟨hhl.1, by omega, hhr.1, by omega⟩
  clear hhl hhr bl br
  go_enter Try.func21, Try.ntmps21
  go_wp2_with fail
  have F0 : FX (fun b => b = r.b) w w.drew := (FX.refl _ _).drew
  have FSS : Hid (∀ u, FX (fun b => b = r.b) w (w.setCell ⟨r.b, 3, none⟩ (.int .i64 u)).drew ∧ (w.setCell ⟨r.b, 3, none⟩ (.int .i64 u)).drew.cell? ⟨r.b, 2, none⟩ = some (.int .i64 r.g) ∧ (w.setCell ⟨r.b, 3, none⟩ (.int .i64 u)).drew.cell? ⟨r.b, 5, none⟩ = some (pv pl) ∧ (w.setCell ⟨r.b, 3, none⟩ (.int .i64 u)).drew.cell? ⟨r.b, 6, none⟩ = some (pv pr)) := fun u => by
    have h1 := nd_cells (nd_drew (nd_set3 HC.out u))
    exact ⟨((FX.refl (fun b => b = r.b) w).setCell (p := ⟨r.b, 3, none⟩) rfl _).drew, h1.2.2.1, h1.2.2.2.2.2.1, h1.2.2.2.2.2.2.1⟩
  go_region_held3 (fun W => FX (fun b => b = r.b) w W ∧ W.cell? ⟨r.b, 2, none⟩ = some (.int .i64 r.g) ∧ W.cell? ⟨r.b, 5, none⟩ = some (pv pl) ∧ W.cell? ⟨r.b, 6, none⟩ = some (pv pr))
    (first | assumption | exact ⟨F0, c_2, c_5, c_6⟩ | exact FSS.out _)
    (first
      | (go_at_call_of 15 (pv pl); have hbl := (‹FX _ w _ ∧ _›).1; refine (widest15 (TL.out _ hbl)).mono ?_; rintro e w2 ⟨rfl, rfl⟩)
      | (go_at_call_of 15 (pv pr); have hbl := (‹FX _ w _ ∧ _›).1; refine (widest15 (TR.out _ hbl)).mono ?_; rintro e w2 ⟨rfl, rfl⟩))
  rw [ifmax, ifmax] at *
  have H2 : Hid ((w.setCell ⟨r.b, 3, none⟩ (.int .i64 (max (max r.g ml) mr))).drew.heap[r.b]? = some (ndC r (max (max r.g ml) mr) ht pl pr) ∧ FX (fun b => b = r.b) w (w.setCell ⟨r.b, 3, none⟩ (.int .i64 (max (max r.g ml) mr))).drew) := ⟨nd_drew (nd_set3 HC.out _), (FSS.out _).1⟩
  generalize hX : (w.setCell ⟨r.b, 3, none⟩ (.int .i64 (max (max r.g ml) mr))).drew = wv at *
  have hm : max (max r.g ml) mr = max r.g (max ml mr) := by omega
  rw [hm] at H2
  clear hX hm c_2 c_3 c_5 c_6 f_h l_h F0 FSS
  obtain ⟨-, -, -, -, c_4, c_5, c_6, f_h, l_h⟩ := nd_cells H2.out.1
  go_wp2_with fail
  have F0 : FX (fun b => b = r.b) w wv.drew := H2.out.2.drew
  have hmx : 0 ≤ max hl hr ∧ max hl hr ≤ 4000000000 := by have := HH.out; omega
  have hw : wrap64 (1 + max hl hr) = 1 + max hl hr := by unfold wrap64; omega
  have FSS : Hid (∀ u, FX (fun b => b = r.b) w (wv.setCell ⟨r.b, 4, none⟩ (.int .i64 u)).drew ∧ (wv.setCell ⟨r.b, 4, none⟩ (.int .i64 u)).drew.cell? ⟨r.b, 5, none⟩ = some (pv pl) ∧ (wv.setCell ⟨r.b, 4, none⟩ (.int .i64 u)).drew.cell? ⟨r.b, 6, none⟩ = some (pv pr)) := fun u => by
    have h1 := nd_cells (nd_drew (nd_set4 H2.out.1 u))
    exact ⟨(H2.out.2.setCell (p := ⟨r.b, 4, none⟩) rfl _).drew, h1.2.2.2.2.2.1, h1.2.2.2.2.2.2.1⟩
  go_region_held3 (fun W => FX (fun b => b = r.b) w W ∧ W.cell? ⟨r.b, 5, none⟩ = some (pv pl) ∧ W.cell? ⟨r.b, 6, none⟩ = some (pv pr))
    (first | assumption | exact ⟨F0, c_5, c_6⟩ | exact FSS.out _)
    (first
      | (go_at_call_of 22 (pv pl); have hbl := (‹FX _ w _ ∧ _›).1; refine (tall22 (TL.out _ hbl)).mono ?_; rintro e w2 ⟨rfl, rfl⟩)
      | (go_at_call_of 22 (pv pr); have hbl := (‹FX _ w _ ∧ _›).1; refine (tall22 (TR.out _ hbl)).mono ?_; rintro e w2 ⟨rfl, rfl⟩))
  simp only [ifmax, Go.IntWalk.i64_left, hw]
  have H3 := nd_drew (nd_set4 H2.out.1 (1 + max hl hr))
  go_wp2_with fail
  go_end0
  exact ⟨rfl, H3, (FSS.out _).1⟩
end Go.Proofs.Ytohhmcpaajcplaa
