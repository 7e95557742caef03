/- The project's lexer: numbers, names, lifetimes at a text's beginning. -/
import Derived.Test.YtfelokbicifclaaDoorProj
import Derived.Test.YtfelokbicifclaaDoorLexMore
import Derived.Test.YtfelokbicifclaaDoorShelf
namespace Go.Proofs.YtfelokbicifclaaDoor
open Go.RowKit

/-- What the call finds in the package-level variables: the words, and an error in ErrRange. -/
structure Globals (w : World) : Prop where
  words : ∃ tt fr, w.heap[1]? = some (.cells wordsC tt fr)
  range : ∃ ev, w.cell? ⟨4, 0, none⟩ = some ev ∧ (ev = .nilIface ∨ ∃ te pe, ev = .iface te pe)
  room : 5 ≤ w.heap.size
theorem Globals.below {w w' : World} {B : Nat} (h : Globals w) (hb : Below B w w') (hB : 5 ≤ B) : Globals w' := by
  obtain ⟨⟨tt, fr, h1⟩, ⟨ev, h2, h3⟩, h4⟩ := h
  exact ⟨⟨tt, fr, by rw [hb.block 1 (by omega)]; exact h1⟩, ⟨ev, by rw [hb.cell (p := ⟨4, 0, none⟩) (by simp; omega)]; exact h2, h3⟩, by have := hb.size; omega⟩
theorem Globals.alloc {w : World} (h : Globals w) (o : Obj) : Globals (w.alloc o) := h.below ((Below.refl _ _).alloc (Nat.le_refl _) o) h.room

theorem let_zero {t : ByteArray} (h : letN (bat t 0) = true) : 0 < t.size := by
  rcases Nat.eq_zero_or_pos t.size with e | e
  · rw [bat_out (by omega)] at h; simp [letN] at h
  · exact e
def nameLen (t : ByteArray) : Nat := if letN (bat t 0) then runEnd namN t 0 else 0

set_option maxHeartbeats 1000000 in
theorem nameSize21 (t : ByteArray) (w : World) (hs : t.size ≤ 6000) : Calls Tryd.prog 21 #[.string t] w fun e w' => e = .returned (.int .i64 (nameLen t)) ∧ Below w.heap.size w w' := by
  cases hl : letN (bat t 0)
  · have e : runEnd letN t 0 = 0 := runEnd_no hl
    have HE : Hid (nameLen t = 0) := by show nameLen t = 0; rw [nameLen, hl]; simp
    have hz : ((runEnd letN t 0 : Int) == 0) = true := by rw [e]; rfl
    clear hl e
    go_enter Tryd.func21, Tryd.ntmps21
    go_wp2_with (go_at_call 13; refine (span_let t _ hs).mono ?_; rintro e w1 ⟨rfl, hb1⟩)
    go_ret
    exact ⟨by rw [HE.out]; rfl, hb1⟩
  · have h1 : 0 < runEnd letN t 0 := runEnd_pos (let_zero hl) hl
    have HE : Hid (nameLen t = runEnd namN t 0) := by show nameLen t = _; rw [nameLen, hl]; simp
    have hz : ((runEnd letN t 0 : Int) == 0) = false := by simp; omega
    clear hl
    go_enter Tryd.func21, Tryd.ntmps21
    go_wp2_with fail
    refine (span_let t _ hs).mono ?_
    rintro e w1 ⟨rfl, hb1⟩
    go_wp2_with fail
    refine (span_nam t _ hs).mono ?_
    rintro e w2 ⟨rfl, hb2⟩
    go_wp2_with fail
    go_ret
    exact ⟨by rw [HE.out]; rfl, hb1.trans (hb2.mono hb1.size)⟩

/-- A token's block, behind a call that turns nothing old. -/
theorem tokBlock {w w1 : World} {c0 c1 c2 c3 : Value} (h : Below (w.heap.size + 1) (w.alloc (.cells #[c0, c1, c2, c3] 30)) w1) :
    w1.cell? ⟨w.heap.size, 0, none⟩ = some c0 ∧ w1.cell? ⟨w.heap.size, 1, none⟩ = some c1 ∧ w1.cell? ⟨w.heap.size, 2, none⟩ = some c2 ∧ w1.cell? ⟨w.heap.size, 3, none⟩ = some c3 ∧
      w1.frozen? ⟨w.heap.size, 0, none⟩ = false ∧ w1.frozen? ⟨w.heap.size, 1, none⟩ = false ∧ w1.frozen? ⟨w.heap.size, 2, none⟩ = false ∧ w1.frozen? ⟨w.heap.size, 3, none⟩ = false := by
  refine ⟨?_, ?_, ?_, ?_, ?_, ?_, ?_, ?_⟩
  · rw [h.cell (p := ⟨w.heap.size, 0, none⟩) (by simp)]; simp
  · rw [h.cell (p := ⟨w.heap.size, 1, none⟩) (by simp)]; simp
  · rw [h.cell (p := ⟨w.heap.size, 2, none⟩) (by simp)]; simp
  · rw [h.cell (p := ⟨w.heap.size, 3, none⟩) (by simp)]; simp
  · rw [h.frozen (p := ⟨w.heap.size, 0, none⟩) (by simp)]; simp
  · rw [h.frozen (p := ⟨w.heap.size, 1, none⟩) (by simp)]; simp
  · rw [h.frozen (p := ⟨w.heap.size, 2, none⟩) (by simp)]; simp
  · rw [h.frozen (p := ⟨w.heap.size, 3, none⟩) (by simp)]; simp
theorem below_four {w w1 : World} {o : Obj} (h : Below (w.heap.size + 1) (w.alloc o) w1) (a b c d : Value) :
    Below w.heap.size w ((((w1.setCell ⟨w.heap.size, 0, none⟩ a).setCell ⟨w.heap.size, 1, none⟩ b).setCell ⟨w.heap.size, 2, none⟩ c).setCell ⟨w.heap.size, 3, none⟩ d) :=
  ((((((Below.refl _ _).alloc (Nat.le_refl _) _).trans (h.mono (by simp))).setCell (by simp) _).setCell (by simp) _).setCell (by simp) _).setCell (by simp) _

/-- A plain token's answer, as a value. -/
def plainV (err kind : Nat) (t : ByteArray) (n size : Nat) : Value := .tuple #[.agg #[.int .i64 kind, .int .i64 0, .string t, .int .i64 n], .int .i64 size, .int .i64 err]

set_option maxHeartbeats 1000000 in
theorem number20_ok (d : ByteArray) (w : World) (hs : d.size ≤ 6000) (h0 : 0 < d.size) (hd : ∀ j, j < d.size → digN (bat d j) = true) (hm : numVal d 0 d.size ≤ 9223372036854775807) :
    Calls Tryd.prog 20 #[.string d] w fun e w' => e = .returned (plainV 0 1 ⟨#[]⟩ (numVal d 0 d.size) d.size) ∧ Below w.heap.size w w' := by
  have ha := atoi_digits d h0 hd
  clear hd
  rw [if_pos hm] at ha
  have HA : Hid (Lib.atoiAll d.data.toList = .ok (numVal d 0 d.size : Nat)) := ha
  clear ha hm
  go_enter Tryd.func20, Tryd.ntmps20
  go_wp2_with fail
  refine (Tryd.strconv_Atoi_ok d (by omega) _ HA.out _).mono ?_
  rintro e w1 ⟨rfl, hw1⟩
  have hb1 : Below (w.heap.size + 1) (w.alloc (.cells #[.int .i64 0, .int .i64 0, .string ⟨#[]⟩, .int .i64 0] 30)) w1 := by
    rcases hw1 with rfl | ⟨t, rfl⟩
    · exact Below.refl _ _
    · exact (Lib.bytesWorld_below _ _ _).mono (by simp)
  clear hw1
  obtain ⟨f0, f1, f2, f3, g0, g1, g2, g3⟩ := tokBlock hb1
  go_wp2_with fail
  exact bodyPost_ret (v := plainV 0 1 ⟨#[]⟩ (numVal d 0 d.size) d.size) (by simp [results, Tryd.results20, go_sem, plainV, f0, f1, f2, f3]) rfl ⟨rfl, below_four hb1 _ _ _ _⟩

set_option maxHeartbeats 1000000 in
theorem number20_big (d : ByteArray) (w : World) (hs : d.size ≤ 6000) (h0 : 0 < d.size) (hd : ∀ j, j < d.size → digN (bat d j) = true) (hm : ¬ numVal d 0 d.size ≤ 9223372036854775807) (hG : Globals w) :
    Calls Tryd.prog 20 #[.string d] w fun e w' => e = .returned (plainV 3 0 ⟨#[]⟩ 0 0) ∧ Below w.heap.size w w' := by
  have ha := atoi_digits d h0 hd
  clear hd
  rw [if_neg hm] at ha
  have HA : Hid (Lib.atoiAll d.data.toList = .range) := ha
  clear ha hm
  obtain ⟨ev, hev1, hev2⟩ := (hG.alloc (.cells #[.int .i64 0, .int .i64 0, .string ⟨#[]⟩, .int .i64 0] 30)).range
  go_enter Tryd.func20, Tryd.ntmps20
  go_wp2_with fail
  refine (Tryd.strconv_Atoi_range d (by omega) HA.out ev _ hev1 hev2).mono ?_
  rintro e w1 ⟨n, rfl, hn1, hn2, hb⟩
  have hb1 : Below (w.heap.size + 1) (w.alloc (.cells #[.int .i64 0, .int .i64 0, .string ⟨#[]⟩, .int .i64 0] 30)) w1 := hb.mono (by simp)
  clear hev1 hev2 hn1 hn2 hb
  obtain ⟨f0, f1, f2, f3, g0, g1, g2, g3⟩ := tokBlock hb1
  go_wp2_with fail
  exact bodyPost_ret (v := plainV 3 0 ⟨#[]⟩ 0 0) (by simp [results, Tryd.results20, go_sem, plainV, f0, f1, f2, f3]) rfl ⟨rfl, below_four hb1 _ _ _ _⟩

set_option maxHeartbeats 1000000 in
theorem life23 (t : ByteArray) (w : World) (hs : t.size ≤ 6000) (h0 : 0 < t.size) :
    Calls Tryd.prog 23 #[.string t] w fun e w' => e = .returned (if 21 < t.size then plainV 3 0 ⟨#[]⟩ 0 0 else plainV 0 4 t 0 t.size) ∧ Below w.heap.size w w' := by
  by_cases h : 21 < t.size
  · rw [if_pos h]
    have h' : (20 : Int) < (t.size : Int) - 1 := by omega
    go_enter Tryd.func23, Tryd.ntmps23
    go_wp2_with fail
    exact bodyPost_ret (v := plainV 3 0 ⟨#[]⟩ 0 0) (by simp [results, Tryd.results23, go_sem, plainV]) rfl ⟨rfl, (Below.refl _ _).alloc (Nat.le_refl _) _⟩
  · rw [if_neg h]
    have h' : ¬ (20 : Int) < (t.size : Int) - 1 := by omega
    go_enter Tryd.func23, Tryd.ntmps23
    go_wp2_with fail
    exact bodyPost_ret (v := plainV 0 4 t 0 t.size) (by simp [results, Tryd.results23, go_sem, plainV]) rfl ⟨rfl, (Below.refl _ _).alloc (Nat.le_refl _) _⟩

set_option maxHeartbeats 1000000 in
theorem name22 (t : ByteArray) (w : World) (hs : t.size ≤ 6000) (hG : Globals w) :
    Calls Tryd.prog 22 #[.string t] w fun e w' => e = .returned (if isWord t.toList then plainV 0 3 t 0 t.size else if 20 < t.size then plainV 3 0 ⟨#[]⟩ 0 0 else plainV 0 2 t 0 t.size) ∧ Below w.heap.size w w' := by
  obtain ⟨tt, fr, hg⟩ := (hG.alloc (.cells #[.int .i64 0, .int .i64 0, .string ⟨#[]⟩, .int .i64 0] 30)).words
  have HG : Hid ((w.alloc (.cells #[.int .i64 0, .int .i64 0, .string ⟨#[]⟩, .int .i64 0] 30)).heap[1]? = some (.cells wordsC tt fr)) := hg
  clear hg
  cases hw : isWord t.toList
  · rw [if_neg (by simp)]
    by_cases h : 20 < t.size
    · rw [if_pos h]
      have h' : (20 : Int) < (t.size : Int) := by omega
      go_enter Tryd.func22, Tryd.ntmps22
      go_wp2_with (go_at_call 9; refine (word9 t _ tt fr HG.out).mono ?_; rintro e w' ⟨rfl, rfl⟩)
      exact bodyPost_ret (v := plainV 3 0 ⟨#[]⟩ 0 0) (by simp [results, Tryd.results22, go_sem, plainV]) rfl ⟨rfl, (Below.refl _ _).alloc (Nat.le_refl _) _⟩
    · rw [if_neg h]
      have h' : ¬ (20 : Int) < (t.size : Int) := by omega
      go_enter Tryd.func22, Tryd.ntmps22
      go_wp2_with (go_at_call 9; refine (word9 t _ tt fr HG.out).mono ?_; rintro e w' ⟨rfl, rfl⟩)
      exact bodyPost_ret (v := plainV 0 2 t 0 t.size) (by simp [results, Tryd.results22, go_sem, plainV]) rfl ⟨rfl, (Below.refl _ _).alloc (Nat.le_refl _) _⟩
  · rw [if_pos rfl]
    go_enter Tryd.func22, Tryd.ntmps22
    go_wp2_with (go_at_call 9; refine (word9 t _ tt fr HG.out).mono ?_; rintro e w' ⟨rfl, rfl⟩)
    exact bodyPost_ret (v := plainV 0 3 t 0 t.size) (by simp [results, Tryd.results22, go_sem, plainV]) rfl ⟨rfl, (Below.refl _ _).alloc (Nat.le_refl _) _⟩
end Go.Proofs.YtfelokbicifclaaDoor
