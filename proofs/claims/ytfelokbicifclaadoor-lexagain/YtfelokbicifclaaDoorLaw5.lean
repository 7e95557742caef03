/- LexAgain's walk. -/
import Derived.Test.YtfelokbicifclaaDoorAgain
import Derived.Lib.AppendStr
import Derived.Lib.ItoaLen
import Derived.Lib.LaidTab
import Derived.Laws.BytesArg
import Derived.Deep.QuietTactic
import Derived.BigQuiet
namespace Go.Proofs.YtfelokbicifclaaDoor
open Go.RowKit

theorem info5 : (Tryd.prog.info? 5).map (fun i => (i.zero, i.size, i.bytes)) = some (some (.int .u8 0), 1, 1) := by kernel_rfl

theorem word_size {l : List UInt8} (h : isWord l = true) : l.length ≤ 6 := by
  rw [isWord, List.any_eq_true] at h
  obtain ⟨b, hb, he⟩ := h
  have e : l = b.toList := by simpa using he
  have hall : ∀ b ∈ wordsB, b.toList.length ≤ 6 := by decide +kernel
  rw [e]; exact hall b hb
theorem piece_size {q : Tk} (h : q.wf) : q.piece.size ≤ 21 := by
  obtain ⟨kind, t, n⟩ := q
  unfold Tk.piece
  unfold Tk.wf at h
  simp only at h ⊢
  rcases h with ⟨rfl, rfl, h⟩ | ⟨rfl, rfl, h0, h1, h2, h3, h4⟩ | ⟨rfl, rfl, h0, h1, h2, h4⟩ | ⟨rfl, rfl, h0, h3, h1, h2, h4⟩ | ⟨rfl, rfl, h0, h1⟩ | ⟨rfl, rfl, h0, h1⟩
  · show (Lib.decDigits n).toArray.size ≤ 21
    have := Lib.itoa_length_le (n : Int) (by omega) (by omega)
    rw [Lib.itoa_nonneg] at this
    simpa using this
  · show t.size ≤ 21; omega
  · show t.size ≤ 21
    have := word_size h4
    rw [Lib.toList_data] at this
    rw [size_list]; omega
  · show t.size ≤ 21; omega
  · show t.size ≤ 21; omega
  · show t.size ≤ 21; omega

def endTk : Tk := ⟨0, ⟨#[]⟩, 0⟩
def encB (b : UInt8) : Value := .int .u8 b.toNat
/-- What has been written behind k tokens. -/
def outPre (l : List Tk) (k : Nat) : List UInt8 := ((l.take k).map fun q => q.piece.data.toList ++ [32]).flatten
theorem outPre_succ (l : List Tk) (k : Nat) (hk : k < l.length) : outPre l (k + 1) = outPre l k ++ l[k].piece.data.toList ++ [32] := by
  unfold outPre
  rw [List.take_succ_eq_append_getElem hk, List.map_append, List.flatten_append]
  simp only [List.map_cons, List.map_nil, List.flatten_cons, List.flatten_nil, List.append_nil, List.append_assoc]
theorem outPre_all : ∀ (l : List Tk), outPre (l ++ [endTk]) (l ++ [endTk]).length = outL l := by
  intro l
  unfold outPre
  rw [List.take_of_length_le (Nat.le_refl _)]
  induction l with
  | nil => rfl
  | cons q l ih => simp only [List.cons_append, List.map_cons, List.flatten_cons, ih, outL]; simp
theorem outPre_len (l : List Tk) (hw : ∀ q ∈ l, q.piece.size ≤ 21) : ∀ k, k ≤ l.length → (outPre l k).length ≤ k * 22
  | 0, _ => by simp [outPre]
  | k + 1, hk => by
    rw [outPre_succ l k hk]
    have h1 := outPre_len l hw k (by omega)
    have h2 := hw l[k] (List.getElem_mem _)
    rw [size_list] at h2
    simp only [List.length_append, List.length_cons, List.length_nil]
    omega

/-- The tokens in memory, as tokens. -/
theorem tk_cells {w : World} {base g cap m : Nat} {ts : List (List Value)} {tl : List Tk} {f : Nat → Nat} (h : w.ownsRow base 30 4 (.slice (some ⟨g, 0, none⟩) m cap) m ts.flatten) (hl : ts.length = m) (htl : tl.length = m) (he : ∀ i (hi : i < tl.length), ts[i]? = some (tl[i].cells (f i))) (i : Nat) (hi : i < tl.length) :
    w.cell? ⟨g, i * 4, none⟩ = some (.int .i64 tl[i].kind) ∧ w.cell? ⟨g, i * 4 + 1, none⟩ = some (.int .i64 (f i)) ∧ w.cell? ⟨g, i * 4 + 2, none⟩ = some (.string tl[i].text) ∧ w.cell? ⟨g, i * 4 + 3, none⟩ = some (.int .i64 tl[i].n) := by
  have h4 : ∀ c ∈ ts, c.length = 4 := by
    intro c hc
    obtain ⟨j, hj, rfl⟩ := List.getElem_of_mem hc
    have := he j (by omega)
    rw [List.getElem?_eq_getElem hj] at this
    rw [Option.some.inj this]; rfl
  have hg : ts.getD i [] = tl[i].cells (f i) := by rw [List.getD, he i hi]; rfl
  have hi' : i < ts.length := by omega
  subst hl
  refine ⟨?_, ?_, ?_, ?_⟩
  · have := h.cellAt (i * 4 + 0) (by omega); rw [flat4 ts h4 i 0 hi' (by omega), hg] at this; exact this
  · have := h.cellAt (i * 4 + 1) (by omega); rw [flat4 ts h4 i 1 hi' (by omega), hg] at this; exact this
  · have := h.cellAt (i * 4 + 2) (by omega); rw [flat4 ts h4 i 2 hi' (by omega), hg] at this; exact this
  · have := h.cellAt (i * 4 + 3) (by omega); rw [flat4 ts h4 i 3 hi' (by omega), hg] at this; exact this

/-- What the call finds in the package-level variables. -/
structure Globals2 (w : World) : Prop where
  base : Globals w
  signs : ∃ tg fg, w.heap[0]? = some (.cells signsC tg fg)
  pow : Lib.TabIs Tryd.prog w "internal/strconv.uint64pow10" .u64 Lib.pow10Tab
theorem gPow : Tryd.prog.globalNamed "internal/strconv.uint64pow10" = some 2 := by kernel_rfl
theorem Globals2.below {w w' : World} {B : Nat} (h : Globals2 w) (hb : Below B w w') (hB : 5 ≤ B) : Globals2 w' := by
  obtain ⟨h1, ⟨tg, fg, h2⟩, h3⟩ := h
  refine ⟨h1.below hb hB, ⟨tg, fg, by rw [hb.block 0 (by omega)]; exact h2⟩, ?_⟩
  unfold Lib.TabIs World.var? at h3 ⊢
  rw [gPow] at h3 ⊢
  simp only [Option.bind_some] at h3 ⊢
  rw [hb.block 2 (by omega)]
  exact h3

set_option maxRecDepth 100000 in
set_option maxHeartbeats 2000000 in
theorem law5_bad (s : ByteArray) (w : World) (hm : s.size ≤ maxLen) (hG : Globals2 w) (k p : Nat) (hl : lexAll s = .inl (k, p)) :
    Calls Tryd.prog 5 #[.string s] w fun e w' => e = .returned (.bool true) ∧ Below w.heap.size w w' := by
  obtain ⟨tg, fg, hS⟩ := hG.signs
  have h6 := tokens6_any s w hm hG.base tg fg hS
  have hk : ((k : Int) != 0) = true := by have := lexAll_bad hl; simp; omega
  have HL : Hid (lexAll s = .inl (k, p)) := hl
  clear hS hl
  go_enter Tryd.func5, Tryd.ntmps5
  go_wp2_with fail
  refine h6.mono ?_
  rintro e w1 ⟨hT, hb1⟩
  unfold TokPost at hT
  rw [HL.out] at hT
  obtain rfl : e = _ := hT
  go_wp2_with fail
  go_ret
  exact ⟨rfl, hb1.alloc hb1.size _⟩

/-- All that the walk asks of the tokens. -/
structure Toks (s : ByteArray) (ts : List (List Value)) (tl : List Tk) (m : Nat) (f : Nat → Nat) : Prop where
  lex : lexAll s = .inr ts
  tsl : ts.length = m + 1
  tll : tl.length = m + 1
  few : m ≤ 6000
  cells : ∀ i (hi : i < tl.length), ts[i]? = some (tl[i].cells (f i))
  last : ∀ hi : m < tl.length, tl[m] = endTk ∧ f m = s.size
  small : ∀ q ∈ tl, q.piece.size ≤ 21 ∧ q.n ≤ 9223372036854775807
  again : ∀ o : ByteArray, o.data.toList = outPre tl (m + 1) → o.size ≤ 6000 → ∃ (ts2 : List (List Value)) (f2 : Nat → Nat), lexAll o = .inr ts2 ∧ ts2.length = m + 1 ∧ ∀ i (hi : i < tl.length), ts2[i]? = some (tl[i].cells (f2 i))

theorem toks_of {s : ByteArray} {ts : List (List Value)} (hl : lexAll s = .inr ts) : ∃ tl m f, Toks s ts tl m f := by
  obtain ⟨_, hne, hlen⟩ := lexAll_good hl
  obtain ⟨pl, hpl, hwf⟩ := lexAll_tks hl
  have hlm : (pl.map (·.1) ++ [endTk]).length = pl.length + 1 := by simp
  have htsl : ts.length = pl.length + 1 := by rw [hpl]; simp
  refine ⟨pl.map (·.1) ++ [endTk], pl.length, fun i => if h : i < pl.length then (pl[i]).2 else s.size, hl, htsl, hlm, by omega, fun i hi => ?_, fun hi => ⟨by simp, by simp⟩, fun q hq => ?_, fun o ho hs => ?_⟩
  · by_cases h : i < pl.length
    · simp only [h, dif_pos, hpl]
      rw [List.getElem?_append_left (by simpa using h), List.getElem?_map, List.getElem?_eq_getElem h]
      simp [List.getElem_append_left, h]
    · have hi' : i = pl.length := by omega
      subst hi'
      simp [hpl, endTk, Tk.cells]
  · rcases List.mem_append.1 hq with hq | hq
    · obtain ⟨x, hx, rfl⟩ := List.mem_map.1 hq
      refine ⟨piece_size (hwf x hx), ?_⟩
      have := hwf x hx
      obtain ⟨⟨kind, t, n⟩, a⟩ := x
      unfold Tk.wf at this
      simp only at this ⊢
      rcases this with ⟨_, _, h⟩ | ⟨_, h, _⟩ | ⟨_, h, _⟩ | ⟨_, h, _⟩ | ⟨_, h, _⟩ | ⟨_, h, _⟩ <;> omega
    · rw [List.mem_singleton.1 hq]; exact ⟨by decide, by decide⟩
  · have ho' : o.data.toList = outL (pl.map (·.1)) := by rw [ho, ← outPre_all, hlm]
    have hlex := lex_again (pl.map (·.1)) (fun q hq => by obtain ⟨x, hx, rfl⟩ := List.mem_map.1 hq; exact hwf x hx) o ho' hs
    have hpa := place_at (pl.map (·.1)) 0
    have hplen := place_length (pl.map (·.1)) 0
    refine ⟨_, fun i => if h : i < pl.length then Classical.choose (hpa i (by simpa using h)) else o.size, hlex, by rw [List.length_append, hplen]; simp, fun i hi => ?_⟩
    by_cases h : i < pl.length
    · have hc := Classical.choose_spec (hpa i (by simpa using h))
      simp only [h, dif_pos]
      refine (List.getElem?_append_left (by rw [hplen]; simpa using h)).trans (hc.trans ?_)
      simp [List.getElem_append_left, h]
    · have hi' : i = pl.length := by omega
      subst hi'
      rw [List.getElem?_append_right (by rw [hplen]; simp), hplen]
      simp [endTk, Tk.cells]

/-- What is being written, in memory of the call's own. -/
structure Wr (W wr : World) (v : Value) (tl : List Tk) (k : Nat) : Prop where
  own : wr.ownsRow W.heap.size 5 1 v (outPre tl k).length ((outPre tl k).map encB)
  below : Below W.heap.size W wr
theorem enc_piece (q : Tk) : Lib.strCells q.piece = q.piece.data.toList.map encB := rfl
theorem Wr.next {W wr w1 w2 : World} {v v' v'' : Value} {tl : List Tk} {k : Nat} {o2 : Obj} {w0 : World} (h : Wr W wr v tl k) (hk : k < tl.length) (hb : Below wr.heap.size wr w0)
    (hg1 : w0.grownBy w1 v.ownBlock) (ho1 : w1.ownsRow W.heap.size 5 1 v' ((outPre tl k).length + tl[k].piece.size) ((outPre tl k).map encB ++ Lib.strCells tl[k].piece))
    (hg2 : (w1.alloc o2).grownBy w2 v'.ownBlock) (ho2 : w2.ownsRow W.heap.size 5 1 v'' ((outPre tl k).length + tl[k].piece.size + 1) ((outPre tl k).map encB ++ Lib.strCells tl[k].piece ++ [.int .u8 32])) : Wr W w2 v'' tl (k + 1) := by
  have hs0 := h.below.size
  have hs1 := hb.size
  have hs2 := hg1.size
  refine ⟨?_, ?_⟩
  · have e := outPre_succ tl k hk
    have e1 : (outPre tl (k + 1)).length = (outPre tl k).length + tl[k].piece.size + 1 := by rw [e]; simp only [List.length_append, List.length_cons, List.length_nil]; rw [size_list]
    have e2 : (outPre tl (k + 1)).map encB = (outPre tl k).map encB ++ Lib.strCells tl[k].piece ++ [.int .u8 32] := by rw [e, List.map_append, List.map_append, enc_piece]; rfl
    rw [e1, e2]; exact ho2
  · have b1 : Below W.heap.size W w0 := h.below.trans (hb.mono (by omega))
    have b2 : Below W.heap.size W w1 := b1.grown hg1 (by omega) (fun j hj => (h.own.lt j hj).1)
    exact (b2.alloc (by omega) o2).grown hg2 (by simp; omega) (fun j hj => (ho1.lt j hj).1)
theorem own_set_other {w : World} {base g n cap : Nat} {e : TypeId} {size : Nat} {xs : List Value} (h : w.ownsRow base e size (.slice (some ⟨g, 0, none⟩) n cap) n xs) {a : Addr} (ha : g ≠ a.block) (u : Value) : (w.setCell a u).ownsRow base e size (.slice (some ⟨g, 0, none⟩) n cap) n xs := by
  refine ⟨h.1, ?_⟩
  rcases h.2 with ⟨hv, _⟩ | ⟨g', cap', cur, hv, hb, hg, rest⟩
  · cases hv
  · cases hv
    exact .inr ⟨g, cap, cur, rfl, hb, by rw [Below.heap_setCell _ _ _ _ ha]; exact hg, rest⟩
theorem cell1_new (w : World) (c : Value) (t : TypeId) : ∀ j u, [c][j]? = some u → (w.alloc (.cells #[c] t)).cell? ((⟨w.heap.size, 0, none⟩ : Addr).add j) = some u := by
  intro j u hj
  match j, hj with
  | 0, hj => simp at hj; subst hj; simp [Addr.add]
theorem cell1_one : ∀ u ∈ [Value.int .u8 32], u.oneCell' = true := by
  intro u hu; simp at hu; subst hu; rfl
theorem itoa11 (q : Tk) (hk : q.kind = 1) (hn : q.n ≤ 9223372036854775807) (w : World) (hG : Globals2 w) : Calls Tryd.prog 11 #[.int .i64 q.n] w fun e w' => e = .returned (.string q.piece) ∧ Below w.heap.size w w' := by
  refine (Tryd.strconv_Itoa (q.n : Int) (by omega) (by omega) w hG.pow).mono ?_
  rintro e w' ⟨rfl, k, os, rfl⟩
  refine ⟨by rw [Lib.itoa_nonneg]; unfold Tk.piece pieceB; rw [if_pos hk], ?_⟩
  exact ⟨rfl, rfl, rfl, by simp [Go.Sort.grow], fun i hi => by
    show ((w.drewN k).heap ++ os)[i]? = _
    rw [Array.getElem?_append_left (by show i < w.heap.size; omega)]
    rfl⟩

set_option maxRecDepth 100000 in
set_option maxHeartbeats 4000000 in
theorem law5_good (s : ByteArray) (w : World) (hm : s.size ≤ maxLen) (hG : Globals2 w) (ts : List (List Value)) (tl : List Tk) (m : Nat) (f : Nat → Nat) (hT : Toks s ts tl m f) :
    Calls Tryd.prog 5 #[.string s] w fun e w' => e = .returned (.bool true) ∧ Below w.heap.size w w' := by
  obtain ⟨i5, hi5, hz50, hz51, hz52⟩ := info_parts info5
  obtain ⟨tg, fg, hS⟩ := hG.signs
  have h6 := tokens6_any s w hm hG.base tg fg hS
  have hml := hT.few
  have hz0 : ((m : Int) + 1 == 0) = false := by simp; omega
  clear hS
  go_enter Tryd.func5, Tryd.ntmps5
  go_wp2_with fail
  refine h6.mono ?_
  rintro e w1 ⟨hTP, hb1⟩
  unfold TokPost at hTP
  rw [hT.lex] at hTP
  obtain ⟨v1, rfl, ho1⟩ := hTP
  obtain ⟨ga, ca, rfl, hga1, hga2⟩ := own_shape ho1 (fun h => by have := hT.tsl; rw [h] at this; simp at this)
  rw [hT.tsl] at ho1 ⊢
  obtain ⟨l0, l1, _, _⟩ := tk_cells ho1 hT.tsl hT.tll hT.cells m (by rw [hT.tll]; omega)
  obtain ⟨e0, e1⟩ := hT.last (by rw [hT.tll]; omega)
  rw [e0] at l0
  rw [e1] at l1
  have l0' : w1.cell? ⟨ga, m * 4, none⟩ = some (.int .i64 0) := l0
  clear l0 h6 e0 e1
  go_wp2_with fail
  obtain ⟨W, hW⟩ : ∃ W, W = w1.alloc (.cells #[.int .i64 0, .int .i64 0] 25) := ⟨_, rfl⟩
  rw [← hW]
  have hoW : W.ownsRow (w.heap.size + 2) 30 4 (.slice (some ⟨ga, 0, none⟩) (m + 1) ca) (m + 1) ts.flatten := by rw [hW]; exact ho1.alloc _
  have hbW : Below w.heap.size w W := by rw [hW]; exact hb1.alloc hb1.size _
  have hWs : w1.heap.size < W.heap.size := by rw [hW]; simp
  have HWf : Hid (Below (w1.heap.size + 1) (w1.alloc (.cells #[.int .i64 0, .int .i64 0] 25)) W) := by show Below _ _ _; rw [hW]; exact Below.refl _ _
  have hGW : Globals2 W := hG.below hbW hG.base.room
  clear hW ho1 l0' l1
  go_loopg [5, 45] (m + 2) (fun g v t wr => ∃ k : Nat, k + g = m + 2 ∧ k ≤ m + 1 ∧ t = .int .i64 k ∧ Wr W wr v tl k)
  case atStart => exact ⟨0, by omega, by omega, rfl, ⟨World.ownsRow_nil _ _ _ _, Below.refl _ _⟩⟩
  case round =>
    obtain ⟨k, hkg, hkm1, rfl, hR⟩ := hrel
    have hbs := hR.below.size
    have hlk := outPre_len tl (fun q hq => (hT.small q hq).1) k
    have htll := hT.tll
    by_cases hk : k < m + 1
    · have hkl : k < tl.length := by omega
      obtain ⟨c0, c1, c2, c3⟩ := tk_cells (ownsRow_below hoW hR.below) hT.tsl hT.tll hT.cells k hkl
      obtain ⟨hq1, hq2⟩ := hT.small _ (List.getElem_mem hkl)
      have hlk' := hlk (by omega)
      clear hlk htll
      by_cases hk1 : tl[k].kind = 1
      · have H11 : Hid (∀ w, Globals2 w → Calls Tryd.prog 11 #[.int .i64 tl[k].n] w fun e w' => e = .returned (.string tl[k].piece) ∧ Below w.heap.size w w') := fun w hG => itoa11 _ hk1 hq2 w hG
        have hb : ((tl[k].kind : Int) == 1) = true := by rw [hk1]; rfl
        clear hk1
        have hGr := hGW.below hR.below hGW.base.room
        go_wp2_with (first | (go_at_call 11; refine (H11.out _ (hGr.below ((Below.refl _ _).alloc (Nat.le_refl _) _) hGr.base.room)).mono ?_; rintro e w2 ⟨rfl, hb2⟩; have hs2 : wr.heap.size < w2.heap.size := (by have := hb2.size; simp at this; omega)) | (at_builtin; refine Lib.wpList_append_own_string _ rfl (.tmp 52) (.tmp 55) 32 9 rfl W.heap.size 5 i5 Tryd.underlying32 Tryd.underlying9 hi5 hz50 hz51 hz52 _ _ _ rfl (ownsRow_below (hR.own.alloc _) hb2) tl[k].piece rfl (by unfold maxLen; omega) (by omega) (by omega) ?_; intro v' w3 hown3 hgrow3 _; have hs3 : W.heap.size ≤ w3.heap.size := (by have := hgrow3.size; omega)) | (at_builtin; refine wpList_append_own _ rfl (.tmp 61) (.tmp 62) 32 rfl W.heap.size 5 i5 _ 1 1 Tryd.underlying32 hi5 hz50 hz51 hz52 rfl (by decide) _ _ _ rfl (hown3.alloc _) ⟨w3.heap.size, 0, none⟩ 1 1 [.int .u8 32] rfl rfl (cell1_new _ _ _) cell1_one (by unfold maxLen; omega) (by omega) (by simp; omega) ?_; intro v'' w4 hown4 hgrow4 _))
        have hR' := hR.next hkl (((Below.refl _ _).alloc (Nat.le_refl _) _).trans (hb2.mono (by simp))) hgrow3 hown3 hgrow4 hown4
        go_roundg (m + 1 - k)
        case measure => omega
        case rel => exact ⟨k + 1, by omega, by omega, by go_num, hR'⟩
      · have hpt : tl[k].piece = tl[k].text := by unfold Tk.piece pieceB; rw [if_neg hk1]
        have hb : ((tl[k].kind : Int) == 1) = false := by simp; omega
        rw [← hpt] at c2
        clear hk1 hpt
        go_wp2_with (first | (at_builtin; refine Lib.wpList_append_own_string _ rfl (.tmp 57) (.tmp 59) 32 9 rfl W.heap.size 5 i5 Tryd.underlying32 Tryd.underlying9 hi5 hz50 hz51 hz52 _ _ _ rfl (hR.own.alloc _) tl[k].piece rfl (by unfold maxLen; omega) (by omega) (by simp; omega) ?_; intro v' w3 hown3 hgrow3 _; have hs3 : W.heap.size ≤ w3.heap.size := (by have := hgrow3.size; simp at this; omega)) | (at_builtin; refine wpList_append_own _ rfl (.tmp 61) (.tmp 62) 32 rfl W.heap.size 5 i5 _ 1 1 Tryd.underlying32 hi5 hz50 hz51 hz52 rfl (by decide) _ _ _ rfl (hown3.alloc _) ⟨w3.heap.size, 0, none⟩ 1 1 [.int .u8 32] rfl rfl (cell1_new _ _ _) cell1_one (by unfold maxLen; omega) (by omega) (by simp; omega) ?_; intro v'' w4 hown4 hgrow4 _))
        have hR' := hR.next hkl ((Below.refl _ _).alloc (Nat.le_refl _) _) hgrow3 hown3 hgrow4 hown4
        go_roundg (m + 1 - k)
        case measure => omega
        case rel => exact ⟨k + 1, by omega, by omega, by go_num, hR'⟩
    · have hkm : k = m + 1 := by omega
      subst hkm
      clear hlk htll
      obtain ⟨bs, hbs0⟩ : ∃ bs, bs = outPre tl (m + 1) := ⟨_, rfl⟩
      have HBS : Hid (bs = outPre tl (m + 1)) := hbs0
      have hbs1 := hbs0
      clear hbs0
      have hown := hR.own
      have hbr := hR.below
      have hbl : 0 < bs.length := by rw [hbs1, outPre_succ tl m (by have := hT.tll; omega)]; simp; omega
      rw [← hbs1] at hown
      obtain ⟨gs, cs, hv5, hgs1, hgs2⟩ : ∃ g cap, u5 = .slice (some ⟨g, 0, none⟩) bs.length cap ∧ W.heap.size ≤ g ∧ g < wr.heap.size := by
        rcases hown.2 with ⟨_, h0⟩ | ⟨g, cap, cur, hv, hb, hg, _⟩
        · omega
        · exact ⟨g, cap, hv, hb, (Array.getElem?_eq_some_iff.1 hg).1⟩
      rw [hv5] at hown ⊢
      clear hbs1
      by_cases hbig : 6000 < bs.length
      · have hbig' : (6000 : Int) < (bs.length : Int) := by omega
        go_wp2_with fail
        go_ret
        exact ⟨rfl, hbW.trans (hbr.mono hbW.size)⟩
      · have hbig' : ¬ (6000 : Int) < (bs.length : Int) := by omega
        have hcell : ∀ i, i < bs.length → wr.cell? ⟨gs, 0 + i, none⟩ = some (.int .u8 ((bs.map fun b => (b.toNat : Int)).getD i 0)) := by
          intro i hi
          have := hown.cellAt i (by omega)
          rw [Nat.zero_add, this]
          simp [List.getD, hi, encB]
        have hconv := run_convert_bytes_arg (P := Tryd.prog) wr 32 5 Tryd.underlying32 Tryd.underlying5 gs 0 bs.length cs (bs.map fun b => (b.toNat : Int)) (by simp) hcell 9 Tryd.underlying9
        obtain ⟨o, ho⟩ : ∃ o, o = strOfNums (bs.map fun b => (b.toNat : Int)) := ⟨_, rfl⟩
        rw [← ho] at hconv
        have hod : o.data.toList = bs := by rw [ho, strOfNums_data, List.map_map]; conv => rhs; rw [← List.map_id bs]
                                            apply List.map_congr_left; intro b _; simp
        have hos : o.size = bs.length := by rw [size_list, hod]
        obtain ⟨ts2, f2, hl2, hts2, hc2⟩ := hT.again o (by rw [hod, HBS.out]) (by omega)
        have hGr := hGW.below hbr hGW.base.room
        obtain ⟨tg2, fg2, hS2⟩ := hGr.signs
        have h6 := tokens6_any o wr (by unfold maxLen; omega) hGr.base tg2 fg2 hS2
        have H2 : Hid (lexAll o = .inr ts2) := hl2
        have HC2 : Hid (∀ i (hi : i < tl.length), ts2[i]? = some (tl[i].cells (f2 i))) := hc2
        have HTS2 : Hid (ts2.length = m + 1) := hts2
        have hoa := ownsRow_below hoW hbr
        clear hS2 hl2 hc2 hts2 hcell ho hod hos hown hv5
        go_wp2_with fail
        refine h6.mono ?_
        rintro e w5 ⟨hTP, hb5⟩
        unfold TokPost at hTP
        rw [H2.out] at hTP
        obtain ⟨v2, rfl, ho2⟩ := hTP
        obtain ⟨gb, cb, rfl, hgb1, hgb2⟩ := own_shape ho2 (fun h => by have := HTS2.out; rw [h] at this; simp at this)
        rw [HTS2.out] at ho2 ⊢
        have hs5 := hb5.size
        have hbX : Below (w1.heap.size + 1) (w1.alloc (.cells #[.int .i64 0, .int .i64 0] 25)) w5 := (HWf.out.trans (hbr.mono (by omega))).trans (hb5.mono (by omega))
        obtain ⟨x0, x1, x2, x3⟩ := faultBlock hbX
        have hoa5 := ownsRow_below hoa hb5
        have hbw5 : Below w.heap.size w w5 := (hbW.trans (hbr.mono hbW.size)).trans (hb5.mono (by have := hbW.size; omega))
        clear h6 hoa
        go_wp2_with fail
        obtain ⟨w6, hw6⟩ : ∃ w6, w6 = (w5.setCell ⟨w1.heap.size, 0, none⟩ (.int .i64 0)).setCell ⟨w1.heap.size, 1, none⟩ (.int .i64 0) := ⟨_, rfl⟩
        rw [← hw6]
        have hoa6 : w6.ownsRow (w.heap.size + 2) 30 4 (.slice (some ⟨ga, 0, none⟩) (m + 1) ca) (m + 1) ts.flatten := by rw [hw6]; exact own_set_other (own_set_other hoa5 (by simp; omega) _) (by simp; omega) _
        have hob6 : w6.ownsRow (wr.heap.size + 2) 30 4 (.slice (some ⟨gb, 0, none⟩) (m + 1) cb) (m + 1) ts2.flatten := by rw [hw6]; exact own_set_other (own_set_other ho2 (by simp; omega) _) (by simp; omega) _
        have hbw6 : Below w.heap.size w w6 := by rw [hw6]; exact (hbw5.setCell (by have := hb1.size; simp; omega) _).setCell (by have := hb1.size; simp; omega) _
        clear hw6 hoa5 ho2 x0 x1 x2 x3 hbX
        go_loopg [86] (m + 2) (fun g t wx => ∃ i : Nat, i + g = m + 2 ∧ i ≤ m + 1 ∧ t = .int .i64 i ∧ Below w6.heap.size w6 wx)
        case atStart => exact ⟨0, by omega, by omega, rfl, Below.refl _ _⟩
        case round =>
          obtain ⟨i, hig, him, rfl, hbx⟩ := hrel
          by_cases hi : i < m + 1
          · have hil : i < tl.length := by have := hT.tll; omega
            obtain ⟨a0, a1, a2, a3⟩ := tk_cells (ownsRow_below hoa6 hbx) hT.tsl hT.tll hT.cells i hil
            obtain ⟨b0, b1, b2, b3⟩ := tk_cells (ownsRow_below hob6 hbx) HTS2.out hT.tll HC2.out i hil
            go_wp2_with fail
            go_quiet (fail)
            go_wp2_with fail
            go_roundg (m + 1 - i)
            case measure => omega
            case rel => exact ⟨i + 1, by omega, by omega, by go_num, below_drewN hbx _⟩
          · go_wp2_with fail
            go_ret
            exact ⟨rfl, hbw6.trans (hbx.mono hbw6.size)⟩

theorem law5 (s : ByteArray) (w : World) (hm : s.size ≤ maxLen) (hG : Globals2 w) :
    Calls Tryd.prog 5 #[.string s] w fun e w' => e = .returned (.bool true) ∧ Below w.heap.size w w' := by
  cases hl : lexAll s with
  | inl x => obtain ⟨k, p⟩ := x; exact law5_bad s w hm hG k p hl
  | inr ts =>
    obtain ⟨tl, m, f, hT⟩ := toks_of hl
    exact law5_good s w hm hG ts tl m f hT
end Go.Proofs.YtfelokbicifclaaDoor
