/- The document's own lexer: all tokens of a text. -/
import Derived.Test.YtfelokbicifclaaDoorRefOne
namespace Go.Proofs.YtfelokbicifclaaDoor
open Go.RowKit

theorem info30 : (Tryd.prog.info? 30).map (fun i => (i.zero, i.size, i.bytes)) = some (some (.agg #[.int .i64 0, .int .i64 0, .string ⟨#[]⟩, .int .i64 0]), 4, 40) := by kernel_rfl

theorem ownsRow_below {w w1 : World} {base : Nat} {e : TypeId} {size : Nat} {v : Value} {n : Nat} {xs : List Value} (h : w.ownsRow base e size v n xs) (hb : Below w.heap.size w w1) : w1.ownsRow base e size v n xs := by
  obtain ⟨h1, h2⟩ := h
  refine ⟨h1, ?_⟩
  rcases h2 with h2 | ⟨g, cap, cur, hv, hbg, hg, rest⟩
  · exact .inl h2
  · have hlt : g < w.heap.size := (Array.getElem?_eq_some_iff.1 hg).1
    exact .inr ⟨g, cap, cur, hv, hbg, by rw [hb.block g hlt]; exact hg, rest⟩

/-- What 'Tokens' answers: the tokens in memory of its own, or the fault. -/
def TokPost (s : ByteArray) (base : Nat) (e : Ending) (w' : World) : Prop :=
  match lexAll s with
  | .inl (k, i) => e = .returned (.tuple #[.slice none 0 0, .agg #[.int .i64 k, .int .i64 i]])
  | .inr ts => ∃ v, e = .returned (.tuple #[v, .agg #[.int .i64 0, .int .i64 0]]) ∧ w'.ownsRow base 30 4 v ts.length ts.flatten

/-- The loop's relation, the places aside. -/
structure TokRel (s : ByteArray) (w wr : World) (v : Value) (k b : Nat) (acc : List (List Value)) : Prop where
  le : k ≤ s.size
  own : wr.ownsRow (w.heap.size + 1) 30 4 v acc.length acc.flatten
  below : Below (w.heap.size + 1) (w.alloc (.cells #[.int .i64 0, .int .i64 0] 25)) wr
  same : lexFrom b s k acc = lexFrom s.size s 0 []
  fuel : s.size ≤ k + b
  few : acc.length ≤ k

theorem cells4_new (w : World) (c0 c1 c2 c3 : Value) (t : TypeId) : ∀ j u, [c0, c1, c2, c3][j]? = some u → (w.alloc (.cells #[c0, c1, c2, c3] t)).cell? ((⟨w.heap.size, 0, none⟩ : Addr).add j) = some u := by
  intro j u hj
  match j, hj with
  | 0, hj => simp at hj; subst hj; simp [Addr.add]
  | 1, hj => simp at hj; subst hj; simp [Addr.add]
  | 2, hj => simp at hj; subst hj; simp [Addr.add]
  | 3, hj => simp at hj; subst hj; simp [Addr.add]
theorem cells4_one {a b n : Int} {t : ByteArray} : ∀ u ∈ [Value.int .i64 a, .int .i64 b, .string t, .int .i64 n], u.oneCell' = true := by
  intro u hu
  simp at hu
  rcases hu with rfl | rfl | rfl | rfl <;> rfl

theorem faultBlock {w wr : World} (h : Below (w.heap.size + 1) (w.alloc (.cells #[.int .i64 0, .int .i64 0] 25)) wr) :
    wr.cell? ⟨w.heap.size, 0, none⟩ = some (.int .i64 0) ∧ wr.cell? ⟨w.heap.size, 1, none⟩ = some (.int .i64 0) ∧ wr.frozen? ⟨w.heap.size, 0, none⟩ = false ∧ wr.frozen? ⟨w.heap.size, 1, none⟩ = false := by
  refine ⟨?_, ?_, ?_, ?_⟩
  · rw [h.cell (p := ⟨w.heap.size, 0, none⟩) (by simp)]; simp
  · rw [h.cell (p := ⟨w.heap.size, 1, none⟩) (by simp)]; simp
  · rw [h.frozen (p := ⟨w.heap.size, 0, none⟩) (by simp)]; simp
  · rw [h.frozen (p := ⟨w.heap.size, 1, none⟩) (by simp)]; simp

theorem TokRel.step {s : ByteArray} {w wr : World} {v : Value} {k b : Nat} {acc : List (List Value)} (h : TokRel s w wr v k b acc) (hlt : k < s.size) {k' : Nat} {acc' : List (List Value)} {wr' : World} {v' : Value}
    (h1 : k < k') (h2 : k' ≤ s.size) (hlex : ∀ b', lexFrom (b' + 1) s k acc = lexFrom b' s k' acc') (own : wr'.ownsRow (w.heap.size + 1) 30 4 v' acc'.length acc'.flatten)
    (below : Below (w.heap.size + 1) (w.alloc (.cells #[.int .i64 0, .int .i64 0] 25)) wr') (few : acc'.length ≤ k') : ∃ b', TokRel s w wr' v' k' b' acc' := by
  obtain ⟨b', rfl⟩ : ∃ b', b = b' + 1 := ⟨b - 1, by have := h.fuel; omega⟩
  exact ⟨b', h2, own, below, by rw [← hlex]; exact h.same, by have := h.fuel; omega, few⟩

theorem TokRel.end_ {s : ByteArray} {w wr : World} {v : Value} {k b : Nat} {acc : List (List Value)} (h : TokRel s w wr v k b acc) (hs : s.size ≤ 6000) (hlt : ¬ k < s.size) : lexAll s = .inr (acc ++ [tokCells 0 s.size ⟨#[]⟩ 0]) := by
  have := h.same
  rw [lex_end hlt] at this
  rw [lexAll, if_neg (by omega), ← this]
theorem TokRel.bad {s : ByteArray} {w wr : World} {v : Value} {k b : Nat} {acc : List (List Value)} (h : TokRel s w wr v k b acc) (hs : s.size ≤ 6000) (hlt : k < s.size) (hb : blankN (bat s k) = false) (hr : bat s k ≠ 35) (he : (one s k).err ≠ 0) : lexAll s = .inl ((one s k).err, k) := by
  obtain ⟨b', rfl⟩ : ∃ b', b = b' + 1 := ⟨b - 1, by have := h.fuel; omega⟩
  have := h.same
  rw [lex_bad hlt hb hr he] at this
  rw [lexAll, if_neg (by omega), ← this]

theorem flatten_snoc (acc : List (List Value)) (c : List Value) : (acc ++ [c]).flatten = acc.flatten ++ c := by simp

set_option maxHeartbeats 4000000 in
theorem tokens7 (s : ByteArray) (w : World) (hs : s.size ≤ 6000) :
    Calls Tryd.prog 7 #[.string s] w fun e w' => TokPost s (w.heap.size + 1) e w' ∧ Below w.heap.size w w' := by
  obtain ⟨i0, hi0, hz0, hz1, hz2⟩ := info_parts info30
  go_enter Tryd.func7, Tryd.ntmps7
  go_wp2_with fail
  go_loopw [4, 5] (fun v i wr => ∃ (k b : Nat) (acc : List (List Value)), i = .int .i64 k ∧ TokRel s w wr v k b acc) (fun _ i _ => s.size - (intOf i).toNat)
  case atStart => exact ⟨0, s.size, [], rfl, ⟨Nat.zero_le _, World.ownsRow_nil _ _ _ _, Below.refl _ _, rfl, by omega, by simp⟩⟩
  case round =>
    obtain ⟨k, b, acc, rfl, hR⟩ := hrel
    have hk := hR.le
    have hsz : w.heap.size + 1 ≤ wr.heap.size := by have := hR.below.size; simpa using this
    by_cases hlt : k < s.size
    · have HB : Hid (bat s k = (s[k]'hlt).toNat) := bat_eq hlt
      rcases (show (s[k]'hlt).toNat = 32 ∨ (s[k]'hlt).toNat = 9 ∨ (s[k]'hlt).toNat = 10 ∨ (s[k]'hlt).toNat = 35 ∨ ((s[k]'hlt).toNat ≠ 32 ∧ (s[k]'hlt).toNat ≠ 9 ∧ (s[k]'hlt).toNat ≠ 10 ∧ (s[k]'hlt).toNat ≠ 35) by omega) with hc | hc | hc | hc | ⟨hc1, hc2, hc3, hc4⟩
      · have HC : Hid ((s[k]'hlt).toNat = 32) := hc
        have b32 : (((s[k]'hlt).toNat : Int) == 32) = true := by rw [hc]; rfl
        clear hc
        go_wp2_with fail
        obtain ⟨b', hR'⟩ := hR.step hlt (k' := k + 1) (by omega) (by omega) (fun b' => lex_blank hlt (by rw [HB.out, HC.out]; rfl)) hR.own hR.below (by have := hR.few; omega)
        go_roundw
        case rel => exact ⟨k + 1, b', acc, by go_num, hR'⟩
        case measure => simp [intOf]; omega
      · have HC : Hid ((s[k]'hlt).toNat = 9) := hc
        have b32 : (((s[k]'hlt).toNat : Int) == 32) = false := by rw [hc]; rfl
        have b9 : (((s[k]'hlt).toNat : Int) == 9) = true := by rw [hc]; rfl
        clear hc
        go_wp2_with fail
        obtain ⟨b', hR'⟩ := hR.step hlt (k' := k + 1) (by omega) (by omega) (fun b' => lex_blank hlt (by rw [HB.out, HC.out]; rfl)) hR.own hR.below (by have := hR.few; omega)
        go_roundw
        case rel => exact ⟨k + 1, b', acc, by go_num, hR'⟩
        case measure => simp [intOf]; omega
      · have HC : Hid ((s[k]'hlt).toNat = 10) := hc
        have b32 : (((s[k]'hlt).toNat : Int) == 32) = false := by rw [hc]; rfl
        have b9 : (((s[k]'hlt).toNat : Int) == 9) = false := by rw [hc]; rfl
        have b10 : (((s[k]'hlt).toNat : Int) == 10) = true := by rw [hc]; rfl
        clear hc
        go_wp2_with fail
        obtain ⟨b', hR'⟩ := hR.step hlt (k' := k + 1) (by omega) (by omega) (fun b' => lex_blank hlt (by rw [HB.out, HC.out]; rfl)) hR.own hR.below (by have := hR.few; omega)
        go_roundw
        case rel => exact ⟨k + 1, b', acc, by go_num, hR'⟩
        case measure => simp [intOf]; omega
      · have HC : Hid ((s[k]'hlt).toNat = 35) := hc
        have b32 : (((s[k]'hlt).toNat : Int) == 32) = false := by rw [hc]; rfl
        have b9 : (((s[k]'hlt).toNat : Int) == 9) = false := by rw [hc]; rfl
        have b10 : (((s[k]'hlt).toNat : Int) == 10) = false := by rw [hc]; rfl
        have b35 : (((s[k]'hlt).toNat : Int) == 35) = true := by rw [hc]; rfl
        clear hc
        have hpos : k < runEnd remN s k := runEnd_pos hlt (by rw [HB.out, HC.out]; rfl)
        have hle := runEnd_le remN s k hk
        go_wp2_with fail
        go_loop [5] (fun t => ∃ m : Nat, k ≤ m ∧ m ≤ s.size ∧ t = .int .i64 m ∧ runEnd remN s m = runEnd remN s k) (fun t => s.size - (intOf t).toNat)
        case atStart => exact ⟨k, Nat.le_refl _, hk, rfl, rfl⟩
        case round =>
          obtain ⟨m, hkm, hm, rfl, hrun⟩ := hrel
          have HM : Hid (runEnd remN s m = runEnd remN s k) := hrun
          clear hrun
          by_cases hml : m < s.size
          · have HBm : Hid (bat s m = (s[m]'hml).toNat) := bat_eq hml
            cases hn : (((s[m]'hml).toNat : Int) != 10)
            · go_wp2_with fail
              have e : runEnd remN s m = m := runEnd_no (by rw [HBm.out]; simp at hn; simp [remN]; omega)
              have e2 : m = runEnd remN s k := by rw [← HM.out, e]
              obtain ⟨b', hR'⟩ := hR.step hlt (k' := m) (by omega) (by omega) (fun b' => by rw [lex_rem hlt (by rw [HB.out, HC.out]), ← e2]) hR.own hR.below (by have := hR.few; omega)
              go_roundw
              case rel => exact ⟨m, b', acc, rfl, hR'⟩
              case measure => simp [intOf]; omega
            · go_wp2_with fail
              go_round
              case rel => exact ⟨m + 1, by omega, by omega, by go_num, by rw [← HM.out]; exact (runEnd_go hml (by rw [HBm.out]; simp at hn; simp [remN]; omega)).symm⟩
              case measure => simp [intOf]; omega
          · go_wp2_with fail
            have e : runEnd remN s m = m := runEnd_end hml
            have e2 : m = runEnd remN s k := by rw [← HM.out, e]
            obtain ⟨b', hR'⟩ := hR.step hlt (k' := m) (by omega) (by omega) (fun b' => by rw [lex_rem hlt (by rw [HB.out, HC.out]), ← e2]) hR.own hR.below (by have := hR.few; omega)
            go_roundw
            case rel => exact ⟨m, b', acc, rfl, hR'⟩
            case measure => simp [intOf]; omega
      · have b32 : (((s[k]'hlt).toNat : Int) == 32) = false := by simp; omega
        have b9 : (((s[k]'hlt).toNat : Int) == 9) = false := by simp; omega
        have b10 : (((s[k]'hlt).toNat : Int) == 10) = false := by simp; omega
        have b35 : (((s[k]'hlt).toNat : Int) == 35) = false := by simp; omega
        have HNb : Hid (blankN (bat s k) = false) := by show blankN (bat s k) = false; rw [HB.out]; simp [blankN]; omega
        have HNr : Hid (bat s k ≠ 35) := by show bat s k ≠ 35; rw [HB.out]; exact hc4
        clear hc1 hc2 hc3 hc4
        by_cases he : (one s k).err = 0
        · have HE : Hid ((one s k).err = 0) := he
          have hst := one_stop hlt he
          clear he
          go_wp2_with (first | (go_at_call 17; refine (one17_ok s k _ hs hlt HE.out).mono ?_; rintro e w1 ⟨rfl, hb1⟩; have hc1 := ownsRow_below hR.own hb1) | (at_builtin; refine wpList_append_own _ rfl (.tmp 59) (.tmp 61) 22 rfl (w.heap.size + 1) 30 i0 _ 4 40 Tryd.underlying22 hi0 hz0 hz1 hz2 rfl (by decide) _ _ _ rfl ((hc1.alloc _).alloc _) ⟨w1.heap.size + 1, 0, none⟩ 1 1 (oneCells s k) rfl rfl ?c1 cells4_one (by have := hR.few; unfold maxLen; omega) (by have := hR.few; omega) ?c5 ?_; rotate_left 2; intro v' w2 hown' hgrow _))
          case c1 => have := cells4_new (w1.alloc (.cells #[.int .i64 (one s k).kind, .int .i64 k, .string (oneText s k (one s k)), .int .i64 (one s k).n] 30)) (.int .i64 (one s k).kind) (.int .i64 k) (.string (oneText s k (one s k))) (.int .i64 (one s k).n) 30; simpa [oneCells, tokCells] using this
          case c5 => have := hb1.size; simp; omega
          have hs1 : wr.heap.size ≤ w1.heap.size := hb1.size
          have hbw : Below (w.heap.size + 1) (w.alloc (.cells #[.int .i64 0, .int .i64 0] 25)) w2 := ((((hR.below.trans (hb1.mono hsz)).alloc (by omega) _).alloc (by simp; omega) _)).grown hgrow (by simp; omega) (fun k hk => (hR.own.lt k hk).1)
          obtain ⟨b', hR'⟩ := hR.step hlt (k' := (one s k).stop) (acc' := acc ++ [oneCells s k]) hst.1 hst.2 (fun b' => lex_tok hlt HNb.out HNr.out HE.out) (by rw [flatten_snoc, List.length_append]; exact hown') hbw (by have := hR.few; simp; omega)
          go_roundw
          case rel => exact ⟨_, b', _, rfl, hR'⟩
          case measure => simp [intOf]; omega
        · have HE : Hid ((one s k).err ≠ 0) := he
          have hE : (((one s k).err : Int) != 0) = true := by simp; omega
          clear he
          go_wp2_with (go_at_call 17; refine (one17_bad s k _ hs hlt).mono ?_; rintro e w1 ⟨⟨x1, x2, x3, x4, x5, rfl⟩, hb1⟩; have hbw : Below (w.heap.size + 1) (w.alloc (.cells #[.int .i64 0, .int .i64 0] 25)) w1 := hR.below.trans (hb1.mono hsz); obtain ⟨f0, f1, f2, f3⟩ := faultBlock hbw; have hs1 : w.heap.size < w1.heap.size := (by have := hbw.size; simp at this; omega))
          refine bodyPost_ret (v := .tuple #[.slice none 0 0, .agg #[.int .i64 (one s k).err, .int .i64 k]]) (by simp [results, Tryd.results7, go_sem, f0, f1, hs1]) rfl ⟨?_, ?_⟩
          · unfold TokPost
            rw [hR.bad hs hlt HNb.out HNr.out HE.out]
          · exact (((((Below.refl _ _).alloc (Nat.le_refl _) _).trans (hbw.mono (by simp))).setCell (by simp) _).setCell (by simp) _).alloc (by simp; omega) _
    · go_wp2_with (first | (at_builtin; refine wpList_append_own _ rfl (.tmp 64) (.tmp 68) 22 rfl (w.heap.size + 1) 30 i0 _ 4 40 Tryd.underlying22 hi0 hz0 hz1 hz2 rfl (by decide) _ _ _ rfl (hR.own.alloc _) ⟨wr.heap.size, 0, none⟩ 1 1 [.int .i64 0, .int .i64 s.size, .string ⟨#[]⟩, .int .i64 0] rfl rfl (cells4_new _ _ _ _ _ _) cells4_one (by have := hR.few; unfold maxLen; omega) (by have := hR.few; omega) (by simp; omega) ?_; intro v' w1 hown' hgrow _; have hb1 : Below (w.heap.size + 1) (w.alloc (.cells #[.int .i64 0, .int .i64 0] 25)) w1 := (hR.below.alloc hsz _).grown hgrow (by simp; omega) (fun k hk => (hR.own.lt k hk).1); obtain ⟨f0, f1, f2, f3⟩ := faultBlock hb1) | fail)
      refine bodyPost_ret (v := .tuple #[v', .agg #[.int .i64 0, .int .i64 0]]) (by simp [results, Tryd.results7, go_sem, f0, f1]) rfl ⟨?_, ?_⟩
      · unfold TokPost
        rw [hR.end_ hs hlt]
        refine ⟨v', rfl, ?_⟩
        rw [flatten_snoc, List.length_append]
        exact ownsRow_setCell_below (ownsRow_setCell_below hown' (by simp) _) (by simp) _
      · exact ((((Below.refl _ _).alloc (Nat.le_refl _) _).trans (hb1.mono (by simp))).setCell (by simp) _).setCell (by simp) _

set_option maxHeartbeats 1000000 in
theorem tokens7_long (s : ByteArray) (w : World) (hs : 6000 < s.size) (hm : s.size ≤ maxLen) :
    Calls Tryd.prog 7 #[.string s] w fun e w' => TokPost s (w.heap.size + 1) e w' ∧ Below w.heap.size w w' := by
  unfold maxLen at hm
  go_enter Tryd.func7, Tryd.ntmps7
  go_wp2_with fail
  refine bodyPost_ret (v := .tuple #[.slice none 0 0, .agg #[.int .i64 1, .int .i64 0]]) (by simp [results, Tryd.results7, go_sem]) rfl ⟨?_, (Below.refl _ _).alloc (Nat.le_refl _) _⟩
  unfold TokPost
  rw [lexAll, if_pos hs]
  rfl
theorem tokens7_any (s : ByteArray) (w : World) (hm : s.size ≤ maxLen) : Calls Tryd.prog 7 #[.string s] w fun e w' => TokPost s (w.heap.size + 1) e w' ∧ Below w.heap.size w w' := by
  by_cases hs : s.size ≤ 6000
  · exact tokens7 s w hs
  · exact tokens7_long s w (by omega) hm
end Go.Proofs.YtfelokbicifclaaDoor
