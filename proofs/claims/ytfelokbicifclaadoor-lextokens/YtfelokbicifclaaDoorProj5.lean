/- The project's lexer: the loop over the text's runes. -/
import Derived.Test.YtfelokbicifclaaDoorProj4
import Derived.WalkMore
namespace Go.Proofs.YtfelokbicifclaaDoor
open Go.RowKit

theorem sortBlank : ∀ c, 128 ≤ c → blankN c = false := fun c h => by simp [blankN]; omega
theorem sortHash : ∀ c, 128 ≤ c → (fun x : Nat => x == 35) c = false := fun c h => by simp; omega

theorem plain_bad {s : ByteArray} {pos : Nat} (hp : pos < s.size) (h : isPlain (s.extract pos s.size) = true) (he : (one s pos).err ≠ 0) : plain (s.extract pos s.size) = ⟨3, 0, 0, 0⟩ ∧ plainText (s.extract pos s.size) = ⟨#[]⟩ ∧ (one s pos).err = 3 := by
  obtain ⟨h1, _, _, _, h5, _⟩ := one_rest s pos hp h
  have e := h5 he
  have e2 : plain (s.extract pos s.size) = ⟨3, 0, 0, 0⟩ := by rw [plain, if_pos h, e]
  exact ⟨e2, by rw [plainText, e2]; rfl, by rw [← h1, e]⟩
theorem plain_ok {s : ByteArray} {pos : Nat} (hp : pos < s.size) (h : isPlain (s.extract pos s.size) = true) (he : (one s pos).err = 0) : plain (s.extract pos s.size) = ⟨0, (one s pos).kind, (one s pos).stop - pos, (one s pos).n⟩ ∧ plainText (s.extract pos s.size) = oneText s pos (one s pos) := by
  obtain ⟨h1, h2, h3, h4, _, h6⟩ := one_rest s pos hp h
  have h4' := h4 he
  have h6' := h6 he
  have hst := one_stop hp he
  have e2 : plain (s.extract pos s.size) = ⟨0, (one s pos).kind, (one s pos).stop - pos, (one s pos).n⟩ := by
    rw [plain, if_pos h]
    have : one (s.extract pos s.size) 0 = ⟨(one (s.extract pos s.size) 0).err, (one (s.extract pos s.size) 0).kind, (one (s.extract pos s.size) 0).stop, (one (s.extract pos s.size) 0).n⟩ := rfl
    rw [this, h1, h2, h3, he, show (one (s.extract pos s.size) 0).stop = (one s pos).stop - pos by omega]
  refine ⟨e2, ?_⟩
  rw [plainText, e2, oneText]
  by_cases hk : (one s pos).kind = 1
  · rw [if_pos (by simp [hk]), if_pos hk]
  · rw [if_neg (by simp; omega), if_neg hk, ext_ext s pos _ (by simp; omega)]
    simp only
    rw [show pos + ((one s pos).stop - pos) = (one s pos).stop by omega]
theorem plain_no {s : ByteArray} {pos : Nat} (h : isPlain (s.extract pos s.size) = false) : plain (s.extract pos s.size) = ⟨0, 0, 0, 0⟩ ∧ plainText (s.extract pos s.size) = ⟨#[]⟩ ∧ one s pos = if signLen s pos = 0 then ⟨2, 0, 0, 0⟩ else ⟨0, 5, pos + signLen s pos, 0⟩ := by
  have e2 : plain (s.extract pos s.size) = ⟨0, 0, 0, 0⟩ := by rw [plain, if_neg (by simp [h])]
  refine ⟨e2, by rw [plainText, e2]; rfl, ?_⟩
  rw [isPlain, ext_bat_end, ext_bat_end, Nat.add_zero] at h
  simp at h
  refine one_sign h.1.1 h.1.2 ?_
  by_cases h39 : bat s pos = 39
  · exact .inr (h.2 h39)
  · exact .inl h39

theorem signs_kept {s : ByteArray} {w wr : World} {v : Value} {pos : Nat} {acc : List (List Value)} {o : Obj} {tg : TypeId} {fg : Nat × Nat} (hG : Globals w) (h : Mem s w wr v pos acc) (hS : w.heap[0]? = some (.cells signsC tg fg)) : (wr.alloc o).heap[0]? = some (.cells signsC tg fg) := by
  have hr := hG.room
  have hsz := h.sz
  rw [Below.heap_alloc _ _ _ (by omega), h.below.block 0 (by omega), Below.heap_alloc _ _ _ (by omega)]
  exact hS

set_option maxRecDepth 100000 in
set_option maxHeartbeats 4000000 in
theorem tokens6 (s : ByteArray) (w : World) (hs : s.size ≤ 6000) (hG : Globals w) (tg : TypeId) (fg : Nat × Nat) (hS : w.heap[0]? = some (.cells signsC tg fg)) :
    Calls Tryd.prog 6 #[.string s] w fun e w' => TokPost s (w.heap.size + 2) e w' ∧ Below w.heap.size w w' := by
  have HS : Hid (w.heap[0]? = some (.cells signsC tg fg)) := hS
  clear hS
  obtain ⟨i0, hi0, hz0, hz1, hz2⟩ := info_parts info30
  go_enter Tryd.func6, Tryd.ntmps6
  go_wp2_with fail
  go_step3
  go_wp2_with fail
  go_step3
  go_wp2_with fail
  go_loopg [4, 5] (s.size + 1) (fun g v e5 wr => ∃ (pos en b : Nat) (acc : List (List Value)), e5 = .int .i64 en ∧ s.size < pos + g ∧ Book s pos en b acc ∧ Mem s w wr v pos acc)
  case atStart => exact ⟨0, 0, s.size, [], rfl, by omega, Book.start s, ⟨by have := World.iter_heap (w.alloc (.cells #[.int .i64 0, .int .i64 0] 25)) s 0; simpa using this, World.ownsRow_nil _ _ _ _, (Below.refl _ _).alloc (by simp) _⟩⟩
  case round =>
    obtain ⟨pos, en, b, acc, rfl, hg, hB, hM⟩ := hrel
    have hpl := hB.pos_le
    have hel := hB.en_le
    by_cases hp : pos < s.size
    · obtain ⟨hd1, hd2, -⟩ := dec_width s pos hp
      have HB2 : Hid (∀ p : Nat → Bool, (∀ c, 128 ≤ c → p c = false) → p (Utf8.decode s pos).1 = p (bat s pos)) := fun p hq => dec_same hq hp
      have hnx : ∀ ty, (Instr.next (.pointer (some ⟨w.heap.size + 1, 0, none⟩)) true ty).run Tryd.prog wr = _ := fun ty => Lib.run_next_any_at wr (w.heap.size + 1) s pos ty hM.iter hp
      obtain ⟨w1, hw1⟩ : ∃ w1, w1 = wr.iterAt (w.heap.size + 1) s (pos + (Utf8.decode s pos).2) := ⟨_, rfl⟩
      rw [← hw1] at hnx
      have hM1 := hM.next (pos + (Utf8.decode s pos).2)
      rw [← hw1] at hM1
      clear hw1 hM
      have hG1 := hG.mem hM1
      obtain ⟨c, hc⟩ : ∃ c, c = (Utf8.decode s pos).1 := ⟨_, rfl⟩
      rw [← hc] at hnx HB2
      clear hc
      by_cases he : pos < en
      · have hB' := hB.skip hp he
        clear hB
        go_wp2_with fail
        go_roundg (s.size - pos)
        case measure => omega
        case rel => exact ⟨_, en, b, acc, rfl, by omega, hB', hM1⟩
      · cases hbl : blankN c
        · cases h35 : ((c : Int) == 35)
          · have HNb : Hid (blankN (bat s pos) = false) := by show blankN (bat s pos) = false; rw [← HB2.out blankN sortBlank]; exact hbl
            have HNr : Hid (bat s pos ≠ 35) := by
              have := HB2.out (fun x => x == 35) sortHash
              have h' : (c == 35) = false := by simp at h35; simp; omega
              rw [h'] at this
              show bat s pos ≠ 35
              simpa using this.symm
            have hrs : (s.extract pos s.size).size = s.size - pos := ext_size s pos s.size (Nat.le_refl _)
            have h15 := plain15 (s.extract pos s.size) w1 (by omega) (by omega) hG1
            clear hrs
            cases hpn : isPlain (s.extract pos s.size)
            · obtain ⟨e1, e2, e3⟩ := plain_no hpn
              have H3 : Hid (one s pos = if signLen s pos = 0 then ⟨2, 0, 0, 0⟩ else ⟨0, 5, pos + signLen s pos, 0⟩) := e3
              have H15 : Hid (Calls Tryd.prog 15 #[.string (s.extract pos s.size)] w1 fun e w' => e = .returned (.tuple #[.agg #[.int .i64 0, .int .i64 0, .string ⟨#[]⟩, .int .i64 0], .int .i64 0, .int .i64 0]) ∧ Below w1.heap.size w1 w') := by
                refine h15.mono ?_
                rintro e w' ⟨rfl, hb⟩
                exact ⟨by rw [e1, e2]; rfl, hb⟩
              clear h15 e1 e2 e3 hpn
              have hfew := hB.few
              go_wp2_with (first | (go_at_call 12; refine (blank12 _ _).mono ?_; rintro e w' ⟨rfl, rfl⟩) | (go_at_call 15; refine H15.out.mono ?_; rintro e w2 ⟨rfl, hb2⟩; have hM2 := hM1.call hb2; have hsz := hM2.sz; have hlt2 : w.heap.size < w2.heap.size := (by omega); obtain ⟨f0, f1, f2, f3⟩ := faultBlock hM2.below) | (refine wpList_load_row rfl 38 _ rfl 0 rfl tg signsC fg _ ?hrow Tryd.underlying38 rfl (by kernel_rfl) ?_; rotate_left 1))
              case hrow => exact signs_kept hG hM2 HS.out
              go_loopg [4, 5, 63] 30 (fun g2 s4 s5 s63 wy => ∃ j : Nat, j + g2 = 30 ∧ s4 = u4 ∧ s5 = .int .i64 en ∧ s63 = .int .i64 j ∧ wy = (w2.alloc (.cells #[.int .i64 0, .int .i64 0, .string ⟨#[]⟩, .int .i64 0] 30)) ∧ Hid (∀ i, i < j → signHit s pos i = false))
              case atStart => exact ⟨0, by omega, rfl, rfl, rfl, rfl, fun i hi => absurd hi (by omega)⟩
              case round =>
                obtain ⟨j, hj, rfl, rfl, rfl, rfl, HJ⟩ := hrel
                by_cases hj30 : j < 30
                · have hix : ∀ w, (Instr.index 38 (.agg signsC) (.int .i64 j)).run Tryd.prog w = .ok (.string (signAt j)) w := fun w => index_signs w j hj30
                  have hlen := sign_len_pos j hj30
                  cases hh : signHit s pos j
                  · have H16 : Hid (∀ W, Calls Tryd.prog 16 #[.string (s.extract pos s.size), .string (signAt j)] W fun e w' => e = .returned (.bool false) ∧ w' = W) := by
                      intro W
                      refine (Tryd.strings_HasPrefix _ _ W).mono ?_
                      rintro e w' ⟨rfl, rfl⟩
                      exact ⟨by have : Lib.hasPrefix (s.extract pos s.size).data.toList (signAt j).data.toList = false := hh
                                rw [this], rfl⟩
                    have HH : Hid (signHit s pos j = false) := hh
                    clear hh
                    go_wp2_with (go_at_call 16; refine (H16.out _).mono ?_; rintro e w' ⟨rfl, rfl⟩)
                    go_roundg (29 - j)
                    case measure => omega
                    case rel =>
                      refine ⟨j + 1, by omega, rfl, rfl, by go_num, rfl, fun i hi => ?_⟩
                      by_cases hij : i = j
                      · subst hij; exact HH.out
                      · exact HJ.out i (by omega)
                  · have H16 : Hid (∀ W, Calls Tryd.prog 16 #[.string (s.extract pos s.size), .string (signAt j)] W fun e w' => e = .returned (.bool true) ∧ w' = W) := by
                      intro W
                      refine (Tryd.strings_HasPrefix _ _ W).mono ?_
                      rintro e w' ⟨rfl, rfl⟩
                      exact ⟨by have : Lib.hasPrefix (s.extract pos s.size).data.toList (signAt j).data.toList = true := hh
                                rw [this], rfl⟩
                    have hsl := sign_size s pos hp j hj30 hh HJ.out
                    have htx := sign_text s pos j hh
                    have ho : one s pos = ⟨0, 5, pos + (signAt j).size, 0⟩ := by rw [H3.out, if_neg (by omega), hsl]
                    have hcl : oneCells s pos = [.int .i64 5, .int .i64 pos, .string (signAt j), .int .i64 0] := by rw [oneCells, ho, oneText]; simp [tokCells, htx]
                    have hE : (one s pos).err = 0 := by rw [ho]
                    have hstop : (one s pos).stop = pos + (signAt j).size := by rw [ho]
                    have hst := one_stop hp hE
                    obtain ⟨b', hB'⟩ := hB.step hp he (dec_low hp (one_low hp hE pos (Nat.le_refl _) hst.1)) (en' := (one s pos).stop) (w := (one s pos).stop) (by omega) hst.2 (clear_low hst.2 (fun p h1 h2 => one_low hp hE p (by omega) h2)) (fun b' => lex_tok hp HNb.out HNr.out hE) (acc' := acc ++ [oneCells s pos]) (by simp)
                    rw [hstop, hcl] at hB'
                    rw [hstop] at hst
                    clear hh hsl htx ho hcl hE hstop hB
                    go_wp2_with (first | (go_at_call 16; refine (H16.out _).mono ?_; rintro e w' ⟨rfl, rfl⟩) | (at_builtin; refine wpList_append_own _ rfl (.tmp 69) (.tmp 73) 22 rfl (w.heap.size + 2) 30 i0 _ 4 40 Tryd.underlying22 hi0 hz0 hz1 hz2 rfl (by decide) _ _ _ rfl ((hM2.own.alloc _).alloc _) ⟨w2.heap.size + 1, 0, none⟩ 1 1 [.int .i64 5, .int .i64 pos, .string (signAt j), .int .i64 0] rfl rfl ?c1 cells4_one (by unfold maxLen; omega) (by omega) (by simp; omega) ?_; rotate_left 1; intro v' w3 hown' hgrow _))
                    case c1 => have := cells4_new (w2.alloc (.cells #[.int .i64 0, .int .i64 0, .string ⟨#[]⟩, .int .i64 0] 30)) (.int .i64 5) (.int .i64 pos) (.string (signAt j)) (.int .i64 0) 30; simpa using this
                    have hM3 := ((hM2.alloc _).alloc _).grown hgrow hown'
                    go_roundg (s.size - pos)
                    case measure => omega
                    case rel => exact ⟨_, pos + (signAt j).size, b', _, by go_num, by omega, hB', hM3⟩
                · have HB : Hid (lexAll s = .inl (2, pos)) := by
                    have hz := sign_none s pos hp (fun i hi => HJ.out i (by omega))
                    have ho : one s pos = ⟨2, 0, 0, 0⟩ := by rw [H3.out, if_pos hz]
                    have := hB.bad hs hp he HNb.out HNr.out (by rw [ho]; simp)
                    rw [ho] at this
                    exact this
                  clear hB
                  go_wp2_with fail
                  rw [Exit.noGoto_ret]
                  refine bodyPost_ret (v := .tuple #[.slice none 0 0, .agg #[.int .i64 2, .int .i64 pos]]) (by simp [results, Tryd.results6, go_sem, f0, f1, hlt2]) rfl ⟨?_, ?_⟩
                  · unfold TokPost
                    rw [HB.out]
                    rfl
                  · exact (((((Below.refl _ _).alloc (Nat.le_refl _) _).trans (hM2.below.mono (by simp))).setCell (by simp) _).setCell (by simp) _).alloc (by simp; omega) _
            · by_cases hE : (one s pos).err = 0
              · obtain ⟨e1, e2⟩ := plain_ok hp hpn hE
                have hst := one_stop hp hE
                have H15 : Hid (Calls Tryd.prog 15 #[.string (s.extract pos s.size)] w1 fun e w' => e = .returned (.tuple #[.agg #[.int .i64 (one s pos).kind, .int .i64 0, .string (oneText s pos (one s pos)), .int .i64 (one s pos).n], .int .i64 ((one s pos).stop - pos : Nat), .int .i64 0]) ∧ Below w1.heap.size w1 w') := by
                  refine h15.mono ?_
                  rintro e w' ⟨rfl, hb⟩
                  exact ⟨by rw [e1, e2]; rfl, hb⟩
                obtain ⟨b', hB'⟩ := hB.step hp he (dec_low hp (one_low hp hE pos (Nat.le_refl _) hst.1)) (en' := (one s pos).stop) (w := (one s pos).stop) (by omega) hst.2 (clear_low hst.2 (fun p h1 h2 => one_low hp hE p (by omega) h2)) (fun b' => lex_tok hp HNb.out HNr.out hE) (acc' := acc ++ [oneCells s pos]) (by simp)
                have hfew := hB.few
                have hsp : 0 < (one s pos).stop - pos := by omega
                clear h15 e1 e2 hpn hE hB
                go_wp2_with (first | (go_at_call 12; refine (blank12 _ _).mono ?_; rintro e w' ⟨rfl, rfl⟩) | (go_at_call 15; refine H15.out.mono ?_; rintro e w2 ⟨rfl, hb2⟩; have hM2 := hM1.call hb2; have hsz := hM2.sz) | (at_builtin; refine wpList_append_own _ rfl (.tmp 55) (.tmp 57) 22 rfl (w.heap.size + 2) 30 i0 _ 4 40 Tryd.underlying22 hi0 hz0 hz1 hz2 rfl (by decide) _ _ _ rfl ((hM2.own.alloc _).alloc _) ⟨w2.heap.size + 1, 0, none⟩ 1 1 (oneCells s pos) rfl rfl ?c1 cells4_one (by unfold maxLen; omega) (by omega) (by simp; omega) ?_; rotate_left 1; intro v' w3 hown' hgrow _))
                case c1 => have := cells4_new (w2.alloc (.cells #[.int .i64 (one s pos).kind, .int .i64 pos, .string (oneText s pos (one s pos)), .int .i64 (one s pos).n] 30)) (.int .i64 (one s pos).kind) (.int .i64 pos) (.string (oneText s pos (one s pos))) (.int .i64 (one s pos).n) 30; simpa [oneCells, tokCells] using this
                have hM3 := ((hM2.alloc _).alloc _).grown hgrow hown'
                go_roundg (s.size - pos)
                case measure => omega
                case rel => exact ⟨_, (one s pos).stop, b', _, by go_num, by omega, hB', hM3⟩
              · obtain ⟨e1, e2, e3⟩ := plain_bad hp hpn hE
                have H15 : Hid (Calls Tryd.prog 15 #[.string (s.extract pos s.size)] w1 fun e w' => e = .returned (.tuple #[.agg #[.int .i64 0, .int .i64 0, .string ⟨#[]⟩, .int .i64 0], .int .i64 0, .int .i64 3]) ∧ Below w1.heap.size w1 w') := by
                  refine h15.mono ?_
                  rintro e w' ⟨rfl, hb⟩
                  exact ⟨by rw [e1, e2]; rfl, hb⟩
                have HB : Hid (lexAll s = .inl (3, pos)) := by
                  have := hB.bad hs hp he HNb.out HNr.out hE
                  rw [e3] at this
                  exact this
                clear h15 e1 e2 e3 hpn hE hB
                go_wp2_with (first | (go_at_call 12; refine (blank12 _ _).mono ?_; rintro e w' ⟨rfl, rfl⟩) | (go_at_call 15; refine H15.out.mono ?_; rintro e w2 ⟨rfl, hb2⟩; have hM2 := hM1.call hb2; have hsz := hM2.sz; have hlt2 : w.heap.size < w2.heap.size := (by omega); obtain ⟨f0, f1, f2, f3⟩ := faultBlock hM2.below))
                rw [Exit.noGoto_ret]
                refine bodyPost_ret (v := .tuple #[.slice none 0 0, .agg #[.int .i64 3, .int .i64 pos]]) (by simp [results, Tryd.results6, go_sem, f0, f1, hlt2]) rfl ⟨?_, ?_⟩
                · unfold TokPost
                  rw [HB.out]
                  rfl
                · exact (((((Below.refl _ _).alloc (Nat.le_refl _) _).trans (hM2.below.mono (by simp))).setCell (by simp) _).setCell (by simp) _).alloc (by simp; omega) _
          · have hb35 : bat s pos = 35 := by
              have := HB2.out (fun x => x == 35) sortHash
              have h' : (c == 35) = true := by simp at h35; simp; omega
              rw [h'] at this
              simpa using this.symm
            have hx := ext_runEnd remN s pos 0 (by omega)
            rw [Nat.add_zero] at hx
            have hle := runEnd_le remN s pos (by omega)
            have hpos : pos < runEnd remN s pos := runEnd_pos hp (by rw [hb35]; rfl)
            have HX : Hid (pos + runEnd remN (s.extract pos s.size) 0 = runEnd remN s pos) := hx
            have HZ : Hid ((s.extract pos s.size).size ≤ 6000) := by show (s.extract pos s.size).size ≤ 6000; rw [ext_size s pos s.size (Nat.le_refl _)]; omega
            have hrl : runEnd remN (s.extract pos s.size) 0 ≤ 6000 := by omega
            obtain ⟨b', hB'⟩ := hB.step hp he (dec_low hp (by omega)) (en' := runEnd remN s pos) (w := runEnd remN s pos) (by omega) hle (clear_rem (by omega)) (fun b' => lex_rem hp hb35) (by omega)
            clear hB hb35 hx
            go_wp2_with (first | (go_at_call 12; refine (blank12 _ _).mono ?_; rintro e w' ⟨rfl, rfl⟩) | (go_at_call 13; refine (span_rem _ _ HZ.out).mono ?_; rintro e w2 ⟨rfl, hb2⟩))
            go_roundg (s.size - pos)
            case measure => omega
            case rel => exact ⟨_, runEnd remN s pos, b', acc, by have := HX.out; go_num, by omega, hB', hM1.call hb2⟩
        · have hb2 : blankN (bat s pos) = true := by rw [← HB2.out blankN sortBlank]; exact hbl
          have hlow : bat s pos < 128 := by
            rcases Nat.lt_or_ge (bat s pos) 128 with h | h
            · exact h
            · rw [sortBlank _ h] at hb2; cases hb2
          obtain ⟨b', hB'⟩ := hB.step hp he (dec_low hp hlow) (en' := en) (w := pos + 1) (by omega) hel (fun p h1 h2 => absurd h2 (by omega)) (fun b' => lex_blank hp hb2) (by omega)
          clear hb2 hlow hB
          go_wp2_with (go_at_call 12; refine (blank12 _ _).mono ?_; rintro e w' ⟨rfl, rfl⟩)
          go_roundg (s.size - pos)
          case measure => omega
          case rel => exact ⟨_, en, b', acc, rfl, by omega, hB', hM1⟩
    · have hnx : ∀ ty, (Instr.next (.pointer (some ⟨w.heap.size + 1, 0, none⟩)) true ty).run Tryd.prog wr = _ := fun ty => Lib.run_next_end_at wr (w.heap.size + 1) s pos ty hM.iter hp
      have hsz := hM.sz
      go_wp2_with (first | (at_builtin; refine wpList_append_own _ rfl (.tmp 82) (.tmp 86) 22 rfl (w.heap.size + 2) 30 i0 _ 4 40 Tryd.underlying22 hi0 hz0 hz1 hz2 rfl (by decide) _ _ _ rfl (hM.own.alloc _) ⟨wr.heap.size, 0, none⟩ 1 1 [.int .i64 0, .int .i64 s.size, .string ⟨#[]⟩, .int .i64 0] rfl rfl (cells4_new _ _ _ _ _ _) cells4_one (by have := hB.few; unfold maxLen; omega) (by have := hB.few; omega) (by simp; omega) ?_; intro v' w1 hown' hgrow _; have hM1 := (hM.alloc _).grown hgrow hown'; obtain ⟨f0, f1, f2, f3⟩ := faultBlock hM1.below) | fail)
      rw [Exit.noGoto_ret]
      refine bodyPost_ret (v := .tuple #[v', .agg #[.int .i64 0, .int .i64 0]]) (by simp [results, Tryd.results6, go_sem, f0, f1]) rfl ⟨?_, ?_⟩
      · unfold TokPost
        rw [hB.at_end hs hp]
        exact ⟨v', rfl, ownsRow_setCell_below (ownsRow_setCell_below hM1.own (by simp) _) (by simp) _⟩
      · exact ((((Below.refl _ _).alloc (Nat.le_refl _) _).trans (hM1.below.mono (by simp))).setCell (by simp) _).setCell (by simp) _
end Go.Proofs.YtfelokbicifclaaDoor
