/- HeapApart: the law's own function. -/
import Derived.Test.YtohhmcpaajcplaaTke
namespace Go.Proofs.Ytohhmcpaajcplaa
open Go.RowKit
set_option linter.all false
set_option maxRecDepth 100000 in
set_option maxHeartbeats 4000000 in
theorem law3 (w : World) (N : Int) {xo : Option Addr} {xc : Nat} {xs : List Int} (hx : ∀ j x, xs[j]? = some x → ∃ xb xf : Nat, xo = some ⟨xb, xf, none⟩ ∧ xb < w.heap.size ∧ w.cell? ⟨xb, xf + j, none⟩ = some (.int .i64 x)) (hi : ∀ x ∈ xs, I64 x) (hl : xs.length ≤ 9223372036854775807) : Calls Try.prog 3 #[.int .i64 N, .slice xo xs.length xc] w (fun e w' => e = .returned (.bool true) ∧ Below w.heap.size w w') := by
  have HX : Hid (∀ j x, xs[j]? = some x → ∃ xb xf : Nat, xo = some ⟨xb, xf, none⟩ ∧ xb < w.heap.size ∧ w.cell? ⟨xb, xf + j, none⟩ = some (.int .i64 x)) := hx
  have HI : Hid (∀ x ∈ xs, I64 x) := hi
  clear hx hi
  by_cases h1 : N < 1
  · go_enter Try.func3, Try.ntmps3
    go_wp2_with fail
    go_ret
    exact ⟨rfl, Below.refl _ _⟩
  by_cases h2 : 1000000000 < N
  · go_enter Try.func3, Try.ntmps3
    go_wp2_with fail
    go_ret
    exact ⟨rfl, Below.refl _ _⟩
  go_enter Try.func3, Try.ntmps3
  go_upto_region 5 with (go_at_call 4; refine (new4 (by omega) (by omega)).mono ?_; rintro e1 w1 ⟨hb, rfl, hm, hb1⟩)
  have L0 : Hid (LQ w w1 hb N [] [] none 0) := ⟨hm, ⟨World.ownsRow_nil _ _ _ _, by decide, by simp, by omega, by omega⟩, hb1⟩
  clear hm hb1
  go_wp2_with fail
  go_loopg [6, 29] xs.length (fun gg v6 u wr => ∃ (idx : Nat) (lo : Option Addr) (lc : Nat) (lv bs : List (Int × Int)), gg = xs.length - idx ∧ u = .int .i64 idx ∧ v6 = .slice lo lv.length lc ∧ idx ≤ xs.length ∧ Hid (LQ w wr hb N bs lv lo lc ∧ lv.Perm bs))
  case atStart => exact ⟨0, none, 0, [], [], rfl, rfl, rfl, Nat.zero_le _, L0.out, List.Perm.refl _⟩
  case round =>
    obtain ⟨idx, lo, lc, lv, bs, hgk, rfl, rfl, hidx, HL⟩ := hrel
    have HG : Hid (gk = xs.length - idx) := hgk
    clear hgk L0
    have hlvb := HL.out.1.lv.few
    by_cases hlt : idx < xs.length
    · have hltI : (idx : Int) < (xs.length : Int) := by omega
      obtain ⟨n, hn⟩ : ∃ n, xs[idx]? = some n := ⟨_, List.getElem?_eq_getElem hlt⟩
      obtain ⟨xb, xf, rfl, hxb, hxc⟩ := HX.out idx n hn
      have HN : Hid (I64 n) := HI.out n (List.mem_of_getElem? hn)
      have cn : wr.cell? ⟨xb, xf + idx, none⟩ = some (.int .i64 n) := (HL.out.1.below.cell (p := ⟨xb, xf + idx, none⟩) hxb).trans hxc
      have lxb : xb < wr.heap.size := by have := HL.out.1.below.size; omega
      clear hn hxb hxc
      by_cases hneg : n < 0
      · have P1 := pick5 (w := wr) n (lv.length + 1) (by omega) (by omega)
        have hcast : ((lv.length : Int) + 1) = ((lv.length + 1 : Nat) : Int) := by omega
        rw [← hcast] at P1
        clear hcast
        go_upto_region 10 with (go_at_call 5; refine P1.mono ?_; rintro e2 wx ⟨k, rfl, hk, hwx⟩; replace hwx := hwx.symm; subst hwx)
        clear P1
        by_cases hkl : k = lv.length
        · subst hkl
          go_wp2_with fail
          go_roundg (xs.length - (idx + 1))
          case measure => rw [HG.out]; exact ms_lt hlt
          case rel => exact ⟨idx + 1, lo, lc, lv, bs, rfl, by go_num, rfl, hlt, HL.out⟩
        · have hkI : ¬ (k : Int) = (lv.length : Int) := by omega
          have hkI2 : (k : Int) < (lv.length : Int) := by omega
          obtain ⟨⟨a, z⟩, hx⟩ : ∃ x, lv[k]? = some x := ⟨_, List.getElem?_eq_getElem (by omega)⟩
          obtain ⟨g, rfl, hg, c0, c1⟩ := HL.out.1.lv.nth hx
          have hnum := HL.out.1.lv.num (a, z) (List.mem_of_getElem? hx)
          have hbig := HL.out.1.lv.big
          simp only at hnum
          obtain ⟨bs', f1, f2, f3, f4, f5, f6, f7⟩ := hfree_mem HL.out.1.hm.ok (HL.out.2.mem_iff.1 (List.mem_of_getElem? hx))
          obtain ⟨lv2, hlv2⟩ : ∃ lv2, lv2 = lv.take k ++ lv.drop (k + 1) := ⟨_, rfl⟩
          have HP : Hid (lv2.Perm bs') := by rw [hlv2]; exact perm_out HL.out.2 hx f2
          have HLV : Hid (lv2 = lv.take k ++ lv.drop (k + 1)) := hlv2
          clear hlv2
          have HF : Hid (hfree bs a = some bs' ∧ hfree bs' a = none ∧ hhas bs' a = false ∧ hhas bs a = true ∧ hhas bs (a + z - 1) = true ∧ (1 < z → hfree bs (a + 1) = none)) := ⟨f1, f3, f4, f5, f6, f7⟩
          have HI1 : Hid (I64 a ∧ I64 (a + z - 1) ∧ I64 (a + 1)) := ⟨⟨by omega, by omega⟩, ⟨by omega, by omega⟩, ⟨by omega, by omega⟩⟩
          have hw1 : wrap64 (a + z) = a + z := by unfold wrap64; omega
          have hw2 : wrap64 (a + z - 1) = a + z - 1 := by unfold wrap64; omega
          have hw3 : wrap64 (a + 1) = a + 1 := by unfold wrap64; omega
          clear f1 f2 f3 f4 f5 f6 f7
          go_upto_region 12 with fail
          have L1 : Hid (LB w (wr.alloc (.cells #[.int .i64 a, .int .i64 z] 28)) hb N bs lv (some ⟨g, 0, none⟩) lc wr.heap.size a z) := LB.mk' HL.out.1 a z
          obtain ⟨bb, hbb⟩ : ∃ bb, bb = wr.heap.size := ⟨_, rfl⟩
          rw [← hbb] at L1 ⊢
          generalize wr.alloc (.cells #[.int .i64 a, .int .i64 z] 28) = wb at *
          clear c0 c1 hg cn lxb hbb hx
          obtain ⟨k10, k11, l1⟩ := L1.out.cells
          have hcap := HL.out.1.lv.cap
          have hkc : (k : Int) ≤ (lc : Int) := by omega
          have hk1 : (k : Int) + 1 ≤ (lv.length : Int) := by omega
          have hk0 : (0 : Int) ≤ (k : Int) := by omega
          by_cases hz : 1 < z
          case' pos =>
            go_upto_region 14 with (first
              | (go_at_call 6; refine (has_b L6.out HI1.out.1 HF.out.2.2.1).mono ?_; rintro e7 w7 ⟨rfl, L7⟩; replace L7 : Hid _ := L7)
              | (go_at_call 7; refine (free_f L5.out HI1.out.1 HF.out.2.1).mono ?_; rintro e6 w6 ⟨rfl, L6⟩; replace L6 : Hid _ := L6; obtain ⟨k60, k61, l6⟩ := L6.out.cells)
              | (go_at_call 7; refine (free_t L4.out HI1.out.1 HF.out.1).mono ?_; rintro e5 w5 ⟨rfl, L5⟩; replace L5 : Hid _ := L5; obtain ⟨k50, k51, l5⟩ := L5.out.cells)
              | (go_at_call 7; refine (free_f L3.out HI1.out.2.2 (HF.out.2.2.2.2.2 hz)).mono ?_; rintro e4 w4 ⟨rfl, L4⟩; replace L4 : Hid _ := L4; obtain ⟨k40, k41, l4⟩ := L4.out.cells)
              | (go_at_call 6; refine (has_b L2.out HI1.out.2.1 HF.out.2.2.2.2.1).mono ?_; rintro e3 w3 ⟨rfl, L3⟩; replace L3 : Hid _ := L3; obtain ⟨k30, k31, l3⟩ := L3.out.cells)
              | (go_at_call 6; refine (has_b L1.out HI1.out.1 HF.out.2.2.2.1).mono ?_; rintro e2 w2 ⟨rfl, L2⟩; replace L2 : Hid _ := L2; obtain ⟨k20, k21, l2⟩ := L2.out.cells))
            clear L1 L2 L3 L4 L5 L6 k10 k11 l1 k20 k21 l2 k30 k31 l3 k40 k41 l4 k50 k51 l5 k60 k61 l6
          case' neg =>
            go_upto_region 14 with (first
              | (go_at_call 6; refine (has_b L6.out HI1.out.1 HF.out.2.2.1).mono ?_; rintro e7 w7 ⟨rfl, L7⟩; replace L7 : Hid _ := L7)
              | (go_at_call 7; refine (free_f L5.out HI1.out.1 HF.out.2.1).mono ?_; rintro e6 w6 ⟨rfl, L6⟩; replace L6 : Hid _ := L6; obtain ⟨k60, k61, l6⟩ := L6.out.cells)
              | (go_at_call 7; refine (free_t L3.out HI1.out.1 HF.out.1).mono ?_; rintro e5 w5 ⟨rfl, L5⟩; replace L5 : Hid _ := L5; obtain ⟨k50, k51, l5⟩ := L5.out.cells)
              | (go_at_call 6; refine (has_b L2.out HI1.out.2.1 HF.out.2.2.2.2.1).mono ?_; rintro e3 w3 ⟨rfl, L3⟩; replace L3 : Hid _ := L3; obtain ⟨k30, k31, l3⟩ := L3.out.cells)
              | (go_at_call 6; refine (has_b L1.out HI1.out.1 HF.out.2.2.2.1).mono ?_; rintro e2 w2 ⟨rfl, L2⟩; replace L2 : Hid _ := L2; obtain ⟨k20, k21, l2⟩ := L2.out.cells))
            clear L1 L2 L3 L5 L6 k10 k11 l1 k20 k21 l2 k30 k31 l3 k50 k51 l5 k60 k61 l6
          all_goals
            clear hz hw1 hw2 hw3 HF HI1
            have hkn : k < lv.length := by omega
            have C1 : Hid (∀ ty, ∃ v' w', (Builtin.append_ #[25, 25] ty #[.slice (some ⟨w7.heap.size, 0, none⟩) 0 0, .slice (some ⟨g, 0, none⟩) k lc]).run Try.prog (w7.drew.alloc (.cells #[] 28)) = .ok v' w' ∧ ∃ o1 c1, v' = .slice o1 k c1 ∧ w'.ownsRow w7.heap.size 28 2 (.slice o1 k c1) k ((lv.take k).map spC).flatten ∧ Below w7.heap.size w7 w') := cut_one L7.out.q (Nat.le_of_lt hkn)
            by_cases hck : k + 1 = lc
            case' pos =>
              subst hck
              have he : k + 1 = lv.length := by omega
              clear hkc
              have hkc : (k : Int) ≤ (k : Int) + 1 := by omega
              have C2 : Hid (∀ (w8 : World) (o1 : Option Addr) (c1 c : Nat), w8.ownsRow w7.heap.size 28 2 (.slice o1 k c1) k ((lv.take k).map spC).flatten → Below w7.heap.size w7 w8 → ∀ ty, ∃ v' w', (Builtin.append_ #[25, 25] ty #[.slice o1 k c1, .slice (some ⟨g, 0, none⟩) 0 c]).run Try.prog w8 = .ok v' w' ∧ ∃ o' c', v' = .slice o' lv2.length c' ∧ LQ w w' hb N bs' lv2 o' c') := fun w8 o1 c1 c r8 b8 ty => by
                have h9 := cut_two L7.out.q hkn (HLV.out ▸ HP.out) r8 b8 (a := ⟨g, 0, none⟩) (c := c) (.inr he) ty
                rw [show lv.length - (k + 1) = 0 by omega, ← HLV.out] at h9
                exact h9
              clear he
            case' neg =>
              have hcI : (k : Int) + 1 < (lc : Int) := by omega
              have hck2 : ¬ lc = k + 1 := by omega
              have C2 : Hid (∀ (w8 : World) (o1 : Option Addr) (c1 c : Nat), w8.ownsRow w7.heap.size 28 2 (.slice o1 k c1) k ((lv.take k).map spC).flatten → Below w7.heap.size w7 w8 → ∀ ty, ∃ v' w', (Builtin.append_ #[25, 25] ty #[.slice o1 k c1, .slice (some ⟨g, (k + 1) * 2, none⟩) (lv.length - (k + 1)) c]).run Try.prog w8 = .ok v' w' ∧ ∃ o' c', v' = .slice o' lv2.length c' ∧ LQ w w' hb N bs' lv2 o' c') := fun w8 o1 c1 c r8 b8 ty => by
                have h9 := cut_two L7.out.q hkn (HLV.out ▸ HP.out) r8 b8 (a := ⟨g, (k + 1) * 2, none⟩) (c := c) (.inl rfl) ty
                rw [← HLV.out] at h9
                exact h9
            all_goals
              have hkw : IntKind.i64.wrap ((k : Int) + 1) = (k : Int) + 1 := Go.IntWalk.i64_in _ ⟨by omega, by omega⟩
              have hk01 : (0 : Int) ≤ (k : Int) + 1 := by omega
              have htn : ((k : Int) + 1).toNat = k + 1 := by omega
              refine wp_region_noPanic ?_
              refine wp_region_held_drew (S := fun _ => True) (by as_aux_lemma => kernel_rfl) trivial (fun hHeld => ?_)
              refine rtk 1 ?_
              refine rtk 2 ?_
              refine rtk 3 ?_
              refine rtk 5 ?_
              refine rtk 6 ?_
              refine rtk 7 ?_
              refine rtk 8 ?_
              refine rr1 0 (fun K hK => ?_)
              go_simp
              refine rgo hK ?_
              clear hK K hHeld
              intro hHeld
              refine rr1 4 (fun K hK => ?_)
              (refine step_runG 25 (by rfl) (by rfl) (by rfl) (by rfl) (C1.out _) ?_; rintro v8 w8 ⟨o8, c8, rfl, r8, b8⟩; replace r8 : Hid _ := r8; replace b8 : Hid _ := b8)
              refine rgo hK ?_
              clear hK K hHeld
              intro hHeld
              refine rr1 9 (fun K hK => ?_)
              (refine step_runG 25 (by rfl) (by rfl) (by rfl) (by rfl) (C2.out _ _ _ _ r8.out b8.out _) ?_; rintro v9 w9 ⟨o9, c9, rfl, L9⟩; replace L9 : Hid _ := L9)
              refine rgo hK ?_
              clear hK K hHeld
              intro hHeld
              refine rtk 10 ?_
              refine wpAnyH_done (by as_aux_lemma => kernel_rfl) ?_ _
              refine NoPanic.normal ?_
              have CT := count_p L9.out HP.out
              go_wp2_with (go_at_call 10; refine CT.mono ?_; rintro e10 wx ⟨rfl, hwx⟩; replace hwx := hwx.symm; subst hwx)
              go_roundg (xs.length - (idx + 1))
              case measure => rw [HG.out]; exact ms_lt hlt
              case rel => exact ⟨idx + 1, o9, c9, lv2, bs', rfl, by go_num, rfl, hlt, L9.out, HP.out⟩
      · have hnb := HN.out.2
        cases hal : halloc N bs n with
        | none =>
          have A1 := alloc_f HL.out.1 HN.out hal
          go_upto_region 16 with (go_at_call 8; refine A1.mono ?_; rintro e2 w2 ⟨rfl, L2⟩)
          have G1 := gap_q HL.out.1 HL.out.2 HN.out (v := false) (by rw [hal]; rfl) L2
          clear A1 cn lxb
          go_wp2_with (go_at_call 9; refine G1.mono ?_; rintro e3 w3 ⟨rfl, L3⟩)
          go_roundg (xs.length - (idx + 1))
          case measure => rw [HG.out]; exact ms_lt hlt
          case rel => exact ⟨idx + 1, lo, lc, lv, bs, rfl, by go_num, rfl, hlt, L3, HL.out.2⟩
        | some q =>
          obtain ⟨p, bs'⟩ := q
          have A1 := alloc_t HL.out.1 HN.out hal
          obtain ⟨a1, a2, a3, a4, -, a5, a6, -⟩ := halloc_some HL.out.1.hm.ok hal
          have HP : Hid ((lv ++ [(p, n)]).Perm bs') := by
            show List.Perm _ _
            exact (List.perm_append_singleton (p, n) lv).trans ((List.Perm.cons _ HL.out.2).trans a5.symm)
          have HO : Hid (∀ b ∈ lv, p + n ≤ b.1 ∨ b.1 + b.2 ≤ p) := fun b hb => a6 b (HL.out.2.mem_iff.1 hb)
          go_upto_region 16 with (go_at_call 8; refine A1.mono ?_; rintro e2 w2 ⟨rfl, L2⟩)
          have G1 := gap_q HL.out.1 HL.out.2 HN.out (v := true) (by rw [hal]; rfl) L2
          have hbig := HL.out.1.lv.big
          have hw1 : wrap64 (N - n) = N - n := by unfold wrap64; omega
          have hw2 : wrap64 (N - n + 1) = N - n + 1 := by unfold wrap64; omega
          have hw3 : wrap64 (p + n) = p + n := by unfold wrap64; omega
          clear A1 cn lxb a5 a6 hal
          go_wp2_with (go_at_call 9; refine G1.mono ?_; rintro e3 w3 ⟨rfl, L3⟩)
          go_loopg [133] lv.length (fun gg u wq => ∃ kdx : Nat, gg = lv.length - kdx ∧ u = .int .i64 kdx ∧ kdx ≤ lv.length ∧ Hid (LQ w wq hb N bs' lv lo lc))
          case atStart => exact ⟨0, rfl, rfl, Nat.zero_le _, L3⟩
          case round =>
            clear L2 L3 G1
            obtain ⟨kdx, hgk, rfl, hkdx, HL4⟩ := hrel
            have HG4 : Hid (gk = lv.length - kdx) := hgk
            clear hgk
            by_cases hlt4 : kdx < lv.length
            · have hltI4 : (kdx : Int) < (lv.length : Int) := by omega
              obtain ⟨⟨a, z⟩, hx⟩ : ∃ x, lv[kdx]? = some x := ⟨_, List.getElem?_eq_getElem hlt4⟩
              have hnum := HL4.out.lv.num (a, z) (List.mem_of_getElem? hx)
              have hov := HO.out (a, z) (List.mem_of_getElem? hx)
              simp only at hnum hov
              obtain ⟨g4, rfl, hg4, c04, c14⟩ := HL4.out.lv.nth hx
              have hwz : wrap64 (a + z) = a + z := by unfold wrap64; omega
              have HA4 : Hid (LQ w (wr.alloc (.cells #[.int .i64 a, .int .i64 z] 28)) hb N bs' lv (some ⟨g4, 0, none⟩) lc) := HL4.out.alloc _
              clear hx hnum
              by_cases hp1 : a < p + n
              · have hp2 : ¬ p < a + z := by omega
                clear hov
                go_wp2_with fail
                go_roundg (lv.length - (kdx + 1))
                case measure => rw [HG4.out]; exact ms_lt hlt4
                case rel => exact ⟨kdx + 1, rfl, by go_num, hlt4, HA4.out⟩
              · clear hov
                go_wp2_with fail
                go_roundg (lv.length - (kdx + 1))
                case measure => rw [HG4.out]; exact ms_lt hlt4
                case rel => exact ⟨kdx + 1, rfl, by go_num, hlt4, HA4.out⟩
            · have hltI4 : ¬ (kdx : Int) < (lv.length : Int) := by omega
              have RS : Hid (∀ ty, ∃ v' w', (Builtin.append_ #[25, 25] ty #[.slice lo lv.length lc, .slice (some ⟨wr.heap.size, 0, none⟩) 1 1]).run Try.prog (wr.alloc (.cells #[.int .i64 p, .int .i64 n] 28)) = .ok v' w' ∧ ∃ lo' lc', v' = .slice lo' (lv ++ [(p, n)]).length lc' ∧ LQ w w' hb N bs' (lv ++ [(p, n)]) lo' lc') := fun ty => run_span HL4.out HP.out ty rfl
              obtain ⟨lv2, hlv2⟩ : ∃ lv2, lv2 = lv ++ [(p, n)] := ⟨_, rfl⟩
              rw [← hlv2] at RS HP
              clear hlv2
              go_upto_region 30 with (at_builtin; refine wp_runG 25 (v := .slice lo lv.length lc) (xv := .slice (some ⟨wr.heap.size, 0, none⟩) 1 1) (by rfl) (by rfl) (by rfl) (by rfl) (RS.out _) ?_; rintro v5 w5 ⟨o5, c5, rfl, L5⟩)
              have CT := count_p L5 HP.out
              go_wp2_with (go_at_call 10; refine CT.mono ?_; rintro e10 wx ⟨rfl, hwx⟩; replace hwx := hwx.symm; subst hwx)
              go_roundg (xs.length - (idx + 1))
              case measure => rw [HG.out]; exact ms_lt hlt
              case rel => exact ⟨idx + 1, o5, c5, lv2, bs', rfl, by go_num, rfl, hlt, L5, HP.out⟩
    · have hltI : ¬ (idx : Int) < (xs.length : Int) := by omega
      have hbig := HL.out.1.lv.big
      go_upto_region 33 with fail
      go_wp2_with fail
      go_loopg [167] lv.length (fun gg u wq => ∃ (kdx : Nat) (bq : List (Int × Int)), gg = lv.length - kdx ∧ u = .int .i64 kdx ∧ kdx ≤ lv.length ∧ Hid (LQ w wq hb N bq lv lo lc ∧ (lv.drop kdx).Perm bq))
      case atStart => exact ⟨0, bs, rfl, rfl, Nat.zero_le _, HL.out⟩
      case round =>
        obtain ⟨kdx, bq, hgk, rfl, hkdx, HL4⟩ := hrel
        have HG4 : Hid (gk = lv.length - kdx) := hgk
        clear hgk
        by_cases hlt4 : kdx < lv.length
        · have hltI4 : (kdx : Int) < (lv.length : Int) := by omega
          obtain ⟨⟨a, z⟩, hx⟩ : ∃ x, lv[kdx]? = some x := ⟨_, List.getElem?_eq_getElem hlt4⟩
          have hnum := HL4.out.1.lv.num (a, z) (List.mem_of_getElem? hx)
          simp only at hnum
          obtain ⟨g4, rfl, hg4, c04, c14⟩ := HL4.out.1.lv.nth hx
          have hd : lv.drop kdx = (a, z) :: lv.drop (kdx + 1) := by
            obtain ⟨e1, e2⟩ := List.getElem?_eq_some_iff.1 hx
            rw [List.drop_eq_getElem_cons e1, e2]
          obtain ⟨bs', f1, f2, -⟩ := hfree_mem HL4.out.1.hm.ok (a := a) (s := z) (HL4.out.2.mem_iff.1 (by rw [hd]; simp))
          have HP4 : Hid ((lv.drop (kdx + 1)).Perm bs') := by
            have h7 := HL4.out.2
            rw [hd] at h7
            exact (h7.trans f2).cons_inv
          have F4 := free_t (LB.mk' HL4.out.1 a z) (t := a) ⟨by omega, by omega⟩ f1
          clear hx hd f1 f2
          go_wp2_with (go_at_call 7; refine F4.mono ?_; rintro e5 w5 ⟨rfl, L5⟩)
          go_roundg (lv.length - (kdx + 1))
          case measure => rw [HG4.out]; exact ms_lt hlt4
          case rel => exact ⟨kdx + 1, bs', rfl, by go_num, hlt4, L5.q, HP4.out⟩
        · have hltI4 : ¬ (kdx : Int) < (lv.length : Int) := by omega
          have hbq : bq = [] := by
            have h7 := HL4.out.2
            rw [show kdx = lv.length by omega, List.drop_length] at h7
            exact h7.symm.eq_nil
          subst hbq
          have A4 := alloc_t HL4.out.1 (n := N) ⟨by omega, by omega⟩ (halloc_all (by omega))
          go_upto_region 40 with (go_at_call 8; refine A4.mono ?_; rintro e5 w5 ⟨rfl, L5⟩)
          have CT := count_q L5
          have HB5 : Hid (Below w.heap.size w w5) := L5.below
          clear A4
          go_wp2_with (go_at_call 10; refine CT.mono ?_; rintro e10 wx ⟨rfl, hwx⟩; replace hwx := hwx.symm; subst hwx)
          go_ret
          exact ⟨rfl, HB5.out⟩
end Go.Proofs.Ytohhmcpaajcplaa
