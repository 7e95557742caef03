/- The document's machine: a meeting that waits. -/
import Derived.Test.YtflifialjdhenaaMcj
namespace Go.Proofs.Ytflifialjdhenaa
open Go.RowKit
set_option linter.all false
theorem below_dN {B : Nat} {a w : World} (h : Below B a w) (m : Nat) : Below B a (w.drewN m) := ⟨h.os, h.tape, h.output, h.size, h.block⟩
section
variable {w : World} {base mb : Nat} {co : Option Addr} {cc : Nat} {code : List Mi} {L : Ly} {m : Mc}
set_option maxRecDepth 100000 in
set_option maxHeartbeats 1000000 in
theorem meet_wait (h : MR w base mb (.slice co code.length cc) L m) (hc : CD w base co code) {t : Nat} {th : Th} (ht : m.ths[t]? = some th) (ha : th.abo = false) (hpc : I64 th.pc) (hop : (insAt code th.pc).1.op = 17) (hA : I64 (insAt code th.pc).1.a) (hC : I64 (insAt code th.pc).1.c) (hv : ∀ a, I64 (m.mem a)) : Calls Try.prog 26 #[.pointer (some ⟨mb, 0, none⟩), .int .i64 t] w (fun e w' => e = .returned (.tuple #[.bool (meetB m code t th).1, .bool (meetB m code t th).2]) ∧ Below w.heap.size w w') := by
  have htl : t < m.ths.length := (List.getElem?_eq_some_iff.1 ht).1
  have htI : (t : Int) < (m.ths.length : Int) := by omega
  have ht0 : (0 : Int) ≤ (t : Int) := by omega
  have hfew := h.th.few
  obtain ⟨hf1, hf2⟩ := h.th.fr t th ht
  obtain ⟨g, r, e0, hg, hr, c0, c1, c2, c3, c4, c5⟩ := h.th.nth ht
  have c_3 : w.cell? ⟨mb, 3, none⟩ = some (.slice (some ⟨g, 0, none⟩) m.ths.length L.tc) := by
    rw [cell_of_row w _ 3 _ 45 (0, 0) h.blk, ← e0]
    rfl
  have l_m : mb < w.heap.size := h.lt
  have HI : Hid (Calls Try.prog 29 #[.pointer (some ⟨mb, 0, none⟩), .int .i64 t] w (fun e w' => e = .returned (.tuple #[.agg (miC (insAt code th.pc).1), .bool (insAt code th.pc).2]) ∧ Below w.heap.size w w')) := ins38 h hc ht hpc
  have hM : meetB m code t th = if (slotR th.frame t (insAt code th.pc).1.a).2 = false then (true, true) else if m.wordB (m.mem (slotR th.frame t (insAt code th.pc).1.a).1.toNat) (insAt code th.pc).1.c then (true, m.mem (m.mem (slotR th.frame t (insAt code th.pc).1.a).1.toNat + (insAt code th.pc).1.c).toNat != 0) else (true, true) := by
    unfold meetB
    rw [ha, if_neg (by decide), if_neg (by omega), if_pos hop]
  rw [ha] at c4
  obtain ⟨⟨⟨x0, x1, x2, x3, x4, x5⟩, xb⟩, hx⟩ : ∃ x, insAt code th.pc = x := ⟨_, rfl⟩
  rw [hx] at HI hM hop hA hC
  have HI2 : Hid (Calls Try.prog 29 #[.pointer (some ⟨mb, 0, none⟩), .int .i64 t] w (fun e w' => e = .returned (.tuple #[.agg #[.int .i64 x0, .int .i64 x1, .int .i64 x2, .int .i64 x3, .int .i64 x4, .int .i64 x5], .bool xb]) ∧ Below w.heap.size w w')) := HI
  have h17 : (x0 == 17) = true := by simpa using hop
  have h16 : (x0 == 16) = false := by simp at hop ⊢; omega
  have h18 : (x0 == 18) = false := by simp at hop ⊢; omega
  replace hA : I64 x1 := hA
  replace hC : I64 x3 := hC
  have hA1 := hA.1
  have hA2 := hA.2
  obtain ⟨st, hst⟩ : ∃ st, st = stk ((t : Int) + 1) := ⟨_, rfl⟩
  have HS : Hid (∀ W, Calls Try.prog 12 #[.int .i64 ((t : Int) + 1)] W (fun e w' => e = .returned (.int .i64 st) ∧ w' = W)) := fun W => by rw [hst]; exact stack17 _ (by omega) (by omega)
  have hsB : st ≤ 100000000 := by rw [hst]; unfold stk; omega
  have hs1 : 0 ≤ th.frame := by unfold stk at hf1; omega
  obtain ⟨fr, hfr⟩ : ∃ fr, fr = th.frame := ⟨_, rfl⟩
  have hR : slotR th.frame t x1 = if x1 < 0 then (9, false) else if st - fr ≤ x1 then (8, false) else (fr + x1, true) := by rw [hst, hfr]; rfl
  rw [← hst] at hf2
  rw [← hfr] at c1 hs1 hf2
  have hwt : wrap64 ((t : Int) + 1) = (t : Int) + 1 := by unfold wrap64; omega
  have hws : wrap64 (st - fr) = st - fr := by unfold wrap64; omega
  have HCL : Hid (∀ {W : World}, Below w.heap.size w W → W.cell? ⟨mb, 3, none⟩ = some (.slice (some ⟨g, 0, none⟩) m.ths.length L.tc) ∧ W.cell? ⟨g, t * 6 + 1, none⟩ = some (.int .i64 fr) ∧ mb < W.heap.size ∧ g < W.heap.size) := fun {W} hb => ⟨(hb.cell (p := ⟨mb, 3, none⟩) l_m).trans c_3, (hb.cell (p := ⟨g, t * 6 + 1, none⟩) hg).trans c1, Nat.lt_of_lt_of_le l_m hb.size, Nat.lt_of_lt_of_le hg hb.size⟩
  by_cases hn : x1 < 0
  · have HM2 : Hid (meetB m code t th = (true, true)) := by show _ = _; rw [hM, hR, if_pos hn, if_pos rfl]
    clear h ht e0 hr ha hx HI hM hop hc hpc hR hst hfr hf1 hA hC hv
    go_enter Try.func26, Try.ntmps26
    go_wp2_with (go_at_call 29; refine HI2.out.mono ?_; rintro e w1 ⟨rfl, hb⟩; obtain ⟨d3, d1, ld, lg⟩ := HCL.out hb)
    go_quiet (fail)
    go_wp2_with fail
    go_ret2
    exact ⟨by rw [HM2.out]; rfl, below_dN (hb.trans ((al1 _ _).1.mono hb.size)) _⟩
  · have hdn : decide (x1 < 0) = false := decide_eq_false hn
    by_cases hd : st - fr ≤ x1
    · have HM2 : Hid (meetB m code t th = (true, true)) := by show _ = _; rw [hM, hR, if_neg hn, if_pos hd, if_pos rfl]
      clear h ht e0 hr ha hx HI hM hop hc hpc hR hst hfr hf1 hA hC hv
      go_enter Try.func26, Try.ntmps26
      go_wp2_with (go_at_call 29; refine HI2.out.mono ?_; rintro e w1 ⟨rfl, hb⟩; obtain ⟨d3, d1, ld, lg⟩ := HCL.out hb)
      go_quiet ((first | (go_at_call 12; exact Calls.quiet_of_same (HS.out _))))
      go_wp2_with fail
      go_ret2
      exact ⟨by rw [HM2.out]; rfl, below_dN (hb.trans ((al1 _ _).1.mono hb.size)) _⟩
    · obtain ⟨a0, ha0⟩ : ∃ a0 : Nat, (a0 : Int) = fr + x1 := ⟨(fr + x1).toNat, by omega⟩
      have hwf : wrap64 (fr + x1) = (a0 : Int) := by rw [ha0]; unfold wrap64; omega
      have haB : a0 < 100000000 := by omega
      have hM3 : meetB m code t th = if m.wordB (m.mem a0) x3 then (true, m.mem (m.mem a0 + x3).toNat != 0) else (true, true) := by
        rw [hM, hR, if_neg hn, if_neg hd, if_neg (by simp)]
        show (if m.wordB (m.mem (fr + x1).toNat) x3 = true then (true, m.mem (m.mem (fr + x1).toNat + x3).toNat != 0) else (true, true)) = _
        rw [← ha0, Int.toNat_natCast]
      have HG : Hid (∀ {W : World} (a : Nat), Below w.heap.size w W → a ≤ 1152921504606846976 → Calls Try.prog 53 #[.pointer (some ⟨mb, 0, none⟩), .int .i64 a] W (Gives W (.int .i64 (m.mem a)))) := fun {W} a hb ha => get52 (h.below hb) a ha
      have HHB : Hid (∀ {W : World} (s : Int), Below w.heap.size w W → I64 s → Calls Try.prog 54 #[.pointer (some ⟨L.hb, 0, none⟩), .int .i64 s] W (Gives W (.bool (decide (0 ≤ hfindI m.hp s))))) := fun {W} s hb hs => by
        obtain ⟨bo, cp, hp, -⟩ := (h.below hb).hp.ex
        exact has53 hp hs
      clear hR hM HI hx hst hfr hf1
      go_enter Try.func26, Try.ntmps26
      go_wp2_with (go_at_call 29; refine HI2.out.mono ?_; rintro e w1 ⟨rfl, hb⟩; obtain ⟨d3, d1, ld, lg⟩ := HCL.out hb)
      go_quiet ((first | (go_at_call 12; exact Calls.quiet_of_same (HS.out _))))
      have hBq : ∀ o n, Below w.heap.size w ((w1.alloc o).drewN n) := fun o n => below_dN (hb.trans ((al1 _ _).1.mono hb.size)) n
      have HMH : Hid (MR w base mb (.slice co code.length cc) L m) := h
      have c_h : w.cell? ⟨mb, 2, none⟩ = some (.pointer (some ⟨L.hb, 0, none⟩)) := cell_of_row w _ 2 _ 45 (0, 0) h.blk
      generalize hX : World.drewN _ nq = wv
      have hBv : Hid (Below w.heap.size w wv) := by rw [← hX]; exact hBq _ _
      have e31 : wv.cell? ⟨w1.heap.size, 3, none⟩ = some (.int .i64 x3) := by
        rw [← hX]
        exact cell_of_row _ _ 3 _ 72 (0, 0) (al1 w1 _).2
      have e11 : wv.cell? ⟨w1.heap.size, 1, none⟩ = some (.int .i64 x1) := by
        rw [← hX]
        exact cell_of_row _ _ 1 _ 72 (0, 0) (al1 w1 _).2
      have le1 : w1.heap.size < wv.heap.size := by
        rw [← hX]
        exact (Array.getElem?_eq_some_iff.1 (al1 w1 _).2).1
      clear hX hBq
      have hfw := h.th.few
      have HS2 : Hid (∀ W, Calls Try.prog 12 #[.int .i64 (m.ths.length : Int)] W (fun e w' => e = .returned (.int .i64 (stk (m.ths.length : Int))) ∧ w' = W)) := fun W => stack17 _ (by omega) (by omega)
      obtain ⟨n, hnn⟩ : ∃ n, n = m.ths.length := ⟨_, rfl⟩
      obtain ⟨st2, hst2⟩ : ∃ st2, st2 = stk (n : Int) := ⟨_, rfl⟩
      have hsB2 : 4194304 ≤ st2 ∧ st2 ≤ 100000000 := by rw [hst2]; unfold stk; omega
      obtain ⟨a, hav⟩ : ∃ a, a = m.mem a0 := ⟨_, rfl⟩
      have ha64 : I64 a := by rw [hav]; exact hv a0
      have hB : m.wordB a x3 = (decide (-9223372036854775808 ≤ a + x3 ∧ a + x3 ≤ 9223372036854775807) && decide (1 ≤ a + x3) && decide (a + x3 < st2) && (decide (4194304 ≤ a + x3) || decide (0 ≤ hfindI m.hp (a + x3)))) := by rw [hst2, hnn]; rfl
      have HGa : Hid (Calls Try.prog 53 #[.pointer (some ⟨mb, 0, none⟩), .int .i64 (fr + x1)] wv (Gives wv (.int .i64 a))) := by rw [hav, ← ha0]; exact HG.out a0 hBv.out (by omega)
      have HGs : Hid (∀ (W : World) (q : Nat), Below w.heap.size w W → q ≤ 1152921504606846976 → Calls Try.prog 53 #[.pointer (some ⟨mb, 0, none⟩), .int .i64 q] W (Gives W (.int .i64 (m.mem q)))) := fun W q h1 h2 => HG.out q h1 h2
      rw [← hav] at hM3
      have HM3 : Hid (meetB m code t th = if m.wordB a x3 then (true, m.mem (a + x3).toNat != 0) else (true, true)) := hM3
      rw [← hnn, ← hst2] at HS2
      have d3v : wv.cell? ⟨mb, 3, none⟩ = some (.slice (some ⟨g, 0, none⟩) n L.tc) := by rw [hnn]; exact (HCL.out hBv.out).1
      have dhv : wv.cell? ⟨mb, 2, none⟩ = some (.pointer (some ⟨L.hb, 0, none⟩)) := (hBv.out.cell (p := ⟨mb, 2, none⟩) l_m).trans c_h
      have lmv : mb < wv.heap.size := (HCL.out hBv.out).2.2.1
      have HQ : Hid (∀ j, Below w.heap.size w (wv.drewN j)) := fun j => below_dN hBv.out j
      clear hav hM3 hst2 hnn h hc ht e0 hr ha hpc hv c_3 d3 d1 hf2 hwt hws hA1 hA2 hfw hfew c_h
      have hx31 := hC.1
      have hx32 := hC.2
      have ha1 := ha64.1
      have ha2 := ha64.2
      by_cases hov : -9223372036854775808 ≤ a + x3 ∧ a + x3 ≤ 9223372036854775807
      · have hw : wrap64 (a + x3) = a + x3 := by unfold wrap64; omega
        obtain ⟨s, hs⟩ : ∃ s, s = a + x3 := ⟨_, rfl⟩
        have HSS : Hid (s = a + x3) := hs
        have hcc : (0 ≤ x3 ∧ a ≤ s) ∨ (x3 < 0 ∧ s < a) := by omega
        have hw2 : wrap64 (a + x3) = s := hw.trans hs.symm
        rw [← hs] at hB hov
        have hs64 : I64 s := hov
        clear hw
        have HB : Hid (m.wordB a x3 = (decide (1 ≤ s) && decide (s < st2) && (decide (4194304 ≤ s) || decide (0 ≤ hfindI m.hp s)))) := by show _ = _; rw [hB, decide_eq_true hov]; simp
        have HHs : Hid (∀ j, Calls Try.prog 54 #[.pointer (some ⟨L.hb, 0, none⟩), .int .i64 s] (wv.drewN j) (Gives (wv.drewN j) (.bool (decide (0 ≤ hfindI m.hp s))))) := fun j => HHB.out s (HQ.out j) hs64
        clear hs hB hov ha64 hs64 hx31 hx32 ha1 ha2
        rcases hcc with ⟨h0, h0'⟩ | ⟨h0, h0'⟩
        all_goals
          go_upto_region 14 with (go_at_call 53; refine HGa.out.mono ?_; rintro e w2 ⟨rfl, j, rfl⟩)
          by_cases h1 : s < 1
          · have HN : Hid (meetB m code t th = (true, true)) := by show _ = _; rw [HM3.out, HB.out, decide_eq_false (show ¬ 1 ≤ s by omega)]; rfl
            go_wp2_with fail
            go_ret2
            exact ⟨by rw [HN.out]; rfl, HQ.out _⟩
          · by_cases h2 : st2 ≤ s
            · have HN : Hid (meetB m code t th = (true, true)) := by show _ = _; rw [HM3.out, HB.out, decide_eq_false (show ¬ s < st2 by omega)]; simp
              go_wp2_with (first
                | (go_at_call 12; refine (HS2.out _).mono ?_; rintro e wx ⟨rfl, rfl⟩))
              go_ret2
              exact ⟨by rw [HN.out]; rfl, HQ.out _⟩
            · obtain ⟨q, hq⟩ : ∃ q : Nat, s = (q : Int) := ⟨s.toNat, by omega⟩
              have hqb : q ≤ 1152921504606846976 := by omega
              have HG2 : Hid (∀ j, Calls Try.prog 53 #[.pointer (some ⟨mb, 0, none⟩), .int .i64 s] (wv.drewN j) (Gives (wv.drewN j) (.int .i64 (m.mem (a + x3).toNat)))) := fun j => by
                rw [← HSS.out, hq, Int.toNat_natCast]
                exact HGs.out _ q (HQ.out j) hqb
              clear hq hqb
              by_cases h3 : s < 4194304
              · by_cases h4 : 0 ≤ hfindI m.hp s
                · have HN : Hid (meetB m code t th = (true, m.mem (a + x3).toNat != 0)) := by show _ = _; rw [HM3.out, HB.out, decide_eq_true (show 1 ≤ s by omega), decide_eq_true (show s < st2 by omega), decide_eq_true h4]; simp
                  have hd4 : decide (0 ≤ hfindI m.hp s) = true := decide_eq_true h4
                  rw [hd4] at HHs
                  clear h4 hd4
                  go_wp2_with (first
                    | (go_at_call 53; refine (HG2.out _).mono ?_; rintro e w4 ⟨rfl, j4, rfl⟩)
                    | (go_at_call 54; refine (HHs.out _).mono ?_; rintro e w3 ⟨rfl, j3, rfl⟩)
                    | (go_at_call 12; refine (HS2.out _).mono ?_; rintro e wx ⟨rfl, rfl⟩))
                  go_ret2
                  exact ⟨by rw [HN.out]; rfl, HQ.out _⟩
                · have HN : Hid (meetB m code t th = (true, true)) := by show _ = _; rw [HM3.out, HB.out, decide_eq_false (show ¬ 4194304 ≤ s by omega), decide_eq_false h4]; simp
                  have hd4 : decide (0 ≤ hfindI m.hp s) = false := decide_eq_false h4
                  rw [hd4] at HHs
                  clear h4 hd4
                  go_wp2_with (first
                    | (go_at_call 54; refine (HHs.out _).mono ?_; rintro e w3 ⟨rfl, j3, rfl⟩)
                    | (go_at_call 12; refine (HS2.out _).mono ?_; rintro e wx ⟨rfl, rfl⟩))
                  go_ret2
                  exact ⟨by rw [HN.out]; rfl, HQ.out _⟩
              · have HN : Hid (meetB m code t th = (true, m.mem (a + x3).toNat != 0)) := by show _ = _; rw [HM3.out, HB.out, decide_eq_true (show 1 ≤ s by omega), decide_eq_true (show s < st2 by omega), decide_eq_true (show 4194304 ≤ s by omega)]; rfl
                go_wp2_with (first
                  | (go_at_call 53; refine (HG2.out _).mono ?_; rintro e w4 ⟨rfl, j4, rfl⟩)
                  | (go_at_call 12; refine (HS2.out _).mono ?_; rintro e wx ⟨rfl, rfl⟩))
                go_ret2
                exact ⟨by rw [HN.out]; rfl, HQ.out _⟩
      · have HN : Hid (meetB m code t th = (true, true)) := by show _ = _; rw [HM3.out, hB, decide_eq_false hov]; rfl
        obtain ⟨s, hs⟩ : ∃ s, s = wrap64 (a + x3) := ⟨_, rfl⟩
        have hcc : (0 ≤ x3 ∧ s < a) ∨ (x3 < 0 ∧ a ≤ s) := by
          rw [hs]
          unfold wrap64
          omega
        have hw2 : wrap64 (a + x3) = s := hs.symm
        clear hs hB hov ha64 hx31 hx32 ha1 ha2
        rcases hcc with ⟨h0, h0'⟩ | ⟨h0, h0'⟩
        all_goals
          go_wp2_with (go_at_call 53; refine HGa.out.mono ?_; rintro e w2 ⟨rfl, j, rfl⟩)
          go_ret2
          exact ⟨by rw [HN.out]; rfl, HQ.out _⟩
end
end Go.Proofs.Ytflifialjdhenaa
namespace Go.Proofs.Ytflifialjdhenaa
open Go.RowKit
set_option linter.all false
/-- Every number of a machine is one of 64 bits; its rows are not long. -/
structure OKM (N : Nat) (m : Mc) : Prop where
  mem : ∀ a, I64 (m.mem a)
  th : ∀ (i : Nat) (t : Th), m.ths[i]? = some t → I64 t.pc ∧ t.calls.length ≤ N ∧ ∀ c ∈ t.calls, I64 c.1 ∧ I64 c.2.1 ∧ stk i ≤ c.2.2 ∧ c.2.2 < stk (i + 1)
  outs : m.outs.length ≤ N
  order : m.order.length ≤ N
  steps : 0 ≤ m.steps ∧ m.steps ≤ N
  big : N ≤ 1000000
def Mi.ok (x : Mi) : Prop := I64 x.op ∧ I64 x.a ∧ I64 x.b ∧ I64 x.c ∧ I64 x.d ∧ I64 x.e
/-- A machine in memory, with its code. -/
structure MS (base mb : Nat) (co : Option Addr) (cc : Nat) (code : List Mi) (N : Nat) (w : World) (L : Ly) (m : Mc) : Prop where
  mr : MR w base mb (.slice co code.length cc) L m
  cd : CD w base co code
  ok : OKM N m
  c64 : ∀ x ∈ code, x.ok
/-- And an instruction in a block of its own. -/
structure MX (base mb : Nat) (co : Option Addr) (cc : Nat) (code : List Mi) (N : Nat) (ib : Nat) (x : Mi) (w : World) (L : Ly) (m : Mc) : Prop where
  ms : MS base mb co cc code N w L m
  kb : w.heap[ib]? = some (.cells (miC x) 72 (0, 0))
  ko : L.own ib = none
section
variable {base mb : Nat} {co : Option Addr} {cc : Nat} {code : List Mi} {N ib : Nat} {x : Mi} {w w' : World} {L L' : Ly} {m m' : Mc}
theorem Kf.below (h : MR w base mb (.slice co code.length cc) L m) (k : Kf L L' w w') : Below base w w' := ⟨k.kx.os, k.kx.tape, k.kx.output, k.kx.size, fun b hb => k.kx.block b (by have := h.hbase; have := h.lt; omega) (fun hn => by have := (h.olt b hn).1; omega)⟩
theorem MS.next (h : MS base mb co cc code N w L m) (hm : MR w' base mb (.slice co code.length cc) L' m') (k : Kf L L' w w') {N' : Nat} (ho : OKM N' m') : MS base mb co cc code N' w' L' m' := ⟨hm, h.cd.below (Kf.below h.mr k), ho, h.c64⟩
theorem MX.next (h : MX base mb co cc code N ib x w L m) (hm : MR w' base mb (.slice co code.length cc) L' m') (k : Kf L L' w w') {N' : Nat} (ho : OKM N' m') : MX base mb co cc code N' ib x w' L' m' :=
  have hl : ib < w.heap.size := (Array.getElem?_eq_some_iff.1 h.kb).1
  ⟨h.ms.next hm k ho, (k.kx.block ib hl (fun hn => hn h.ko)).trans h.kb, k.on ib hl h.ko⟩
theorem OKM.fin (h : OKM N m) (k : Int) : OKM N (m.fin k) := by
  unfold Mc.fin
  split
  · exact ⟨h.mem, h.th, h.outs, h.order, h.steps, h.big⟩
  · exact h
theorem OKM.mem' (h : OKM N m) {n : Int} (hn : I64 n) (a : Nat) : OKM N { m with mem := upd m.mem a n } := ⟨fun b => by
  show I64 (upd m.mem a n b)
  unfold upd
  split
  · exact hn
  · exact h.mem b, h.th, h.outs, h.order, h.steps, h.big⟩
theorem OKM.wr (h : OKM N m) {n : Int} (hn : I64 n) (t : Nat) (k : Int) : OKM N (m.wr t k n).1 := by
  unfold Mc.wr
  split
  · exact h.mem' hn _
  · exact h.fin _
theorem OKM.up (h : OKM N m) {N' : Nat} (hN : N ≤ N') (hb : N' ≤ 1000000) : OKM N' m := ⟨h.mem, fun i t ht => ⟨(h.th i t ht).1, Nat.le_trans (h.th i t ht).2.1 hN, (h.th i t ht).2.2⟩, Nat.le_trans h.outs hN, Nat.le_trans h.order hN, ⟨h.steps.1, by have := h.steps.2; omega⟩, hb⟩
/-- What a call leaves. -/
def MXP (base mb : Nat) (co : Option Addr) (cc : Nat) (code : List Mi) (N ib : Nat) (x : Mi) (w : World) (L : Ly) (v : Value) (m' : Mc) (e : Ending) (w' : World) : Prop := e = .returned v ∧ ∃ L', MX base mb co cc code N ib x w' L' m' ∧ Kf L L' w w'
theorem MX.cells (h : MX base mb co cc code N ib x w L m) : w.cell? ⟨ib, 0, none⟩ = some (.int .i64 x.op) ∧ w.cell? ⟨ib, 1, none⟩ = some (.int .i64 x.a) ∧ w.cell? ⟨ib, 2, none⟩ = some (.int .i64 x.b) ∧ w.cell? ⟨ib, 3, none⟩ = some (.int .i64 x.c) ∧ w.cell? ⟨ib, 4, none⟩ = some (.int .i64 x.d) ∧ w.cell? ⟨ib, 5, none⟩ = some (.int .i64 x.e) ∧ ib < w.heap.size := ⟨cell_of_row w _ 0 _ 72 (0, 0) h.kb, cell_of_row w _ 1 _ 72 (0, 0) h.kb, cell_of_row w _ 2 _ 72 (0, 0) h.kb, cell_of_row w _ 3 _ 72 (0, 0) h.kb, cell_of_row w _ 4 _ 72 (0, 0) h.kb, cell_of_row w _ 5 _ 72 (0, 0) h.kb, (Array.getElem?_eq_some_iff.1 h.kb).1⟩
theorem MX.drewN (h : MX base mb co cc code N ib x w L m) (j : Nat) : MX base mb co cc code N ib x (w.drewN j) L m := h.next (h.ms.mr.drewN j) ((Kf.refl L w).drewN j) h.ms.ok
theorem MX.start (h : MS base mb co cc code N w L m) (x : Mi) : MX base mb co cc code N w.heap.size x (w.alloc (.cells (miC x) 72)) L m ∧ Kf L L w (w.alloc (.cells (miC x) 72)) := by
  have hb := (al1 w (.cells (miC x) 72)).1
  have k : Kf L L w (w.alloc (.cells (miC x) 72)) := ⟨KX.of_below hb, fun _ _ h => h, rfl⟩
  exact ⟨⟨h.next (h.mr.below hb) k h.ok, (al1 w _).2, h.mr.free (Nat.le_refl _)⟩, k⟩
section
variable {t : Nat} {th : Th}
theorem rd_yes (h : MX base mb co cc code N ib x w L m) (ht : m.ths[t]? = some th) {k y : Int} (hk : I64 k) (hy : slotR (m.fr t) t k = (y, true)) : Calls Try.prog 31 #[.pointer (some ⟨mb, 0, none⟩), .int .i64 t, .int .i64 k] w (MXP base mb co cc code N ib x w L (.tuple #[.int .i64 (m.mem y.toNat), .bool true]) m) := by
  refine (read40 h.ms.mr ht hk).mono ?_
  rw [fr_eq ht] at hy
  rintro e w' (⟨z, hz, -, rfl, j, rfl⟩ | ⟨z, hz, -⟩)
  · rw [hy] at hz
    simp at hz
    subst hz
    exact ⟨rfl, L, h.drewN j, (Kf.refl L w).drewN j⟩
  · rw [hy] at hz
    simp at hz
theorem rd_no (h : MX base mb co cc code N ib x w L m) (ht : m.ths[t]? = some th) {k y : Int} (hk : I64 k) (hy : slotR (m.fr t) t k = (y, false)) : Calls Try.prog 31 #[.pointer (some ⟨mb, 0, none⟩), .int .i64 t, .int .i64 k] w (fun e w' => ∃ v, MXP base mb co cc code N ib x w L (.tuple #[.int .i64 v, .bool false]) (m.fin y) e w') := by
  refine (read40 h.ms.mr ht hk).mono ?_
  rw [fr_eq ht] at hy
  rintro e w' (⟨z, hz, -⟩ | ⟨z, hz, ⟨v, rfl⟩, hm, kf⟩)
  · rw [hy] at hz
    simp at hz
  · rw [hy] at hz
    simp at hz
    subst hz
    exact ⟨v, rfl, L, h.next hm kf (h.ms.ok.fin _), kf⟩
theorem sl_yes (h : MX base mb co cc code N ib x w L m) (ht : m.ths[t]? = some th) {k y : Int} (hk : I64 k) (hy : slotR (m.fr t) t k = (y, true)) : Calls Try.prog 32 #[.pointer (some ⟨mb, 0, none⟩), .int .i64 t, .int .i64 k] w (MXP base mb co cc code N ib x w L (.tuple #[.int .i64 y, .bool true]) m) := by
  rw [fr_eq ht] at hy
  refine (slot_yes h.ms.mr ht hk hy).mono ?_
  rintro e w' ⟨rfl, rfl⟩
  exact ⟨rfl, L, h, Kf.refl _ _⟩
theorem sl_no (h : MX base mb co cc code N ib x w L m) (ht : m.ths[t]? = some th) {k y : Int} (hk : I64 k) (hy : slotR (m.fr t) t k = (y, false)) : Calls Try.prog 32 #[.pointer (some ⟨mb, 0, none⟩), .int .i64 t, .int .i64 k] w (MXP base mb co cc code N ib x w L (.tuple #[.int .i64 0, .bool false]) (m.fin y)) := by
  rw [fr_eq ht] at hy
  refine (slot_no h.ms.mr ht hk hy).mono ?_
  rintro e w' ⟨rfl, hm, kf⟩
  exact ⟨rfl, L, h.next hm kf (h.ms.ok.fin _), kf⟩
theorem wr_x (h : MX base mb co cc code N ib x w L m) (ht : m.ths[t]? = some th) {k n : Int} (hk : I64 k) (hn : I64 n) : Calls Try.prog 30 #[.pointer (some ⟨mb, 0, none⟩), .int .i64 t, .int .i64 k, .int .i64 n] w (MXP base mb co cc code N ib x w L (.bool (m.wr t k n).2) (m.wr t k n).1) := by
  refine (write39 h.ms.mr ht hk n).mono ?_
  rintro e w' ⟨rfl, L', hm, kf⟩
  exact ⟨rfl, L', h.next hm kf (h.ms.ok.wr hn t k), kf⟩
theorem wd_yes (h : MX base mb co cc code N ib x w L m) {a c : Int} (ha : I64 a) (hc : I64 c) (hb : m.wordB a c = true) : Calls Try.prog 55 #[.pointer (some ⟨mb, 0, none⟩), .int .i64 a, .int .i64 c] w (MXP base mb co cc code N ib x w L (.tuple #[.int .i64 (a + c), .bool true]) m) := by
  refine (word54 h.ms.mr ha hc).mono ?_
  rintro e w' (⟨-, rfl, j, rfl⟩ | ⟨hz, -⟩)
  · exact ⟨rfl, L, h.drewN j, (Kf.refl L w).drewN j⟩
  · rw [hb] at hz
    cases hz
theorem wd_no (h : MX base mb co cc code N ib x w L m) {a c : Int} (ha : I64 a) (hc : I64 c) (hb : m.wordB a c = false) : Calls Try.prog 55 #[.pointer (some ⟨mb, 0, none⟩), .int .i64 a, .int .i64 c] w (MXP base mb co cc code N ib x w L (.tuple #[.int .i64 0, .bool false]) (m.fin 9)) := by
  refine (word54 h.ms.mr ha hc).mono ?_
  rintro e w' (⟨hz, -⟩ | ⟨-, rfl, hm, kf⟩)
  · rw [hb] at hz
    cases hz
  · exact ⟨rfl, L, h.next hm kf (h.ms.ok.fin _), kf⟩
theorem en_x (h : MX base mb co cc code N ib x w L m) (k : Int) : Calls Try.prog 27 #[.pointer (some ⟨mb, 0, none⟩), .int .i64 k] w (MXP base mb co cc code N ib x w L (.tuple #[]) (m.fin k)) := by
  refine (end36 h.ms.mr k).mono ?_
  rintro e w' ⟨rfl, hm, kf⟩
  exact ⟨rfl, L, h.next hm kf (h.ms.ok.fin _), kf⟩
theorem gt_x (h : MX base mb co cc code N ib x w L m) (a : Nat) (ha : a ≤ 1152921504606846976) : Calls Try.prog 53 #[.pointer (some ⟨mb, 0, none⟩), .int .i64 a] w (MXP base mb co cc code N ib x w L (.int .i64 (m.mem a)) m) := by
  refine (get52 h.ms.mr a ha).mono ?_
  rintro e w' ⟨rfl, j, rfl⟩
  exact ⟨rfl, L, h.drewN j, (Kf.refl L w).drewN j⟩
theorem pt_x (h : MX base mb co cc code N ib x w L m) (a : Nat) (ha : a < 61000000) {n : Int} (hn : I64 n) : Calls Try.prog 13 #[.pointer (some ⟨mb, 0, none⟩), .int .i64 a, .int .i64 n] w (MXP base mb co cc code N ib x w L (.tuple #[]) { m with mem := upd m.mem a n }) := by
  refine (put18 h.ms.mr a ha n).mono ?_
  rintro e w' ⟨rfl, L', hm, kf⟩
  exact ⟨rfl, L', h.next hm kf (h.ms.ok.mem' hn a), kf⟩
end
end
end Go.Proofs.Ytflifialjdhenaa
namespace Go.Proofs.Ytflifialjdhenaa
open Go.RowKit
set_option linter.all false
theorem zip_set {ths : List Th} {cr : List Rq} {t : Nat} {th' : Th} {r : Rq} (hr : cr[t]? = some r) : (ths.set t th').zip cr = (ths.zip cr).set t (th', r) := by
  induction ths generalizing cr t with
  | nil => simp
  | cons x xs ih =>
    cases cr with
    | nil => simp
    | cons y ys =>
      cases t with
      | zero => simp at hr; subst hr; rfl
      | succ t => simp at hr; simp [ih hr]
theorem thC_len {xs : List (Th × Rq)} : ∀ x ∈ xs.map thC, x.length = 6 := fun x hx => by
  obtain ⟨y, _, rfl⟩ := List.mem_map.1 hx
  rfl
section
variable {w : World} {base mb : Nat} {cv : Value} {L : Ly} {m : Mc}
theorem MR.setTh (h : MR w base mb cv L m) {t : Nat} {th th' : Th} (ht : m.ths[t]? = some th) {g : Nat} (hg : L.to_ = some ⟨g, 0, none⟩) {o : Nat} {u : Value} (ho : o < 6) (hc : th'.calls = th.calls) (he : ∀ r, (thC (th, r)).set o u = thC (th', r)) (hf : stk t ≤ th'.frame ∧ th'.frame < stk (t + 1)) : MR (w.setCell ⟨g, t * 6 + o, none⟩ u) base mb cv L { m with ths := m.ths.set t th' } ∧ Kf L L w (w.setCell ⟨g, t * 6 + o, none⟩ u) := by
  have hog : L.own g = some (3, 0) := h.th.orow g (by rw [hg]; rfl)
  have htl : t < m.ths.length := (List.getElem?_eq_some_iff.1 ht).1
  have hs : ∀ b, b ≠ g → (w.setCell ⟨g, t * 6 + o, none⟩ u).heap[b]? = w.heap[b]? := fun b hb => Below.heap_setCell _ ⟨g, t * 6 + o, none⟩ _ _ hb
  have hsg : ∀ gr, gr ≠ 3 → sameG L.own gr w (w.setCell ⟨g, t * 6 + o, none⟩ u) := fun gr hgr b s e => hs b (fun e2 => by
    rw [e2, hog] at e
    simp at e
    omega)
  obtain ⟨r, hr⟩ : ∃ r, L.cr[t]? = some r := ⟨_, List.getElem?_eq_getElem (by rw [h.th.crl]; exact htl)⟩
  refine ⟨⟨?_, h.omb, h.hp.frame (hsg 1 (by decide)) (fun _ _ h => h), h.pg.frame (hsg 2 (by decide)) (fun _ _ h => h), ?_, h.ou.frame (hsg 4 (by decide)) (fun _ _ h => h), h.or_.frame (hsg 5 (by decide)) (fun _ _ h => h), h.hbase, fun b hn => ⟨(h.olt b hn).1, by simpa using (h.olt b hn).2⟩, h.o0⟩, ⟨(KX.refl _ _ _).setCell (p := ⟨g, t * 6 + o, none⟩) (.inr (by rw [hog]; simp)) u, fun _ _ h => h, rfl⟩⟩
  · rw [hs mb (fun e => by
      have := h.omb
      rw [e, hog] at this
      simp at this), h.blk]
    show some (Obj.cells (mcC cv L m) 45 (0, 0)) = some (Obj.cells (mcC cv L { m with ths := m.ths.set t th' }) 45 (0, 0))
    unfold mcC
    simp
  · refine ⟨?_, ?_, ?_, ?_, ?_, ?_⟩
    · show World.ownsRow _ _ _ _ (.slice L.to_ (m.ths.set t th').length L.tc) (m.ths.set t th').length (((m.ths.set t th').zip L.cr).map thC).flatten
      rw [List.length_set, zip_set hr, List.map_set]
      have hx : ((m.ths.zip L.cr).map thC)[t]? = some (thC (th, r)) := by
        rw [List.getElem?_map, (List.getElem?_zip_eq_some (z := (th, r))).2 ⟨ht, hr⟩]
        rfl
      have h1 := ownsRow_put h.th.row (g := g) (by rw [hg]; rfl) (t * 6 + o) u
      rw [flat_set thC_len hx ho u, he r] at h1
      exact h1
    · show ∀ b, (Value.slice L.to_ (m.ths.set t th').length L.tc).ownBlock = some b → _
      rw [List.length_set]
      exact h.th.orow
    · show L.cr.length = (m.ths.set t th').length
      rw [List.length_set]
      exact h.th.crl
    · intro i t' r' ht' hr'
      have ht2 : (m.ths.set t th')[i]? = some t' := ht'
      by_cases hi : i = t
      · subst hi
        rw [List.getElem?_set_self htl] at ht2
        obtain rfl := Option.some.inj ht2
        obtain ⟨a1, a2⟩ := h.th.calls i th r' ht hr'
        rw [hc]
        exact ⟨ownsRow_same a1 (fun b hb _ => hs b (fun e => by
          have := a2 b hb
          rw [e, hog] at this
          simp at this)), a2⟩
      · rw [List.getElem?_set_ne (Ne.symm hi)] at ht2
        obtain ⟨a1, a2⟩ := h.th.calls i t' r' ht2 hr'
        exact ⟨ownsRow_same a1 (fun b hb _ => hs b (fun e => by
          have := a2 b hb
          rw [e, hog] at this
          simp at this)), a2⟩
    · show (m.ths.set t th').length ≤ 12
      rw [List.length_set]
      exact h.th.few
    · intro i t' ht'
      have ht2 : (m.ths.set t th')[i]? = some t' := ht'
      by_cases hi : i = t
      · subst hi
        rw [List.getElem?_set_self htl] at ht2
        obtain rfl := Option.some.inj ht2
        exact hf
      · rw [List.getElem?_set_ne (Ne.symm hi)] at ht2
        exact h.th.fr i t' ht2
end
theorem OKM.setTh {N : Nat} {m : Mc} (h : OKM N m) {t : Nat} {th th' : Th} (ht : m.ths[t]? = some th) (hp : I64 th'.pc) (hc : th'.calls = th.calls) : OKM N { m with ths := m.ths.set t th' } := ⟨h.mem, fun i x hx => by
  have hx2 : (m.ths.set t th')[i]? = some x := hx
  by_cases hi : i = t
  · subst hi
    rw [List.getElem?_set_self (List.getElem?_eq_some_iff.1 ht).1] at hx2
    obtain rfl := Option.some.inj hx2
    rw [hc]
    exact ⟨hp, (h.th i th ht).2⟩
  · rw [List.getElem?_set_ne (Ne.symm hi)] at hx2
    exact h.th i x hx2, h.outs, h.order, h.steps, h.big⟩
end Go.Proofs.Ytflifialjdhenaa
namespace Go.Proofs.Ytflifialjdhenaa
open Go.RowKit
set_option linter.all false
/-- What a slot holds; or the run ends. -/
def Mc.rd (m : Mc) (t : Nat) (k : Int) : Option Int × Mc := if (slotR (m.fr t) t k).2 then (some (m.mem (slotR (m.fr t) t k).1.toNat), m) else (none, m.fin (slotR (m.fr t) t k).1)
def Mc.goto (m : Mc) (t : Nat) (pc : Int) : Mc := match m.ths[t]? with
  | some th => { m with ths := m.ths.set t { th with pc := pc } }
  | none => m
/-- An operator whose operands are there. -/
def Mc.op2 (m : Mc) (t : Nat) (i : Mi) (b c : Int) : Mc := if i.d < 0 ∨ 12 < i.d then m.fin 9 else if (reckon i.d b c).2 then (m.wr t i.a (reckon i.d b c).1).1 else m.goto t i.e
def Mc.opM (m : Mc) (t : Nat) (i : Mi) : Mc := match m.rd t i.b with
  | (none, m1) => m1
  | (some b, _) => if i.d = 11 ∨ i.d = 12 then m.op2 t i b 0 else match m.rd t i.c with
    | (none, m1) => m1
    | (some c, _) => m.op2 t i b c
theorem slot_cases (fr : Int) (t : Nat) (k : Int) : (∃ y, slotR fr t k = (y, true)) ∨ ∃ y, slotR fr t k = (y, false) := by
  rcases h : slotR fr t k with ⟨y, b⟩
  cases b
  · exact .inr ⟨y, rfl⟩
  · exact .inl ⟨y, rfl⟩
section
variable {base mb : Nat} {co : Option Addr} {cc : Nat} {code : List Mi} {N ib : Nat} {x : Mi} {w w' : World} {L L' : Ly} {m m' : Mc} {t : Nat} {th : Th}
theorem Mc.rd_some {k y : Int} (h : slotR (m.fr t) t k = (y, true)) : m.rd t k = (some (m.mem y.toNat), m) := by unfold Mc.rd; rw [h]; rfl
theorem Mc.rd_none {k y : Int} (h : slotR (m.fr t) t k = (y, false)) : m.rd t k = (none, m.fin y) := by unfold Mc.rd; rw [h]; rfl
theorem MX.drew (h : MX base mb co cc code N ib x w L m) : MX base mb co cc code N ib x w.drew L m := h.drewN 1
/-- Where a thread's cells lie. -/
theorem MX.thr (h : MX base mb co cc code N ib x w L m) (ht : m.ths[t]? = some th) : ∃ g, L.to_ = some ⟨g, 0, none⟩ ∧ w.cell? ⟨mb, 3, none⟩ = some (.slice (some ⟨g, 0, none⟩) m.ths.length L.tc) ∧ g < w.heap.size ∧ mb < w.heap.size ∧ (t : Int) < (m.ths.length : Int) ∧ w.cell? ⟨g, t * 6, none⟩ = some (.int .i64 th.pc) ∧ w.cell? ⟨g, t * 6 + 1, none⟩ = some (.int .i64 th.frame) ∧ w.cell? ⟨g, t * 6 + 3, none⟩ = some (.bool th.unw) ∧ w.cell? ⟨g, t * 6 + 4, none⟩ = some (.bool th.abo) ∧ w.cell? ⟨g, t * 6 + 5, none⟩ = some (.bool th.over) ∧ ∀ o, w.frozen? ⟨g, o, none⟩ = false := by
  obtain ⟨g, r, e, hg, hr, c0, c1, c2, c3, c4, c5⟩ := h.ms.mr.th.nth ht
  obtain ⟨cu, hcu⟩ := own_heap h.ms.mr.th.row (b := g) (by rw [e]; rfl)
  refine ⟨g, e, ?_, hg, h.ms.mr.lt, by have := (List.getElem?_eq_some_iff.1 ht).1; omega, c0, c1, c3, c4, c5, fun o => frozen_of_row w g o _ 41 hcu⟩
  rw [cell_of_row w _ 3 _ 45 (0, 0) h.ms.mr.blk, ← e]
  rfl
theorem goto_x (h : MX base mb co cc code N ib x w L m) (ht : m.ths[t]? = some th) {g : Nat} (hg : L.to_ = some ⟨g, 0, none⟩) {pc : Int} (hp : I64 pc) : MX base mb co cc code N ib x (w.setCell ⟨g, t * 6, none⟩ (.int .i64 pc)) L (m.goto t pc) ∧ Kf L L w (w.setCell ⟨g, t * 6, none⟩ (.int .i64 pc)) := by
  have e : m.goto t pc = { m with ths := m.ths.set t { th with pc := pc } } := by unfold Mc.goto; rw [ht]
  have h1 := h.ms.mr.setTh ht hg (o := 0) (u := .int .i64 pc) (th' := { th with pc := pc }) (by decide) rfl (fun r => rfl) (h.ms.mr.th.fr t th ht)
  rw [Nat.add_zero] at h1
  rw [e]
  exact ⟨h.next h1.1 h1.2 (h.ms.ok.setTh ht hp rfl), h1.2⟩
end
end Go.Proofs.Ytflifialjdhenaa
