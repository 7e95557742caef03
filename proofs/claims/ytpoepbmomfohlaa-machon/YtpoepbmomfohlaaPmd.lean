/- The project's machine: words.set. -/
import Derived.Test.YtpoepbmomfohlaaTrm
namespace Go.Proofs.Ytpoepbmomfohlaa
open Go.RowKit
set_option linter.all false
section
variable {w w1 : World} {base g b o : Nat} {tg : Nat × Nat} {c : Array Value} {ty : TypeId} {own own' : Nat → Option (Nat × Nat)} {po : Option Addr} {pc : Nat} {pg : List (Option Nat)} {mem : Nat → Int}
theorem OW.of_heap {w w' : World} (h : OW own base w) (e : w'.heap = w.heap) : OW own base w' := ⟨by rw [e]; exact h.olt, by rw [e]; exact h.nh, by rw [e]; exact h.bs⟩
theorem WS.of_heap {w w' : World} (h : WS base g b o tg c ty mem own po pc pg w) (e : w'.heap = w.heap) : WS base g b o tg c ty mem own po pc pg w' := ⟨h.ow.of_heap e, h.pz.same (fun b s e2 => ⟨by rw [e], e2⟩), by rw [e]; exact h.blk, h.ob, h.ho, h.htg⟩
theorem CG.of_heap {G : Nat → Prop} {w w' w'' : World} (h : CG own own' G base w w') (e : w''.heap = w'.heap) (e1 : w''.os = w'.os) (e2 : w''.tape = w'.tape) (e3 : w''.output = w'.output) : CG own own' G base w w'' := ⟨⟨e1.trans h.kx.os, e2.trans h.kx.tape, e3.trans h.kx.output, by rw [e]; exact h.kx.size, by rw [e]; exact h.kx.block⟩, by rw [e]; exact h.same, h.kp, h.on, h.ow.of_heap e⟩
/-- The cells of a page at first: under a name of their own, so that no goal writes them out. -/
def zc73 : Array Value := Array.replicate 1024 (.int .i64 0)
theorem zv73 (w : World) : Sem.run Try.prog (zeroValue 73) w = .ok (.agg zc73) w := by kernel_rfl
theorem zc73_size : zc73.size = 1024 := by simp [zc73]
theorem zc73_ne : zc73 ≠ #[] := fun h => by
  have := zc73_size
  rw [h] at this
  exact absurd this (by decide)
attribute [simp] zv73 zc73_size zc73_ne
theorem zc101 : zc73 = Array.replicate 1024 (.int .i64 0) := rfl
theorem pageA_zero {mem : Nat → Int} {i : Nat} (hz : ∀ k, k < 1024 → mem (i * 1024 + k) = 0) : zc73 = pageA mem i := by
  rw [zc101]
  apply Array.ext_getElem?
  intro k
  by_cases hk : k < 1024
  · rw [pageA_at hk, hz k hk, Array.getElem?_replicate, if_pos hk]
  · rw [Array.getElem?_eq_none (by simp; omega), Array.getElem?_eq_none (by rw [pageA_size]; omega)]
def SetP (base g b o : Nat) (tg : Nat × Nat) (c : Array Value) (ty : TypeId) (mem : Nat → Int) (own : Nat → Option (Nat × Nat)) (w : World) (e : Ending) (w' : World) : Prop := e = .returned (.tuple #[]) ∧ ∃ own' po' pc' pg', WS base g b o tg c ty mem own' po' pc' pg' w' ∧ CG own own' (fun x => x = g ∨ x = tg.1) base w w'
set_option maxRecDepth 100000 in
set_option maxHeartbeats 1000000 in
theorem set38 (h : WS base g b o tg c ty mem own po pc pg w) (a : Nat) (ha : a < 4194304) (n : Int) : Calls Try.prog 17 #[.pointer (some ⟨b, o, none⟩), .int .i64 a, .int .i64 n] w (SetP base g b o tg c ty (upd mem a n) own w) := by
  have HH : Hid (WS base g b o tg c ty mem own po pc pg w) := h
  clear h
  obtain ⟨p, hp⟩ : ∃ p, p = a / 1024 := ⟨_, rfl⟩
  have hdiv : (a : Int).tdiv 1024 = (p : Int) := by rw [hp, Int.tdiv_eq_ediv_of_nonneg (by omega)]; omega
  obtain ⟨q, hq⟩ : ∃ q, q = a % 1024 := ⟨_, rfl⟩
  have hmod : (a : Int).tmod 1024 = (q : Int) := by rw [hq, Int.tmod_eq_emod_of_nonneg (by omega)]; omega
  have hp0 : (0 : Int) ≤ (p : Int) := by omega
  have hp1 : (p : Int) ≤ 4095 := by omega
  have hq1 : (q : Int) < 1024 := by omega
  have hq0 : (0 : Int) ≤ (q : Int) := by omega
  have HP : Hid (p = a / 1024 ∧ q = a % 1024) := ⟨hp, hq⟩
  clear hp hq ha
  go_enter Try.func17, Try.ntmps17
  go_wp2_with fail
  go_loopg [9] (p + 1 - pg.length) (fun gg _ wr => ∃ own1 po1 pc1 pg1, gg = p + 1 - pg1.length ∧ Hid (WS base g b o tg c ty mem own1 po1 pc1 pg1 wr) ∧ Hid (CG own own1 (fun x => x = g ∨ x = tg.1) base w wr))
  case atStart => exact ⟨own, po, pc, pg, rfl, HH.out, CG.refl HH.out.ow⟩
  case round =>
    obtain ⟨own1, po1, pc1, pg1, hgk, HM, HK⟩ := hrel
    have HG : Hid (gk = p + 1 - pg1.length) := hgk
    clear hgk
    have l_m : b < wr.heap.size := HM.out.lt
    have c_1 := HM.out.cell
    have f_1 : wr.frozen? ⟨b, o, none⟩ = false := frozen_of_row wr _ o _ ty HM.out.blk
    have hfew := HM.out.pz.few
    by_cases hlt : pg1.length ≤ p
    · have hltI : (pg1.length : Int) ≤ (p : Int) := by omega
      go_wp2_with (at_builtin; refine wp_runG 36 (by rfl) (by rfl) (by rfl) (by rfl) (pz_run HM.out (by omega) _ rfl) ?_; rintro v1 w1 ⟨hmb, own2, po2, pc2, rfl, hm2, hk2⟩; obtain ⟨u2, c_m2⟩ : ∃ u, w1.cell? ⟨b, o, none⟩ = some u := ⟨_, (cell_of_row w1 _ o _ ty (0, 0) hmb).trans (Array.getElem?_eq_getElem (by simpa using HM.out.ho))⟩; have f_m2 : w1.frozen? ⟨b, o, none⟩ = false := frozen_of_row w1 _ o _ ty hmb; have l_m2 : b < w1.heap.size := (Array.getElem?_eq_some_iff.1 hmb).1)
      go_roundg (p + 1 - (pg1 ++ [none]).length)
      case measure => rw [HG.out]; simp; omega
      case rel => exact ⟨own2, po2, pc2, pg1 ++ [none], rfl, hm2, HK.out.trans hk2⟩
    · have hltI : ¬ (pg1.length : Int) ≤ (p : Int) := by omega
      have hltJ : (p : Int) < (pg1.length : Int) := by omega
      obtain ⟨x, hx⟩ : ∃ x, pg1[p]? = some x := ⟨_, List.getElem?_eq_getElem (by omega)⟩
      obtain ⟨g0, e0, hg0, c0⟩ := HM.out.pz.nth hx
      subst e0
      have HX : Hid (pg1[p]? = some x) := hx
      clear hx
      cases x with
      | none =>
        have c0' : wr.cell? ⟨g0, p, none⟩ = some (.pointer none) := c0
        clear c0
        have hob : (Value.slice (some ⟨g0, 0, none⟩) pg1.length pc1).ownBlock = some g0 := rfl
        obtain ⟨cur, hcur⟩ := own_heap HM.out.pz.row hob
        have f_0 : wr.frozen? ⟨g0, p, none⟩ = false := frozen_of_row wr _ p _ 71 hcur
        have HCU : Hid (wr.heap[g0]? = some (.cells cur 71 (0, 0))) := hcur
        have hne : b ≠ g0 := HM.out.row0 hob
        clear hcur hob
        go_upto_region 5 with fail
        have hz := pageA_zero (mem := mem) (i := p) (fun k hk => HM.out.pz.zero _ (by omega) (fun g hg => by
          rw [show (p * 1024 + k) / 1024 = p by omega] at hg
          rw [HX.out] at hg
          simp at hg))
        obtain ⟨own2, m2, k2⟩ := HM.out.page HX.out rfl
        rw [← hz] at m2 k2
        generalize hX : World.alloc _ _ = wv
        have hXh : wv.heap = ((wr.alloc (.cells zc73 73)).setCell ⟨g0, p, none⟩ (.pointer (some ⟨wr.heap.size, 0, none⟩))).heap := by
          rw [← hX]
          exact heap_comm HCU.out
        have M2 := m2.of_heap hXh
        have K2 := k2.of_heap (w'' := wv) hXh (by rw [← hX]; rfl) (by rw [← hX]; rfl) (by rw [← hX]; rfl)
        clear hX hXh m2 k2 f_0 c0' c_1 f_1 l_m hg0 hne hz
        have HX2 : Hid ((pg1.set p (some wr.heap.size))[p]? = some (some wr.heap.size)) := by show _ = _; rw [List.getElem?_set_self (by omega)]
        have hlen : (pg1.set p (some wr.heap.size)).length = pg1.length := List.length_set ..
        generalize pg1.set p (some wr.heap.size) = pg2 at *
        obtain ⟨g1, hg1⟩ : ∃ g1, g1 = wr.heap.size := ⟨_, rfl⟩
        rw [← hg1] at HX2
        have l_m : b < wv.heap.size := M2.lt
        have c_1 := M2.cell
        obtain ⟨g2, e1, l_0, c_0⟩ := M2.pz.nth HX2.out
        obtain rfl : g0 = g2 := by simpa using e1
        have c0' : wv.cell? ⟨g0, p, none⟩ = some (.pointer (some ⟨g1, 0, none⟩)) := c_0
        have hg := M2.pz.word (a := a) (q := g1) (by rw [← HP.out.1]; exact HX2.out)
        have hgb := (M2.pz.page p g1 HX2.out).2
        have c_q : wv.cell? ⟨g1, q, none⟩ = some (.int .i64 (mem a)) := by rw [HP.out.2]; exact hg.2
        have f_q : wv.frozen? ⟨g1, q, none⟩ = false := frozen_of_row wv _ q _ 73 hgb
        have l_g := hg.1
        have HW := M2.word (a := a) (q := g1) (by rw [← HP.out.1]; exact HX2.out) n
        rw [← HP.out.2] at HW
        have HWW : Hid _ := HW
        have HK2 : Hid _ := K2
        have hltK : (p : Int) < (pg2.length : Int) := by omega
        clear hg hgb HW M2 K2 e1 hg1 c_0 hlt hltI hltJ hlen hfew
        go_wp2_with fail
        go_end0
        exact ⟨rfl, own2, _, pc1, pg2, HWW.out.1, HK.out.trans (HK2.out.trans HWW.out.2)⟩
      | some g1 =>
        have c0' : wr.cell? ⟨g0, p, none⟩ = some (.pointer (some ⟨g1, 0, none⟩)) := c0
        have hg := HM.out.pz.word (a := a) (q := g1) (by rw [← HP.out.1]; exact HX.out)
        have hgb := (HM.out.pz.page p g1 HX.out).2
        have c_q : wr.cell? ⟨g1, q, none⟩ = some (.int .i64 (mem a)) := by rw [HP.out.2]; exact hg.2
        have f_q : wr.frozen? ⟨g1, q, none⟩ = false := frozen_of_row wr _ q _ 73 hgb
        have l_g := hg.1
        have HW := HM.out.word (a := a) (q := g1) (by rw [← HP.out.1]; exact HX.out) n
        rw [← HP.out.2] at HW
        have HWW : Hid _ := HW
        clear c0 hg hgb HW
        go_wp2_with fail
        go_end0
        exact ⟨rfl, own1, _, pc1, pg1, HWW.out.1, HK.out.trans HWW.out.2⟩
end
end Go.Proofs.Ytpoepbmomfohlaa
