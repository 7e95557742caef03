/- The document's machine: a word is put. -/
import Derived.Test.YtflifialjdhenaaMca
namespace Go.Proofs.Ytflifialjdhenaa
open Go.RowKit
set_option linter.all false
theorem infP : (Try.prog.info? 23).map (fun i => (i.zero, i.size, i.bytes)) = some (some (.slice none 0 0), 1, 24) := by kernel_rfl
theorem pg_run {w : World} {base mb : Nat} {cv : Value} {L : Ly} {m : Mc} (h : MR w base mb cv L m) (hf : L.pg.length + 1 ≤ 60000) (ty : TypeId) {ad : Nat} (had : ad = w.heap.size) :
    ∃ v' w', (Builtin.append_ #[43, 43] ty #[.slice L.po L.pg.length L.pc, .slice (some ⟨ad, 0, none⟩) 1 1]).run Try.prog (w.alloc (.cells #[.slice none 0 0] 23)) = .ok v' w' ∧ (w'.heap[mb]? = some (.cells (mcC cv L m) 45 (0, 0)) ∧ ∃ L', v' = .slice L'.po (L.pg.length + 1) L'.pc ∧ L'.pg.length = L.pg.length + 1 ∧ MR (w'.setCell ⟨mb, 1, none⟩ v') base mb cv L' m ∧ Kf L L' w (w'.setCell ⟨mb, 1, none⟩ v')) := by
  obtain ⟨v', w', hr, A⟩ := app1 Try.underlying43 infP rfl (by decide) h.pg.row (Nat.le_trans h.hbase (Nat.le_of_lt h.lt)) #[.slice none 0 0] rfl (fun u hu => by simp at hu; rw [hu]; rfl) (by unfold maxLen; omega) (by omega) ty had
  refine ⟨v', w', hr, (grown_same h (al1 w _).1 A.grown h.pg.orow 0 (by decide) mb 0 h.omb).trans h.blk, ?_⟩
  obtain ⟨L', e1, e2, e3, e4⟩ := h.growPg hf A
  exact ⟨L', e1, by rw [e2]; simp, e3, e4⟩
theorem heap_comm {w : World} {g i : Nat} {u : Value} {o : Obj} {c : Array Value} {t : TypeId} (hg : w.heap[g]? = some (.cells c t (0, 0))) : ((w.setCell ⟨g, i, none⟩ u).alloc o).heap = ((w.alloc o).setCell ⟨g, i, none⟩ u).heap := by
  have hl := (Array.getElem?_eq_some_iff.1 hg).1
  apply Array.ext_getElem?
  intro b
  have hz : (w.setCell ⟨g, i, none⟩ u).heap.size = w.heap.size := by simp
  rcases Nat.lt_trichotomy b w.heap.size with hb | hb | hb
  · rw [Below.heap_alloc _ _ _ (by rw [hz]; exact hb)]
    by_cases hbg : b = g
    · subst hbg
      rw [heap_setCell_same w b i c t u hg, heap_setCell_same _ b i c t u ((Below.heap_alloc _ _ _ hl).trans hg)]
    · rw [Below.heap_setCell _ _ _ _ hbg, Below.heap_setCell _ _ _ _ hbg, Below.heap_alloc _ _ _ hb]
  · subst hb
    have h1 := heap_alloc_new (w.setCell ⟨g, i, none⟩ u) o
    rw [hz] at h1
    rw [h1, Below.heap_setCell _ _ _ _ (by show w.heap.size ≠ g; omega), heap_alloc_new]
  · rw [Array.getElem?_eq_none (by simp; omega), Array.getElem?_eq_none (by simp; omega)]
theorem MR.of_heap {w w' : World} {base mb : Nat} {cv : Value} {L : Ly} {m : Mc} (h : MR w base mb cv L m) (e : w'.heap = w.heap) : MR w' base mb cv L m := by
  have hs : ∀ g, sameG L.own g w w' := fun g b s _ => by rw [e]
  exact ⟨by rw [e]; exact h.blk, h.omb, h.hp.frame (hs 1) (fun _ _ h => h), h.pg.frame (hs 2) (fun _ _ h => h), h.th.frame (hs 3) (fun _ _ h => h), h.ou.frame (hs 4) (fun _ _ h => h), h.or_.frame (hs 5) (fun _ _ h => h), h.hbase, by rw [e]; exact h.olt, h.o0⟩
theorem Kf.of_heap {L L' : Ly} {w w' w'' : World} (h : Kf L L' w w') (e : w''.heap = w'.heap) (e1 : w''.os = w'.os) (e2 : w''.tape = w'.tape) (e3 : w''.output = w'.output) : Kf L L' w w'' := ⟨⟨e1.trans h.kx.os, e2.trans h.kx.tape, e3.trans h.kx.output, by rw [e]; exact h.kx.size, by rw [e]; exact h.kx.block⟩, h.on, h.hb⟩
theorem infI : (Try.prog.info? 3).map (fun i => (i.zero, i.size, i.bytes)) = some (some (.int .i64 0), 1, 8) := by kernel_rfl
/-- A page that is made is one of zeros. -/
theorem page_new {mem : Nat → Int} {i : Nat} (hz : ∀ k, k < 1024 → mem (i * 1024 + k) = 0) (W : World) : (Instr.makeSlice 23 (.int .i64 1024) (.int .i64 1024)).run Try.prog W = .ok (.slice (some ⟨W.heap.size, 0, none⟩) 1024 1024) (W.alloc (.cells (pageA mem i) 3)) := by
  obtain ⟨i0, hi, hz0, hs, hb⟩ := info_parts infI
  have h := run_makeSlice (P := Try.prog) (w := W) 23 3 i0 (.int .i64 0) Try.underlying23 hi hz0 .i64 .i64 1024 1024 (by decide) (by decide) (by rw [hs]; decide) (by rw [hb]; decide) (by decide)
  have e : madeCells (Value.int .i64 0).cells ((1024 : Int).toNat * i0.size) = pageA mem i := by
    rw [hs]
    apply Array.ext'
    apply List.ext_getElem?
    intro k
    have e1 : (madeCells (Value.int .i64 0).cells ((1024 : Int).toNat * 1)).toList[k]? = (madeCells (Value.int .i64 0).cells ((1024 : Int).toNat * 1))[k]? := by simp
    have e2 : (pageA mem i).toList[k]? = (pageA mem i)[k]? := by simp
    rw [e1, e2]
    by_cases hk : k < 1024
    · rw [pageA_at hk, hz k hk]
      unfold madeCells
      rw [Array.getElem?_map, Array.getElem?_range]
      simp [hk, Value.cells, Nat.mod_one]
    · rw [Array.getElem?_eq_none (by rw [size_madeCells]; show 1024 * 1 ≤ k; omega), Array.getElem?_eq_none (by rw [pageA_size]; omega)]
  rw [e] at h
  exact h
set_option maxRecDepth 100000 in
set_option maxHeartbeats 1000000 in
theorem put18 {w : World} {base mb : Nat} {cv : Value} {L : Ly} {m : Mc} (h : MR w base mb cv L m) (a : Nat) (ha : a < 61000000) (n : Int) : Calls Try.prog 13 #[.pointer (some ⟨mb, 0, none⟩), .int .i64 a, .int .i64 n] w (MP w base mb cv L (.tuple #[]) { m with mem := upd m.mem a n }) := by
  have HH : Hid (MR w base mb cv L m) := h
  clear h
  obtain ⟨p, hp⟩ : ∃ p, p = a / 1024 := ⟨_, rfl⟩
  have hdiv : (a : Int).tdiv 1024 = (p : Int) := by rw [hp, Int.tdiv_eq_ediv_of_nonneg (by omega)]; omega
  obtain ⟨q, hq⟩ : ∃ q, q = a % 1024 := ⟨_, rfl⟩
  have hmod : (a : Int).tmod 1024 = (q : Int) := by rw [hq, Int.tmod_eq_emod_of_nonneg (by omega)]; omega
  have hp0 : (0 : Int) ≤ (p : Int) := by omega
  have hp1 : (p : Int) ≤ 59999 := by omega
  have hq1 : (q : Int) < 1024 := by omega
  have hq0 : (0 : Int) ≤ (q : Int) := by omega
  have HP : Hid (p = a / 1024 ∧ q = a % 1024) := ⟨hp, hq⟩
  clear hp hq
  go_enter Try.func13, Try.ntmps13
  go_wp2_with fail
  go_loopg [9] (p + 1 - L.pg.length) (fun gg _ wr => ∃ L', gg = p + 1 - L'.pg.length ∧ Hid (MR wr base mb cv L' m) ∧ Hid (Kf L L' w wr))
  case atStart => exact ⟨L, rfl, HH.out, Kf.refl _ _⟩
  case round =>
    obtain ⟨L1, hgk, HM, HK⟩ := hrel
    have HG : Hid (gk = p + 1 - L1.pg.length) := hgk
    clear hgk
    have c_m := fun o => cell_of_row wr _ o _ 45 (0, 0) HM.out.blk
    have l_m : mb < wr.heap.size := HM.out.lt
    have hfew := HM.out.pg.few
    by_cases hlt : L1.pg.length ≤ p
    · have hltI : (L1.pg.length : Int) ≤ (p : Int) := by omega
      go_wp2_with (at_builtin; refine wp_runG 43 (by rfl) (by rfl) (by rfl) (by rfl) (pg_run HM.out (by omega) _ rfl) ?_; rintro v1 w1 ⟨hmb, L2, rfl, hl2, hm2, hk2⟩; have c_m2 := fun o => cell_of_row w1 _ o _ 45 (0, 0) hmb; have f_m2 := fun o => frozen_of_row w1 _ o _ 45 hmb; have l_m2 : mb < w1.heap.size := (Array.getElem?_eq_some_iff.1 hmb).1)
      go_roundg (p + 1 - L2.pg.length)
      case measure => rw [HG.out]; omega
      case rel => exact ⟨L2, rfl, hm2, HK.out.trans hk2⟩
    · have hltI : ¬ (L1.pg.length : Int) ≤ (p : Int) := by omega
      have hltJ : (p : Int) < (L1.pg.length : Int) := by omega
      obtain ⟨x, hx⟩ : ∃ x, L1.pg[p]? = some x := ⟨_, List.getElem?_eq_getElem (by omega)⟩
      obtain ⟨g0, e0, hg0, c0⟩ := HM.out.pg.nth hx
      have hpo : (Value.slice L1.po L1.pg.length L1.pc) = .slice (some ⟨g0, 0, none⟩) L1.pg.length L1.pc := by rw [e0]
      have HE : Hid (L1.po = some ⟨g0, 0, none⟩) := e0
      have HX : Hid (L1.pg[p]? = some x) := hx
      have c_1 : wr.cell? ⟨mb, 1, none⟩ = some (.slice (some ⟨g0, 0, none⟩) L1.pg.length L1.pc) := by rw [c_m 1, ← hpo]; rfl
      clear c_m hpo e0 hx
      cases x with
      | none =>
        have c0' : wr.cell? ⟨g0, p, none⟩ = some (.slice none 0 0) := c0
        clear c0
        have hmk := page_new (mem := m.mem) (i := p) (fun k hk => HM.out.pg.zero _ (fun g hg => by
          rw [show (p * 1024 + k) / 1024 = p by omega] at hg
          rw [HX.out] at hg
          simp at hg))
        obtain ⟨pgA, hpgA⟩ : ∃ x, x = pageA m.mem p := ⟨_, rfl⟩
        rw [← hpgA] at hmk
        have HPG : Hid (pgA = pageA m.mem p) := hpgA
        clear hpgA
        have hob : (Value.slice L1.po L1.pg.length L1.pc).ownBlock = some g0 := by rw [HE.out]; rfl
        obtain ⟨cur, hcur⟩ := own_heap HM.out.pg.row hob
        have f_0 : wr.frozen? ⟨g0, p, none⟩ = false := frozen_of_row wr _ p _ 23 hcur
        have HCU : Hid (wr.heap[g0]? = some (.cells cur 23 (0, 0))) := hcur
        clear hcur hob
        go_upto_region 4 with fail
        have hne : mb ≠ g0 := fun e => by
          have h1 := HM.out.pg.orow g0 (by rw [HE.out]; rfl)
          rw [← e, HM.out.omb] at h1
          simp at h1
        go_region_held3 (fun W => W.cell? ⟨mb, 1, none⟩ = some (.slice (some ⟨g0, 0, none⟩) L1.pg.length L1.pc))
          (first | assumption | exact c_1 | exact ((al1 _ _).1.cell (p := ⟨mb, 1, none⟩) l_m).trans c_1 | exact ((al1 _ _).1.cell (p := ⟨mb, 1, none⟩) (by simpa using l_m)).trans ((World.cell?_of_block (Below.heap_setCell _ _ _ _ hne)).trans c_1))
          (fail)
        obtain ⟨L2, l1, l2, l3, m2, k2⟩ := HM.out.newPg HX.out HE.out
        rw [← HPG.out] at m2 k2
        generalize hX : World.drew _ = wv
        have hXh : wv.heap = ((wr.alloc (.cells pgA 3)).setCell ⟨g0, p, none⟩ (.slice (some ⟨wr.heap.size, 0, none⟩) 1024 1024)).heap := by
          rw [← hX]
          exact heap_comm HCU.out
        have M2 := m2.of_heap hXh
        have K2 := k2.of_heap (w'' := wv) hXh (by rw [← hX]; rfl) (by rw [← hX]; rfl) (by rw [← hX]; rfl)
        clear hX hXh m2 k2 hmk f_0 c0' c_1 l_m hg0 hne
        have hlen : L2.pg.length = L1.pg.length := by rw [l1, List.length_set]
        have HX2 : Hid (L2.pg[p]? = some (some wr.heap.size)) := by show _ = _; rw [l1, List.getElem?_set_self (by omega)]
        obtain ⟨g, hg0⟩ : ∃ g, g = wr.heap.size := ⟨_, rfl⟩
        rw [← hg0] at HX2
        have l_m : mb < wv.heap.size := M2.lt
        have c_1 : wv.cell? ⟨mb, 1, none⟩ = some (.slice (some ⟨g0, 0, none⟩) L1.pg.length L1.pc) := by
          rw [cell_of_row wv _ 1 _ 45 (0, 0) M2.blk, ← hlen, ← l3, ← HE.out, ← l2]
          rfl
        obtain ⟨g1, e1, l_0, c_0⟩ := M2.pg.nth HX2.out
        obtain rfl : g0 = g1 := by rw [l2, HE.out] at e1; simpa using e1
        have c0' : wv.cell? ⟨g0, p, none⟩ = some (.slice (some ⟨g, 0, none⟩) 1024 1024) := c_0
        have hg := M2.pg.word (a := a) (g := g) (by rw [← HP.out.1]; exact HX2.out)
        have hgb := (M2.pg.page p g HX2.out).2.2
        have f_g := fun o => frozen_of_row wv _ o _ 3 hgb
        have c_q : wv.cell? ⟨g, q, none⟩ = some (.int .i64 (m.mem a)) := by rw [HP.out.2]; exact hg.2
        have f_q : wv.frozen? ⟨g, q, none⟩ = false := f_g q
        have l_g := hg.1
        have HW := M2.word (a := a) (g := g) (by rw [← HP.out.1]; exact HX2.out) n
        rw [← HP.out.2] at HW
        have HWW : Hid (MR (wv.setCell ⟨g, q, none⟩ (.int .i64 n)) base mb cv L2 { m with mem := upd m.mem a n } ∧ Kf L1 L2 wr (wv.setCell ⟨g, q, none⟩ (.int .i64 n))) := ⟨HW.1, K2.trans HW.2⟩
        clear hg hgb f_g HW M2 K2 e1 hlen l1 l2 l3 hg0 c_0
        go_wp2_with fail
        go_end0
        exact ⟨rfl, L2, HWW.out.1, HK.out.trans HWW.out.2⟩
      | some g =>
        have c0' : wr.cell? ⟨g0, p, none⟩ = some (.slice (some ⟨g, 0, none⟩) 1024 1024) := c0
        have hg := HM.out.pg.word (a := a) (g := g) (by rw [← HP.out.1]; exact HX.out)
        have hgb := (HM.out.pg.page p g HX.out).2.2
        have c_g := fun o => cell_of_row wr _ o _ 3 (0, 0) hgb
        have f_g := fun o => frozen_of_row wr _ o _ 3 hgb
        have c_q : wr.cell? ⟨g, q, none⟩ = some (.int .i64 (m.mem a)) := by rw [HP.out.2]; exact hg.2
        have f_q : wr.frozen? ⟨g, q, none⟩ = false := f_g q
        have l_g := hg.1
        have HW := HM.out.word (a := a) (g := g) (by rw [← HP.out.1]; exact HX.out) n
        rw [← HP.out.2] at HW
        have HWW : Hid (MR (wr.setCell ⟨g, q, none⟩ (.int .i64 n)) base mb cv L1 { m with mem := upd m.mem a n } ∧ Kf L1 L1 wr (wr.setCell ⟨g, q, none⟩ (.int .i64 n))) := HW
        clear c0 hg hgb c_g f_g HW
        go_wp2_with fail
        go_end0
        exact ⟨rfl, L1, HWW.out.1, HK.out.trans HWW.out.2⟩
end Go.Proofs.Ytflifialjdhenaa
namespace Go.Proofs.Ytflifialjdhenaa
open Go.RowKit
set_option linter.all false
theorem THS.nth {w : World} {base : Nat} {own : Nat → Option (Nat × Nat)} {to_ : Option Addr} {tc : Nat} {cr : List Rq} {ths : List Th} (h : THS w base own to_ tc cr ths) {i : Nat} {t : Th} (ht : ths[i]? = some t) : ∃ g r, to_ = some ⟨g, 0, none⟩ ∧ g < w.heap.size ∧ cr[i]? = some r ∧ w.cell? ⟨g, i * 6, none⟩ = some (.int .i64 t.pc) ∧ w.cell? ⟨g, i * 6 + 1, none⟩ = some (.int .i64 t.frame) ∧ w.cell? ⟨g, i * 6 + 2, none⟩ = some (.slice r.o t.calls.length r.c) ∧ w.cell? ⟨g, i * 6 + 3, none⟩ = some (.bool t.unw) ∧ w.cell? ⟨g, i * 6 + 4, none⟩ = some (.bool t.abo) ∧ w.cell? ⟨g, i * 6 + 5, none⟩ = some (.bool t.over) := by
  have hl := (List.getElem?_eq_some_iff.1 ht).1
  obtain ⟨r, hr⟩ : ∃ r, cr[i]? = some r := ⟨_, List.getElem?_eq_getElem (by rw [h.crl]; exact hl)⟩
  have hz : (ths.zip cr)[i]? = some (t, r) := by rw [List.getElem?_zip_eq_some]; exact ⟨ht, hr⟩
  obtain ⟨g, c, e, hg, _, hc⟩ := ownsRow_nth h.row (by rw [List.length_map, List.length_zip, h.crl, Nat.min_self]) (fun x hx => by obtain ⟨y, _, rfl⟩ := List.mem_map.1 hx; rfl) (i := i) (x := thC (t, r)) (by rw [List.getElem?_map, hz]; rfl)
  simp at e
  exact ⟨g, r, e.1, hg, hr, hc 0 (by decide), hc 1 (by decide), hc 2 (by decide), hc 3 (by decide), hc 4 (by decide), hc 5 (by decide)⟩
section
variable {w : World} {base mb : Nat} {cv : Value} {L : Ly} {m : Mc}
def SlPost (w : World) (base mb : Nat) (cv : Value) (L : Ly) (m : Mc) (fr : Int) (t : Nat) (k : Int) (e : Ending) (w' : World) : Prop := (∃ x, slotR fr t k = (x, true) ∧ e = .returned (.tuple #[.int .i64 x, .bool true]) ∧ w' = w) ∨ ∃ x, slotR fr t k = (x, false) ∧ e = .returned (.tuple #[.int .i64 0, .bool false]) ∧ MR w' base mb cv L (m.fin x) ∧ Kf L L w w'
set_option maxRecDepth 100000 in
set_option maxHeartbeats 1000000 in
theorem slot41 (h : MR w base mb cv L m) {t : Nat} {th : Th} (ht : m.ths[t]? = some th) {k : Int} (hk : I64 k) : Calls Try.prog 32 #[.pointer (some ⟨mb, 0, none⟩), .int .i64 t, .int .i64 k] w (SlPost w base mb cv L m th.frame t k) := by
  have htl : t < m.ths.length := (List.getElem?_eq_some_iff.1 ht).1
  have htI : (t : Int) < (m.ths.length : Int) := by omega
  have ht0 : (0 : Int) ≤ (t : Int) := by omega
  have hfew := h.th.few
  obtain ⟨hf1, hf2⟩ := h.th.fr t th ht
  obtain ⟨g, r, e0, hg, hr, c0, c1, -⟩ := h.th.nth ht
  have c_3 : w.cell? ⟨mb, 3, none⟩ = some (.slice (some ⟨g, 0, none⟩) m.ths.length L.tc) := by
    rw [cell_of_row w _ 3 _ 45 (0, 0) h.blk, ← e0]
    rfl
  have l_m : mb < w.heap.size := h.lt
  have HE9 : Hid (Calls Try.prog 27 #[.pointer (some ⟨mb, 0, none⟩), .int .i64 9] w (fun e w' => e = .returned (.tuple #[]) ∧ MR w' base mb cv L (m.fin 9) ∧ Kf L L w w')) := end36 h 9
  have HE8 : Hid (Calls Try.prog 27 #[.pointer (some ⟨mb, 0, none⟩), .int .i64 8] w (fun e w' => e = .returned (.tuple #[]) ∧ MR w' base mb cv L (m.fin 8) ∧ Kf L L w w')) := end36 h 8
  have HS : Hid (Calls Try.prog 12 #[.int .i64 ((t : Int) + 1)] w (fun e w' => e = .returned (.int .i64 (stk ((t : Int) + 1))) ∧ w' = w)) := stack17 _ (by omega) (by omega)
  obtain ⟨st, hst⟩ : ∃ st, st = stk ((t : Int) + 1) := ⟨_, rfl⟩
  rw [← hst] at HS hf2
  have hsB : st ≤ 100000000 := by rw [hst]; unfold stk; omega
  have hs1 : 0 ≤ th.frame := by unfold stk at hf1; omega
  have hR : slotR th.frame t k = if k < 0 then (9, false) else if st - th.frame ≤ k then (8, false) else (th.frame + k, true) := by rw [hst]; rfl
  have HRR : Hid (slotR th.frame t k = if k < 0 then (9, false) else if st - th.frame ≤ k then (8, false) else (th.frame + k, true)) := hR
  obtain ⟨fr, hfr⟩ : ∃ fr, fr = th.frame := ⟨_, rfl⟩
  rw [← hfr] at c1 hf1 hf2 hs1 HRR ⊢
  clear hR hst hfr hf1 h ht e0 hr
  have hwt : wrap64 ((t : Int) + 1) = (t : Int) + 1 := by unfold wrap64; omega
  have hws : wrap64 (st - fr) = st - fr := by unfold wrap64; omega
  go_enter Try.func32, Try.ntmps32
  by_cases h1 : k < 0
  · have HF : Hid (slotR fr t k = (9, false)) := by show _ = _; rw [HRR.out, if_pos h1]
    go_wp2_with (go_at_call 27; refine HE9.out.mono ?_; rintro e w1 ⟨rfl, m1, k1⟩)
    go_ret2
    exact .inr ⟨9, HF.out, rfl, m1, k1⟩
  · by_cases h2 : st - fr ≤ k
    · have HF : Hid (slotR fr t k = (8, false)) := by show _ = _; rw [HRR.out, if_neg h1, if_pos h2]
      go_wp2_with (first
        | (go_at_call 12; refine HS.out.mono ?_; rintro e w1 ⟨rfl, rfl⟩)
        | (go_at_call 27; refine HE8.out.mono ?_; rintro e w1 ⟨rfl, m1, k1⟩))
      go_ret2
      exact .inr ⟨8, HF.out, rfl, m1, k1⟩
    · have HF : Hid (slotR fr t k = (fr + k, true)) := by show _ = _; rw [HRR.out, if_neg h1, if_neg h2]
      have hwk : wrap64 (fr + k) = fr + k := by unfold wrap64; omega
      go_wp2_with (go_at_call 12; refine HS.out.mono ?_; rintro e w1 ⟨rfl, rfl⟩)
      go_ret2
      exact .inl ⟨_, HF.out, rfl, rfl⟩
end
end Go.Proofs.Ytflifialjdhenaa
namespace Go.Proofs.Ytflifialjdhenaa
open Go.RowKit
set_option linter.all false
theorem slotR_ok {fr : Int} {t : Nat} {k x : Int} (h : slotR fr t k = (x, true)) (hf : stk t ≤ fr) (ht : t ≤ 12) : 0 ≤ x ∧ x < 61000000 := by
  unfold slotR at h
  unfold stk at h hf
  split at h
  · simp at h
  · split at h
    · simp at h
    · simp at h
      omega
theorem slot_yes {w : World} {base mb : Nat} {cv : Value} {L : Ly} {m : Mc} (h : MR w base mb cv L m) {t : Nat} {th : Th} (ht : m.ths[t]? = some th) {k x : Int} (hk : I64 k) (hx : slotR th.frame t k = (x, true)) : Calls Try.prog 32 #[.pointer (some ⟨mb, 0, none⟩), .int .i64 t, .int .i64 k] w (fun e w' => e = .returned (.tuple #[.int .i64 x, .bool true]) ∧ w' = w) := by
  refine (slot41 h ht hk).mono ?_
  rintro e w' (⟨y, hy, rfl, rfl⟩ | ⟨y, hy, -⟩)
  · rw [hx] at hy
    simp at hy
    rw [hy]
    exact ⟨rfl, rfl⟩
  · rw [hx] at hy
    simp at hy
theorem slot_no {w : World} {base mb : Nat} {cv : Value} {L : Ly} {m : Mc} (h : MR w base mb cv L m) {t : Nat} {th : Th} (ht : m.ths[t]? = some th) {k x : Int} (hk : I64 k) (hx : slotR th.frame t k = (x, false)) : Calls Try.prog 32 #[.pointer (some ⟨mb, 0, none⟩), .int .i64 t, .int .i64 k] w (fun e w' => e = .returned (.tuple #[.int .i64 0, .bool false]) ∧ MR w' base mb cv L (m.fin x) ∧ Kf L L w w') := by
  refine (slot41 h ht hk).mono ?_
  rintro e w' (⟨y, hy, -⟩ | ⟨y, hy, rfl, h1, h2⟩)
  · rw [hx] at hy
    simp at hy
  · rw [hx] at hy
    simp at hy
    rw [hy]
    exact ⟨rfl, h1, h2⟩
section
variable {w : World} {base mb : Nat} {cv : Value} {L : Ly} {m : Mc}
def RdPost (w : World) (base mb : Nat) (cv : Value) (L : Ly) (m : Mc) (fr : Int) (t : Nat) (k : Int) (e : Ending) (w' : World) : Prop := (∃ x : Nat, slotR fr t k = ((x : Int), true) ∧ x < 61000000 ∧ e = .returned (.tuple #[.int .i64 (m.mem x), .bool true]) ∧ ∃ j, w' = w.drewN j) ∨ ∃ x, slotR fr t k = (x, false) ∧ (∃ v, e = .returned (.tuple #[.int .i64 v, .bool false])) ∧ MR w' base mb cv L (m.fin x) ∧ Kf L L w w'
set_option maxRecDepth 100000 in
set_option maxHeartbeats 1000000 in
theorem read40 (h : MR w base mb cv L m) {t : Nat} {th : Th} (ht : m.ths[t]? = some th) {k : Int} (hk : I64 k) : Calls Try.prog 31 #[.pointer (some ⟨mb, 0, none⟩), .int .i64 t, .int .i64 k] w (RdPost w base mb cv L m th.frame t k) := by
  have HF : Hid (stk t ≤ th.frame ∧ t ≤ 12) := ⟨(h.th.fr t th ht).1, by have := h.th.few; have := (List.getElem?_eq_some_iff.1 ht).1; omega⟩
  have HH : Hid (MR w base mb cv L m) := h
  obtain ⟨⟨x, b⟩, hx⟩ : ∃ y, slotR th.frame t k = y := ⟨_, rfl⟩
  have HX : Hid (slotR th.frame t k = (x, b)) := hx
  cases b
  · have HS := slot_no h ht hk hx
    have HC : Hid (Calls Try.prog 32 #[.pointer (some ⟨mb, 0, none⟩), .int .i64 t, .int .i64 k] w (fun e w' => e = .returned (.tuple #[.int .i64 0, .bool false]) ∧ MR w' base mb cv L (m.fin x) ∧ Kf L L w w')) := HS
    clear h ht hx HS
    go_enter Try.func31, Try.ntmps31
    go_upto_region 2 with (go_at_call 32; refine HC.out.mono ?_; rintro e w1 ⟨rfl, hm, hkf⟩)
    have HG : Hid (Calls Try.prog 53 #[.pointer (some ⟨mb, 0, none⟩), .int .i64 0] w1 (Gives w1 (.int .i64 ((m.fin x).mem 0)))) := get52 hm 0 (by decide)
    have HK : Hid (∀ j, MR (w1.drewN j) base mb cv L (m.fin x) ∧ Kf L L w (w1.drewN j)) := fun j => ⟨hm.drewN j, hkf.drewN j⟩
    clear hm hkf
    go_wp2_with (go_at_call 53; refine HG.out.mono ?_; rintro e w2 ⟨rfl, j, rfl⟩)
    go_ret2
    exact .inr ⟨x, HX.out, ⟨_, rfl⟩, (HK.out j).1, (HK.out j).2⟩
  · obtain ⟨hx0, hx1⟩ := slotR_ok hx HF.out.1 HF.out.2
    obtain ⟨a, rfl⟩ : ∃ a : Nat, x = (a : Int) := ⟨x.toNat, by omega⟩
    have HC : Hid (Calls Try.prog 32 #[.pointer (some ⟨mb, 0, none⟩), .int .i64 t, .int .i64 k] w (fun e w' => e = .returned (.tuple #[.int .i64 a, .bool true]) ∧ w' = w)) := slot_yes h ht hk hx
    have HG : Hid (Calls Try.prog 53 #[.pointer (some ⟨mb, 0, none⟩), .int .i64 a] w (Gives w (.int .i64 (m.mem a)))) := get52 h a (by omega)
    have HA : Hid (a < 61000000) := by show _ < _; omega
    clear h ht hx hx0 hx1
    go_enter Try.func31, Try.ntmps31
    go_upto_region 2 with (go_at_call 32; refine HC.out.mono ?_; rintro e w1 ⟨rfl, rfl⟩)
    go_wp2_with (go_at_call 53; refine HG.out.mono ?_; rintro e w2 ⟨rfl, j, rfl⟩)
    go_ret2
    exact .inl ⟨a, HX.out, HA.out, rfl, j, rfl⟩
end
end Go.Proofs.Ytflifialjdhenaa
namespace Go.Proofs.Ytflifialjdhenaa
open Go.RowKit
set_option linter.all false
def Mc.fr (m : Mc) (t : Nat) : Int := ((m.ths[t]?).map Th.frame).getD 0
/-- A slot is written. -/
def Mc.wr (m : Mc) (t : Nat) (k n : Int) : Mc × Bool := if (slotR (m.fr t) t k).2 then ({ m with mem := upd m.mem (slotR (m.fr t) t k).1.toNat n }, true) else (m.fin (slotR (m.fr t) t k).1, false)
theorem fr_eq {m : Mc} {t : Nat} {th : Th} (ht : m.ths[t]? = some th) : m.fr t = th.frame := by unfold Mc.fr; rw [ht]; rfl
section
variable {w : World} {base mb : Nat} {cv : Value} {L : Ly} {m : Mc}
set_option maxRecDepth 100000 in
set_option maxHeartbeats 1000000 in
theorem write39 (h : MR w base mb cv L m) {t : Nat} {th : Th} (ht : m.ths[t]? = some th) {k : Int} (hk : I64 k) (n : Int) : Calls Try.prog 30 #[.pointer (some ⟨mb, 0, none⟩), .int .i64 t, .int .i64 k, .int .i64 n] w (MP w base mb cv L (.bool (m.wr t k n).2) (m.wr t k n).1) := by
  have HF : Hid (stk t ≤ th.frame ∧ t ≤ 12) := ⟨(h.th.fr t th ht).1, by have := h.th.few; have := (List.getElem?_eq_some_iff.1 ht).1; omega⟩
  obtain ⟨⟨x, b⟩, hx⟩ : ∃ y, slotR th.frame t k = y := ⟨_, rfl⟩
  have hx' : slotR (m.fr t) t k = (x, b) := by rw [fr_eq ht]; exact hx
  cases b
  · have HC : Hid (Calls Try.prog 32 #[.pointer (some ⟨mb, 0, none⟩), .int .i64 t, .int .i64 k] w (fun e w' => e = .returned (.tuple #[.int .i64 0, .bool false]) ∧ MR w' base mb cv L (m.fin x) ∧ Kf L L w w')) := slot_no h ht hk hx
    have HW : Hid (m.wr t k n = (m.fin x, false)) := by show _ = _; unfold Mc.wr; rw [hx']; rfl
    clear h ht hx hx'
    go_enter Try.func30, Try.ntmps30
    go_wp2_with (go_at_call 32; refine HC.out.mono ?_; rintro e w1 ⟨rfl, hm, hkf⟩)
    go_ret
    rw [HW.out]
    exact ⟨rfl, L, hm, hkf⟩
  · obtain ⟨hx0, hx1⟩ := slotR_ok hx HF.out.1 HF.out.2
    obtain ⟨a, rfl⟩ : ∃ a : Nat, x = (a : Int) := ⟨x.toNat, by omega⟩
    have HC : Hid (Calls Try.prog 32 #[.pointer (some ⟨mb, 0, none⟩), .int .i64 t, .int .i64 k] w (fun e w' => e = .returned (.tuple #[.int .i64 a, .bool true]) ∧ w' = w)) := slot_yes h ht hk hx
    have HG : Hid (Calls Try.prog 13 #[.pointer (some ⟨mb, 0, none⟩), .int .i64 a, .int .i64 n] w (MP w base mb cv L (.tuple #[]) { m with mem := upd m.mem a n })) := put18 h a (by omega) n
    have HW : Hid (m.wr t k n = ({ m with mem := upd m.mem a n }, true)) := by show _ = _; unfold Mc.wr; rw [hx']; rfl
    clear h ht hx hx0 hx1 hx'
    go_enter Try.func30, Try.ntmps30
    go_wp2_with (first
      | (go_at_call 32; refine HC.out.mono ?_; rintro e w1 ⟨rfl, rfl⟩)
      | (go_at_call 13; refine HG.out.mono ?_; rintro e w2 ⟨rfl, L2, m2, k2⟩))
    go_ret
    rw [HW.out]
    exact ⟨rfl, L2, m2, k2⟩
def WdPost (w : World) (base mb : Nat) (cv : Value) (L : Ly) (m : Mc) (a c : Int) (e : Ending) (w' : World) : Prop := (m.wordB a c = true ∧ e = .returned (.tuple #[.int .i64 (a + c), .bool true]) ∧ ∃ j, w' = w.drewN j) ∨ (m.wordB a c = false ∧ e = .returned (.tuple #[.int .i64 0, .bool false]) ∧ MR w' base mb cv L (m.fin 9) ∧ Kf L L w w')
set_option maxRecDepth 100000 in
set_option maxHeartbeats 2000000 in
theorem word54 (h : MR w base mb cv L m) {a c : Int} (ha : I64 a) (hc : I64 c) : Calls Try.prog 55 #[.pointer (some ⟨mb, 0, none⟩), .int .i64 a, .int .i64 c] w (WdPost w base mb cv L m a c) := by
  have HE : Hid (∀ j, Calls Try.prog 27 #[.pointer (some ⟨mb, 0, none⟩), .int .i64 9] (w.drewN j) (fun e w' => e = .returned (.tuple #[]) ∧ MR w' base mb cv L (m.fin 9) ∧ Kf L L w w')) := fun j => (end36 (h.drewN j) 9).mono (fun e w' ⟨e1, e2, e3⟩ => ⟨e1, e2, ((Kf.refl L w).drewN j).trans e3⟩)
  have HE0 : Hid (Calls Try.prog 27 #[.pointer (some ⟨mb, 0, none⟩), .int .i64 9] w (fun e w' => e = .returned (.tuple #[]) ∧ MR w' base mb cv L (m.fin 9) ∧ Kf L L w w')) := end36 h 9
  have hfew := h.th.few
  have HS : Hid (Calls Try.prog 12 #[.int .i64 (m.ths.length : Int)] w (fun e w' => e = .returned (.int .i64 (stk (m.ths.length : Int))) ∧ w' = w)) := stack17 _ (by omega) (by omega)
  obtain ⟨bo, cp, hp, -⟩ := h.hp.ex
  have c_3 : w.cell? ⟨mb, 3, none⟩ = some (.slice L.to_ m.ths.length L.tc) := by rw [cell_of_row w _ 3 _ 45 (0, 0) h.blk]; rfl
  have c_2 : w.cell? ⟨mb, 2, none⟩ = some (.pointer (some ⟨L.hb, 0, none⟩)) := by rw [cell_of_row w _ 2 _ 45 (0, 0) h.blk]; rfl
  have l_m : mb < w.heap.size := h.lt
  obtain ⟨n, hn⟩ : ∃ n, n = m.ths.length := ⟨_, rfl⟩
  have hB : m.wordB a c = (decide (-9223372036854775808 ≤ a + c ∧ a + c ≤ 9223372036854775807) && decide (1 ≤ a + c) && decide (a + c < stk (n : Int)) && (decide (4194304 ≤ a + c) || decide (0 ≤ hfindI m.hp (a + c)))) := by rw [hn]; rfl
  rw [← hn] at HS c_3 hfew
  clear hn
  obtain ⟨st, hst⟩ : ∃ st, st = stk (n : Int) := ⟨_, rfl⟩
  have hsB : 4194304 ≤ st ∧ st ≤ 100000000 := by rw [hst]; unfold stk; omega
  rw [← hst] at HS hB
  clear hst
  have ha1 := ha.1
  have ha2 := ha.2
  have hc1 := hc.1
  have hc2 := hc.2
  by_cases hov : -9223372036854775808 ≤ a + c ∧ a + c ≤ 9223372036854775807
  · have hw : wrap64 (a + c) = a + c := by unfold wrap64; omega
    obtain ⟨s, hs⟩ : ∃ s, s = a + c := ⟨_, rfl⟩
    have HH : Hid (Calls Try.prog 54 #[.pointer (some ⟨L.hb, 0, none⟩), .int .i64 s] w (Gives w (.bool (decide (0 ≤ hfindI m.hp s))))) := has53 hp (by rw [hs]; exact hov)
    have HSS : Hid (s = a + c) := hs
    have hcc : (0 ≤ c ∧ a ≤ s) ∨ (c < 0 ∧ s < a) := by omega
    have hw2 : wrap64 (a + c) = s := hw.trans hs.symm
    rw [← hs] at hB hov
    clear hw
    have hB2 : m.wordB a c = (decide (1 ≤ s) && decide (s < st) && (decide (4194304 ≤ s) || decide (0 ≤ hfindI m.hp s))) := by rw [hB, decide_eq_true hov]; simp
    have HB : Hid (m.wordB a c = (decide (1 ≤ s) && decide (s < st) && (decide (4194304 ≤ s) || decide (0 ≤ hfindI m.hp s)))) := hB2
    clear h hs hB hB2 hp hov ha hc ha1 ha2 hc1 hc2
    rcases hcc with ⟨h0, h0'⟩ | ⟨h0, h0'⟩
    all_goals
      by_cases h1 : s < 1
      · have HN : Hid (m.wordB a c = false) := by show _ = _; rw [HB.out, decide_eq_false (show ¬ 1 ≤ s by omega)]; rfl
        go_enter Try.func55, Try.ntmps55
        go_wp2_with (go_at_call 27; refine HE0.out.mono ?_; rintro e w1 ⟨rfl, hm, hkf⟩)
        go_ret2
        exact .inr ⟨HN.out, rfl, hm, hkf⟩
      · by_cases h2 : st ≤ s
        · have HN : Hid (m.wordB a c = false) := by show _ = _; rw [HB.out, decide_eq_false (show ¬ s < st by omega)]; simp
          go_enter Try.func55, Try.ntmps55
          go_wp2_with (first
            | (go_at_call 12; refine HS.out.mono ?_; rintro e w1 ⟨rfl, rfl⟩)
            | (go_at_call 27; refine HE0.out.mono ?_; rintro e w1 ⟨rfl, hm, hkf⟩))
          go_ret2
          exact .inr ⟨HN.out, rfl, hm, hkf⟩
        · by_cases h3 : s < 4194304
          · by_cases h4 : 0 ≤ hfindI m.hp s
            · have HN : Hid (m.wordB a c = true) := by show _ = _; rw [HB.out, decide_eq_true (show 1 ≤ s by omega), decide_eq_true (show s < st by omega), decide_eq_true h4]; simp
              have hd : decide (0 ≤ hfindI m.hp s) = true := decide_eq_true h4
              rw [hd] at HH
              clear h4 hd
              go_enter Try.func55, Try.ntmps55
              go_wp2_with (first
                | (go_at_call 12; refine HS.out.mono ?_; rintro e w1 ⟨rfl, rfl⟩)
                | (go_at_call 54; refine HH.out.mono ?_; rintro e w2 ⟨rfl, j, rfl⟩))
              go_ret2
              exact .inl ⟨HN.out, by rw [← HSS.out]; rfl, j, rfl⟩
            · have HN : Hid (m.wordB a c = false) := by show _ = _; rw [HB.out, decide_eq_false (show ¬ 4194304 ≤ s by omega), decide_eq_false h4]; simp
              have hd : decide (0 ≤ hfindI m.hp s) = false := decide_eq_false h4
              rw [hd] at HH
              clear h4 hd
              go_enter Try.func55, Try.ntmps55
              go_wp2_with (first
                | (go_at_call 12; refine HS.out.mono ?_; rintro e w1 ⟨rfl, rfl⟩)
                | (go_at_call 54; refine HH.out.mono ?_; rintro e w2 ⟨rfl, j, rfl⟩)
                | (go_at_call 27; refine (HE.out j).mono ?_; rintro e w1 ⟨rfl, hm, hkf⟩))
              go_ret2
              exact .inr ⟨HN.out, rfl, hm, hkf⟩
          · have HN : Hid (m.wordB a c = true) := by show _ = _; rw [HB.out, decide_eq_true (show 1 ≤ s by omega), decide_eq_true (show s < st by omega), decide_eq_true (show 4194304 ≤ s by omega)]; rfl
            go_enter Try.func55, Try.ntmps55
            go_wp2_with (go_at_call 12; refine HS.out.mono ?_; rintro e w1 ⟨rfl, rfl⟩)
            go_ret2
            exact .inl ⟨HN.out, by rw [← HSS.out]; rfl, 0, rfl⟩
  · have HB : Hid (m.wordB a c = false) := by show _ = _; rw [hB, decide_eq_false hov]; rfl
    obtain ⟨s, hs⟩ : ∃ s, s = wrap64 (a + c) := ⟨_, rfl⟩
    have hw : wrap64 (a + c) = s := hs.symm
    have hcc : (0 ≤ c ∧ s < a) ∨ (c < 0 ∧ a ≤ s) := by
      rw [hs]
      unfold wrap64
      omega
    clear h hs hB hp hov ha hc ha1 ha2 hc1 hc2
    rcases hcc with ⟨h0, h0'⟩ | ⟨h0, h0'⟩
    all_goals
      go_enter Try.func55, Try.ntmps55
      go_wp2_with (go_at_call 27; refine HE0.out.mono ?_; rintro e w1 ⟨rfl, hm, hkf⟩)
      go_ret2
      exact .inr ⟨HB.out, rfl, hm, hkf⟩
end
end Go.Proofs.Ytflifialjdhenaa
