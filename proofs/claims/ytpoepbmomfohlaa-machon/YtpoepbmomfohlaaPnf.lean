/- The project's machine: a call. -/
import Derived.Test.YtpoepbmomfohlaaPmv
import Derived.Test.YtpoepbmomfohlaaPna
import Derived.Test.YtpoepbmomfohlaaPnb
import Derived.Test.YtpoepbmomfohlaaPnc
import Derived.Test.YtpoepbmomfohlaaTke
import Derived.Test.YtpoepbmomfohlaaPne
namespace Go.Proofs.Ytpoepbmomfohlaa
open Go.RowKit
set_option linter.all false
section
variable {C : Ct} {N N' : Nat} {K : Nat → Obj → Prop} {w w' w1 : World} {ps : List Int} {tb tb' : List Nat} {m m' : Mc} {t b : Nat} {th th' : Th}
set_option maxRecDepth 100000 in
set_option maxHeartbeats 1000000 in
theorem enter_c (h : PS C N K w ps tb m) (ht : m.ths[t]? = some th) (hb : tb[t]? = some b) (ha : th.abo = false) {at_ k e : Int} (hat : I64 at_) (hk : I64 k) (he : I64 e) (hc1 : 1 ≤ th.pc) (hc2 : th.pc ≤ C.code.length) (hc3 : (insAt C.code (th.pc - 1)).1.e = e) (hN : N + 1 ≤ 1000000) : Calls Try.prog 39 #[ptr b, .int .i64 at_, .int .i64 k] w (fun e' w' => (∃ y : Int, Hid (slotR th.frame t k = (y, true)) ∧ e' = .returned (.tuple #[]) ∧ PS C (N + 1) K w' ps tb { m with ths := m.ths.set t { th with calls := th.calls ++ [(th.pc, e, th.frame)], frame := y, pc := at_ } }) ∨ (∃ y : Int, Hid (slotR th.frame t k = (y, false)) ∧ e' = thr y ∧ PS C N K w' ps tb m)) := by
  have S1 := slot_c h ht hb hk
  have HTB : Hid (m.ths[t]? = some th ∧ tb[t]? = some b ∧ th.abo = false ∧ I64 at_ ∧ I64 e ∧ 1 ≤ th.pc ∧ th.pc ≤ C.code.length ∧ (insAt C.code (th.pc - 1)).1.e = e ∧ N + 1 ≤ 1000000) := ⟨ht, hb, ha, hat, he, hc1, hc2, hc3, hN⟩
  have hcf := h.cd.few
  have hw : IntKind.i64.wrap (th.pc - 1) = th.pc - 1 := by rw [IntKind.wrap_i64]; omega
  have HWI : Hid (IntKind.i64.wrap (th.pc - 1) = th.pc - 1) := hw
  clear h ht hb ha hat hk he hc1 hc2 hc3 hN hcf hw
  go_enter Try.func39, Try.ntmps39
  go_upto_region 1 with (go_at_call 33; refine S1.mono ?_; rintro e w2 (⟨y, z, hz, rfl, h2⟩ | ⟨y, hy, rfl, h2⟩); rotate_left; exact ⟨rfl, .inr ⟨y, hy, rfl, h2⟩⟩)
  obtain ⟨htt, hbb, ha, hat, he, hc1, hc2, hc3, hN⟩ := HTB.out
  obtain ⟨pc', hpc', d0, d1, d3, d5, d6, d7, d8, lb, fz, f0, f1⟩ := h2.thr htt hbb
  rw [hpc' ha] at d5
  obtain ⟨o, c, k4, hap⟩ := h2.drew.push htt hbb ha he hc1 hc2 hc3 hN
  have k4' : w2.cell? ⟨b, 4, none⟩ = some (.slice o th.calls.length c) := k4
  have AP : Hid (∀ ty, ∃ v' w1, (Builtin.append_ #[48, 48] ty #[.slice o th.calls.length c, .slice (some ⟨w2.heap.size, 0, none⟩) 1 1]).run Try.prog (w2.drew.alloc (.cells #[.int .i64 (IntKind.i64.wrap (th.pc - 1)), .int .i64 (th.frame - stk t)] 85)) = .ok v' w1 ∧ (∃ o' c', v' = .slice o' (th.calls.length + 1) c') ∧ w1.heap[b]? = w2.drew.heap[b]? ∧ (∃ u, w1.cell? ⟨b, 4, none⟩ = some u) ∧ w1.frozen? ⟨b, 4, none⟩ = false ∧ b < w1.heap.size ∧ PS C (N + 1) K (w1.setCell ⟨b, 4, none⟩ v') ps tb { m with ths := m.ths.set t { th with calls := th.calls ++ [(th.pc, e, th.frame)] } }) := fun ty => by rw [HWI.out]; exact hap ty rfl
  have SS0 : (fun W => W.cell? ⟨b, 5, none⟩ = some (.int .i64 th.pc) ∧ W.cell? ⟨b, 3, none⟩ = some (.int .i64 (th.frame - stk t)) ∧ b < W.heap.size) w2.drew := ⟨d5, d3, lb⟩
  have SS1 : (fun W => W.cell? ⟨b, 5, none⟩ = some (.int .i64 th.pc) ∧ W.cell? ⟨b, 3, none⟩ = some (.int .i64 (th.frame - stk t)) ∧ b < W.heap.size) (w2.drew.alloc (.cells #[.int .i64 (IntKind.i64.wrap (th.pc - 1)), .int .i64 (th.frame - stk t)] 85)) := ⟨((al1 w2.drew _).1.cell (p := ⟨b, 5, none⟩) lb).trans d5, ((al1 w2.drew _).1.cell (p := ⟨b, 3, none⟩) lb).trans d3, Nat.lt_of_lt_of_le lb (al1 w2.drew _).1.size⟩
  have SSX : Hid (∀ w8 : World, w8.heap[b]? = w2.drew.heap[b]? → (fun W => W.cell? ⟨b, 5, none⟩ = some (.int .i64 th.pc) ∧ W.cell? ⟨b, 3, none⟩ = some (.int .i64 (th.frame - stk t)) ∧ b < W.heap.size) w8) := fun w8 h1 => ⟨(World.cell?_of_block (a := ⟨b, 5, none⟩) h1).trans d5, (World.cell?_of_block (a := ⟨b, 3, none⟩) h1).trans d3, by
    have h2 : b < w2.drew.heap.size := lb
    rw [Array.getElem?_eq_getElem h2] at h1
    exact (Array.getElem?_eq_some_iff.1 h1).1⟩
  have SSY : Hid (∀ (w8 : World) (u : Value), (fun W => W.cell? ⟨b, 5, none⟩ = some (.int .i64 th.pc) ∧ W.cell? ⟨b, 3, none⟩ = some (.int .i64 (th.frame - stk t)) ∧ b < W.heap.size) w8 → (fun W => W.cell? ⟨b, 5, none⟩ = some (.int .i64 th.pc) ∧ W.cell? ⟨b, 3, none⟩ = some (.int .i64 (th.frame - stk t)) ∧ b < W.heap.size) (w8.setCell ⟨b, 4, none⟩ u)) := fun w8 u hs => ⟨(World.cell?_setCell_other w8 ⟨b, 4, none⟩ ⟨b, 5, none⟩ u (by simp)).trans hs.1, (World.cell?_setCell_other w8 ⟨b, 4, none⟩ ⟨b, 3, none⟩ u (by simp)).trans hs.2.1, by simpa using hs.2.2⟩
  have HT2 : Hid ({ m with ths := m.ths.set t { th with calls := th.calls ++ [(th.pc, e, th.frame)] } }.ths[t]? = some { th with calls := th.calls ++ [(th.pc, e, th.frame)] }) := by
    show (m.ths.set t { th with calls := th.calls ++ [(th.pc, e, th.frame)] })[t]? = _
    rw [List.getElem?_set_self (List.getElem?_eq_some_iff.1 htt).1]
  have HFZ : Hid (∀ {W : World}, PS C (N + 1) K W ps tb { m with ths := m.ths.set t { th with calls := th.calls ++ [(th.pc, e, th.frame)] } } → W.frozen? ⟨b, 5, none⟩ = false ∧ W.frozen? ⟨b, 3, none⟩ = false) := fun {W} hW => by
    obtain ⟨-, -, -, -, -, -, -, -, -, -, fz, -, -⟩ := hW.thr HT2.out hbb
    exact ⟨fz 5, fz 3⟩
  have HFR : Hid (stk t ≤ th.frame ∧ th.frame < stk (t + 1)) := ⟨by omega, by rw [stk_succ]; omega⟩
  clear hap k4 htt hbb ha hat he hc1 hc2 hc3 hN hpc' d0 d1 d6 d7 d8 fz f0 f1 h2
  refine wp_region_held_drew (S := fun W => W.cell? ⟨b, 5, none⟩ = some (.int .i64 th.pc) ∧ W.cell? ⟨b, 3, none⟩ = some (.int .i64 (th.frame - stk t)) ∧ b < W.heap.size) (by as_aux_lemma => kernel_rfl) SS0 (fun hHeld => ?_)
  refine rtk 0 ?_
  refine rtk 1 ?_
  refine rtk 2 ?_
  refine rtk 3 ?_
  refine rtk 5 ?_
  refine rtk 6 ?_
  refine rtk 7 ?_
  refine rtk 8 ?_
  refine rtk 9 ?_
  refine rtk 10 ?_
  refine rtk 11 ?_
  refine rtk 12 ?_
  refine rtk 13 ?_
  refine rtk 14 ?_
  refine rr2 4 15 (fun K hK => ?_) (fun K hK => ?_)
  · go_simp
    refine rgo hK ?_ (hS := by first | exact SS0 | exact SS1 | exact SS2 | exact SS3)
    clear hK K hHeld
    intro hHeld
    refine rr1 15 (fun K hK => ?_)
    go_simp
    refine rgo hK ?_ (hS := by first | exact SS0 | exact SS1 | exact SS2 | exact SS3)
    clear hK K hHeld
    intro hHeld
    refine rr1 16 (fun K hK => ?_)
    refine step_runG 48 (by rfl) (by rfl) (by rfl) (by rfl) (AP.out _) ?_
    rintro v8 w8 ⟨⟨o8, c8, rfl⟩, hq1, ⟨u8, c84⟩, f84, l8, h8⟩
    have SS2 := SSX.out _ hq1
    have SS3 := SSY.out _ (.slice o8 (th.calls.length + 1) c8) SS2
    refine rgo hK ?_ (hS := by first | exact SS0 | exact SS1 | exact SS2 | exact SS3)
    clear hK K hHeld
    intro hHeld
    refine rtk 17 ?_
    refine rtk 18 ?_
    refine rr1 19 (fun K hK => ?_)
    go_simp
    refine rgo hK ?_ (hS := by first | exact SS0 | exact SS1 | exact SS2 | exact SS3)
    clear hK K hHeld
    intro hHeld
    refine wpAnyH_done (by as_aux_lemma => kernel_rfl) ?_ _
    replace h8 : Hid _ := h8
    generalize w8.setCell ⟨b, 4, none⟩ (.slice o8 (th.calls.length + 1) c8) = w9 at *
    obtain ⟨e5, e3, el⟩ := SS3
    have e53 : w9.frozen? ⟨b, 5, none⟩ = false ∧ w9.frozen? ⟨b, 3, none⟩ = false := HFZ.out h8.out
    obtain ⟨y5, y3⟩ := e53
    go_wp2_with fail
    go_end0
    refine .inl ⟨y, hz.out.1, rfl, ?_⟩
    rw [← hz.out.2.1]
    obtain ⟨htt, hbb, ha, hat, he, hc1, hc2, hc3, hN⟩ := HTB.out
    have q1 := h8.out.tcell (th' := { th with calls := th.calls ++ [(th.pc, e, th.frame)], frame := y }) HT2.out hbb 3 (.int .i64 (y - stk t)) (fun a => a) (fun _ => rfl) rfl (fun _ h => h) (slotR_in hz.out.1 HFR.out) (h8.out.ok.setTh HT2.out (h8.out.ok.th t _ HT2.out).1 rfl)
    have e1 : (m.ths.set t { th with calls := th.calls ++ [(th.pc, e, th.frame)] }).set t { th with calls := th.calls ++ [(th.pc, e, th.frame)], frame := y } = m.ths.set t { th with calls := th.calls ++ [(th.pc, e, th.frame)], frame := y } := List.set_set ..
    replace q1 : PS C (N + 1) K (w9.setCell ⟨b, 3, none⟩ (.int .i64 (y - stk t))) ps tb { m with ths := m.ths.set t { th with calls := th.calls ++ [(th.pc, e, th.frame)], frame := y } } := by rw [← e1]; exact q1
    have ht3 : (m.ths.set t { th with calls := th.calls ++ [(th.pc, e, th.frame)], frame := y })[t]? = some { th with calls := th.calls ++ [(th.pc, e, th.frame)], frame := y } := by rw [List.getElem?_set_self (List.getElem?_eq_some_iff.1 htt).1]
    have q2 := q1.goto ht3 hbb hat
    have e2 : (m.ths.set t { th with calls := th.calls ++ [(th.pc, e, th.frame)], frame := y }).set t { th with calls := th.calls ++ [(th.pc, e, th.frame)], frame := y, pc := at_ } = m.ths.set t { th with calls := th.calls ++ [(th.pc, e, th.frame)], frame := y, pc := at_ } := List.set_set ..
    rw [← e2]
    exact q2
  · go_simp
    refine rgo hK ?_ (hS := by first | exact SS0 | exact SS1 | exact SS2 | exact SS3)
    clear hK K hHeld
    intro hHeld
    refine rr1 4 (fun K hK => ?_)
    go_simp
    refine rgo hK ?_ (hS := by first | exact SS0 | exact SS1 | exact SS2 | exact SS3)
    clear hK K hHeld
    intro hHeld
    refine rr1 16 (fun K hK => ?_)
    refine step_runG 48 (by rfl) (by rfl) (by rfl) (by rfl) (AP.out _) ?_
    rintro v8 w8 ⟨⟨o8, c8, rfl⟩, hq1, ⟨u8, c84⟩, f84, l8, h8⟩
    have SS2 := SSX.out _ hq1
    have SS3 := SSY.out _ (.slice o8 (th.calls.length + 1) c8) SS2
    refine rgo hK ?_ (hS := by first | exact SS0 | exact SS1 | exact SS2 | exact SS3)
    clear hK K hHeld
    intro hHeld
    refine rtk 17 ?_
    refine rtk 18 ?_
    refine rr1 19 (fun K hK => ?_)
    go_simp
    refine rgo hK ?_ (hS := by first | exact SS0 | exact SS1 | exact SS2 | exact SS3)
    clear hK K hHeld
    intro hHeld
    refine wpAnyH_done (by as_aux_lemma => kernel_rfl) ?_ _
    replace h8 : Hid _ := h8
    generalize w8.setCell ⟨b, 4, none⟩ (.slice o8 (th.calls.length + 1) c8) = w9 at *
    obtain ⟨e5, e3, el⟩ := SS3
    have e53 : w9.frozen? ⟨b, 5, none⟩ = false ∧ w9.frozen? ⟨b, 3, none⟩ = false := HFZ.out h8.out
    obtain ⟨y5, y3⟩ := e53
    go_wp2_with fail
    go_end0
    refine .inl ⟨y, hz.out.1, rfl, ?_⟩
    rw [← hz.out.2.1]
    obtain ⟨htt, hbb, ha, hat, he, hc1, hc2, hc3, hN⟩ := HTB.out
    have q1 := h8.out.tcell (th' := { th with calls := th.calls ++ [(th.pc, e, th.frame)], frame := y }) HT2.out hbb 3 (.int .i64 (y - stk t)) (fun a => a) (fun _ => rfl) rfl (fun _ h => h) (slotR_in hz.out.1 HFR.out) (h8.out.ok.setTh HT2.out (h8.out.ok.th t _ HT2.out).1 rfl)
    have e1 : (m.ths.set t { th with calls := th.calls ++ [(th.pc, e, th.frame)] }).set t { th with calls := th.calls ++ [(th.pc, e, th.frame)], frame := y } = m.ths.set t { th with calls := th.calls ++ [(th.pc, e, th.frame)], frame := y } := List.set_set ..
    replace q1 : PS C (N + 1) K (w9.setCell ⟨b, 3, none⟩ (.int .i64 (y - stk t))) ps tb { m with ths := m.ths.set t { th with calls := th.calls ++ [(th.pc, e, th.frame)], frame := y } } := by rw [← e1]; exact q1
    have ht3 : (m.ths.set t { th with calls := th.calls ++ [(th.pc, e, th.frame)], frame := y })[t]? = some { th with calls := th.calls ++ [(th.pc, e, th.frame)], frame := y } := by rw [List.getElem?_set_self (List.getElem?_eq_some_iff.1 htt).1]
    have q2 := q1.goto ht3 hbb hat
    have e2 : (m.ths.set t { th with calls := th.calls ++ [(th.pc, e, th.frame)], frame := y }).set t { th with calls := th.calls ++ [(th.pc, e, th.frame)], frame := y, pc := at_ } = m.ths.set t { th with calls := th.calls ++ [(th.pc, e, th.frame)], frame := y, pc := at_ } := List.set_set ..
    rw [← e2]
    exact q2
end
end Go.Proofs.Ytpoepbmomfohlaa
namespace Go.Proofs.Ytpoepbmomfohlaa
open Go.RowKit
set_option linter.all false
section
variable {C : Ct} {N N' : Nat} {K : Nat → Obj → Prop} {w w' w1 : World} {ps : List Int} {tb tb' : List Nat} {m m' : Mc} {t b : Nat} {th th' : Th}
theorem rd_T (ht : m.ths[t]? = some th) {k y : Int} (hy : slotR th.frame t k = (y, true)) : m.rd t k = (some (m.mem y.toNat), m) := Mc.rd_some (by rw [fr_eq ht]; exact hy)
theorem rd_F (ht : m.ths[t]? = some th) {k y : Int} (hy : slotR th.frame t k = (y, false)) : m.rd t k = (none, m.fin y) := Mc.rd_none (by rw [fr_eq ht]; exact hy)
theorem wr_T (ht : m.ths[t]? = some th) {k y n : Int} (hy : slotR th.frame t k = (y, true)) : (m.wr t k n).1 = { m with mem := upd m.mem y.toNat n } := by unfold Mc.wr; rw [fr_eq ht, hy]; rfl
theorem wr_F (ht : m.ths[t]? = some th) {k y n : Int} (hy : slotR th.frame t k = (y, false)) : (m.wr t k n).1 = m.fin y := by unfold Mc.wr; rw [fr_eq ht, hy]; rfl
theorem sl_ne {k y fr : Int} (hy : slotR fr t k = (y, false)) : y ≠ 0 := by rcases slotR_false hy with ⟨-, rfl⟩ | ⟨-, -, rfl⟩ <;> decide
theorem goto_T (ht : m.ths[t]? = some th) {pc : Int} : m.goto t pc = { m with ths := m.ths.set t { th with pc := pc } } := by unfold Mc.goto; rw [ht]
theorem upd_lo {mem : Nat → Int} {n : Nat} {g : Int} : ∀ a, a < (n + 1) * 4194304 → upd mem ((n + 1) * 4194304) g a = mem a := fun a ha => by
  unfold upd
  rw [if_neg (Nat.ne_of_lt ha)]
theorem upd_hi {mem : Nat → Int} {n : Nat} {g : Int} (hz : ∀ a, (n + 1) * 4194304 ≤ a → mem a = 0) : ∀ a, (n + 2) * 4194304 ≤ a → upd mem ((n + 1) * 4194304) g a = 0 := fun a ha => by
  have h1 : (n + 1) * 4194304 < (n + 2) * 4194304 := Nat.mul_lt_mul_of_pos_right (Nat.lt_succ_self _) (by decide)
  have h2 := Nat.lt_of_lt_of_le h1 ha
  unfold upd
  rw [if_neg (Nat.ne_of_gt h2)]
  exact hz a (Nat.le_of_lt h2)
set_option maxRecDepth 100000 in
set_option maxHeartbeats 1000000 in
theorem begin_c (h : PS C N K w ps tb m) (hlen : m.ths.length < 12) {at_ g : Int} (hat : I64 at_) (hg : I64 g) : Calls Try.prog 10 #[ptr C.mb, .int .i64 at_, .int .i64 g] w (fun e w' => e = .returned (.tuple #[]) ∧ ∃ b, PS C N K w' ps (tb ++ [b]) { m with ths := m.ths ++ [Th.new at_ (stk m.ths.length)], mem := upd m.mem ((m.ths.length + 1) * 4194304) g }) := by
  obtain ⟨o, c, k4, -⟩ := h.row
  have lm := h.size
  have P0 := PN.start h at_
  have HZ : Hid (∀ a, (m.ths.length + 1) * 4194304 ≤ a → m.mem a = 0) := by
    obtain ⟨pv, own, L, hp, hk⟩ := h.pr
    exact hp.hz
  have HO : Hid (OKM N { m with ths := m.ths ++ [Th.new at_ (stk m.ths.length)], mem := upd m.mem ((m.ths.length + 1) * 4194304) g }) := (h.ok.mem' hg _).spawn hat
  have HL : Hid (m.ths.length < 12) := hlen
  have S1 := P0.set 0 (by decide) g
  simp only [Nat.add_zero] at S1
  clear h hat hg P0
  go_enter Try.func10, Try.ntmps10
  go_upto_region 2 with (go_at_call 17; refine S1.mono ?_; rintro e w2 ⟨rfl, h2⟩)
  obtain ⟨o2, c2, u4, hap⟩ := h2.done (upd_lo) (upd_hi HZ.out) HL.out HO.out
  have lm2 : C.mb < w2.heap.size := by
    obtain ⟨pv, own, L, l, hp, -⟩ := h2.pr
    exact hp.lt
  have AP : Hid _ := fun ty => hap ty rfl
  clear hap h2 S1 k4 lm
  go_wp2_with (at_builtin; refine wp_runG 39 (by rfl) (by rfl) (by rfl) (by rfl) (AP.out _) ?_; rintro v1 w3 ⟨⟨o3, c3, rfl⟩, ⟨u, z4⟩, f4, l3, h3⟩)
  go_end0
  exact ⟨rfl, _, h3⟩
set_option maxRecDepth 100000 in
set_option maxHeartbeats 1000000 in
theorem spawn_c (h : PS C N K w ps tb m) {at_ g : Int} (hat : I64 at_) (hg : I64 g) : Calls Try.prog 41 #[ptr C.mb, .int .i64 at_, .int .i64 g] w (fun e w' => (Hid (m.ths.length = 12) ∧ e = thr 6 ∧ PS C N K w' ps tb m) ∨ (Hid (m.ths.length ≠ 12) ∧ e = .returned (.tuple #[]) ∧ ∃ b, PS C N K w' ps (tb ++ [b]) { m with ths := m.ths ++ [Th.new at_ (stk m.ths.length)], mem := upd m.mem ((m.ths.length + 1) * 4194304) g })) := by
  obtain ⟨o, c, k4, -⟩ := h.row
  have lm := h.size
  have hfew := h.few
  obtain ⟨n, hn⟩ : ∃ n, n = m.ths.length := ⟨_, rfl⟩
  rw [← hn] at k4
  by_cases h12 : m.ths.length = 12
  · have H12 : Hid (m.ths.length = 12) := h12
    have HH : Hid (PS C N K w ps tb m) := h
    obtain rfl : n = 12 := by omega
    clear h hat hg h12 hfew hn
    go_enter Try.func41, Try.ntmps41
    go_wp2_with fail
    exact ⟨rfl, .inl ⟨H12.out, rfl, HH.out⟩⟩
  · have H12 : Hid (m.ths.length ≠ 12) := h12
    have S1 := begin_c h (by omega) hat hg
    have hn2 : ((n : Int) == 12) = false := by simp; omega
    have hn3 : ¬ (n : Int) = 12 := by omega
    clear h hat hg h12 hfew hn
    go_enter Try.func41, Try.ntmps41
    go_wp2_with (go_at_call 10; refine S1.mono ?_; rintro e w2 ⟨rfl, b, h2⟩)
    go_end0
    exact .inr ⟨H12.out, rfl, b, h2⟩
end
end Go.Proofs.Ytpoepbmomfohlaa
namespace Go.Proofs.Ytpoepbmomfohlaa
open Go.RowKit
set_option linter.all false
section
variable {C : Ct} {N N' : Nat} {K : Nat → Obj → Prop} {w w' w1 : World} {ps : List Int} {tb tb' : List Nat} {m m' : Mc} {t b : Nat} {th th' : Th}
set_option maxRecDepth 100000 in
set_option maxHeartbeats 1000000 in
theorem stop_1 (h : PS C N K w ps tb m) (ht : m.ths[t]? = some th) (hb : tb[t]? = some b) {cb f : Nat} {x : Mi} (hI : IN C cb f x) (hx : x.ok) (h0 : m.how = 0) (hd : x.d = 1) : Calls Try.prog 42 #[ptr b, .pointer (some ⟨cb, f, none⟩)] w (StP C N K ps (m.spM t th x)) := by
  have HI : Hid (∀ {N : Nat} {W : World} {m : Mc} {tb : List Nat}, PS C N K W ps tb m → W.cell? ⟨cb, f, none⟩ = some (.int .i64 x.op) ∧ W.cell? ⟨cb, f + 1, none⟩ = some (.int .i64 x.a) ∧ W.cell? ⟨cb, f + 2, none⟩ = some (.int .i64 x.b) ∧ W.cell? ⟨cb, f + 3, none⟩ = some (.int .i64 x.c) ∧ W.cell? ⟨cb, f + 4, none⟩ = some (.int .i64 x.d) ∧ W.cell? ⟨cb, f + 5, none⟩ = some (.int .i64 x.e) ∧ cb < W.heap.size) := fun {N W m tb} h => h.insc hI
  have HT : Hid (∀ {N : Nat} {W : World} {m : Mc}, PS C N K W ps tb m → m.ths[t]? = some th → W.cell? ⟨b, 0, none⟩ = some (ptr C.mb) ∧ b < W.heap.size ∧ C.mb < W.heap.size ∧ (∀ o, W.frozen? ⟨b, o, none⟩ = false) ∧ (∀ o, W.frozen? ⟨C.mb, o, none⟩ = false) ∧ W.cell? ⟨C.mb, 6, none⟩ = some (.int .i64 m.value) ∧ W.cell? ⟨C.mb, 5, none⟩ = some (.bool m.failed) ∧ W.cell? ⟨b, 8, none⟩ = some (.bool th.over)) := fun {N W m} h ht => by
    obtain ⟨at_, hat, c0, c1, c3, c5, c6, c7, c8, lb, fz, f0, f1⟩ := h.thr ht hb
    obtain ⟨k0, k2, k5, k6, k7, lm, fm⟩ := h.mch
    exact ⟨c0, lb, lm, fz, fm, k6, k5, c8⟩
  obtain ⟨y0, y1, y2, y3, y4, y5, yl⟩ := HI.out h
  obtain ⟨z0, zb, zm, zf, zg, z6, z5, z8⟩ := HT.out h ht
  rw [hd] at y4
  have HX : Hid (m.ths[t]? = some th ∧ tb[t]? = some b ∧ x.ok ∧ m.how = 0 ∧ x.d = 1) := ⟨ht, hb, hx, h0, hd⟩
  have R1 := read_c h.drew ht hb hx.2.1
  clear h hI hx h0 hd ht hb
  go_enter Try.func42, Try.ntmps42
  go_wp2_with fail
  go_region_with (go_at_call 23; refine R1.mono ?_; rintro e w2 (⟨y, z, hz, rfl, h2⟩ | ⟨y, hy, rfl, h2⟩); rotate_left; exact ⟨rfl, by
      have e1 : m.spM t th x = m.fin y := by unfold Mc.spM; rw [if_pos HX.out.2.2.2.2, rd_F HX.out.1 hy.out]
      rw [e1]
      exact StP.no h2 HX.out.2.2.2.1 (sl_ne hy.out)⟩; obtain ⟨v0, vb, vm, vf, vg, v6, v5, v8⟩ := HT.out h2 HX.out.1; obtain ⟨u0, u1, u2, u3, u4, u5, ul⟩ := HI.out h2; have vg6 := vg 6)
  all_goals
    have q := h2.value (m.mem y.toNat)
    generalize w2.setCell ⟨C.mb, 6, none⟩ (.int .i64 (m.mem y.toNat)) = w3 at *
    obtain ⟨r0, rb, rm, rf, rg, r6, r5, r8⟩ := HT.out q HX.out.1
    have rf8 := rf 8
    have HQ : Hid _ := q
    clear q rf rg
    go_wp2_with fail
    go_end0
    have e1 : m.spM t th x = { m with value := m.mem y.toNat }.setT t { th with over := true } := by unfold Mc.spM; rw [if_pos HX.out.2.2.2.2, rd_T HX.out.1 hz.out.1]
    rw [e1]
    exact StP.ok (HQ.out.over HX.out.1 HX.out.2.1) HX.out.2.2.2.1
set_option maxRecDepth 100000 in
set_option maxHeartbeats 1000000 in
theorem stop_2 (h : PS C N K w ps tb m) (ht : m.ths[t]? = some th) (hb : tb[t]? = some b) {cb f : Nat} {x : Mi} (hI : IN C cb f x) (h0 : m.how = 0) (hd : x.d = 2) : Calls Try.prog 42 #[ptr b, .pointer (some ⟨cb, f, none⟩)] w (StP C N K ps (m.spM t th x)) := by
  have HI : Hid (∀ {N : Nat} {W : World} {m : Mc} {tb : List Nat}, PS C N K W ps tb m → W.cell? ⟨cb, f, none⟩ = some (.int .i64 x.op) ∧ W.cell? ⟨cb, f + 1, none⟩ = some (.int .i64 x.a) ∧ W.cell? ⟨cb, f + 2, none⟩ = some (.int .i64 x.b) ∧ W.cell? ⟨cb, f + 3, none⟩ = some (.int .i64 x.c) ∧ W.cell? ⟨cb, f + 4, none⟩ = some (.int .i64 x.d) ∧ W.cell? ⟨cb, f + 5, none⟩ = some (.int .i64 x.e) ∧ cb < W.heap.size) := fun {N W m tb} h => h.insc hI
  have HT : Hid (∀ {N : Nat} {W : World} {m : Mc}, PS C N K W ps tb m → m.ths[t]? = some th → W.cell? ⟨b, 0, none⟩ = some (ptr C.mb) ∧ b < W.heap.size ∧ C.mb < W.heap.size ∧ (∀ o, W.frozen? ⟨b, o, none⟩ = false) ∧ (∀ o, W.frozen? ⟨C.mb, o, none⟩ = false) ∧ W.cell? ⟨C.mb, 6, none⟩ = some (.int .i64 m.value) ∧ W.cell? ⟨C.mb, 5, none⟩ = some (.bool m.failed) ∧ W.cell? ⟨b, 8, none⟩ = some (.bool th.over)) := fun {N W m} h ht => by
    obtain ⟨at_, hat, c0, c1, c3, c5, c6, c7, c8, lb, fz, f0, f1⟩ := h.thr ht hb
    obtain ⟨k0, k2, k5, k6, k7, lm, fm⟩ := h.mch
    exact ⟨c0, lb, lm, fz, fm, k6, k5, c8⟩
  obtain ⟨y0, y1, y2, y3, y4, y5, yl⟩ := HI.out h
  obtain ⟨z0, zb, zm, zf, zg, z6, z5, z8⟩ := HT.out h ht
  rw [hd] at y4
  have zg5 := zg 5
  have HX : Hid (m.ths[t]? = some th ∧ tb[t]? = some b ∧ m.how = 0 ∧ x.d = 2) := ⟨ht, hb, h0, hd⟩
  have q := h.failed
  have HW3 : Hid (∀ W, W = w.setCell ⟨C.mb, 5, none⟩ (.bool true) → PS C N K W ps tb { m with failed := true }) := fun W e => e ▸ q
  clear h hI h0 hd ht hb zf zg q
  go_enter Try.func42, Try.ntmps42
  go_upto_region 5 with fail
  generalize hW : w.setCell ⟨C.mb, 5, none⟩ (.bool true) = w3 at *
  have q := HW3.out w3 rfl
  obtain ⟨r0, rb, rm, rf, rg, r6, r5, r8⟩ := HT.out q HX.out.1
  have rf8 := rf 8
  have HQ : Hid _ := q
  clear q rf rg hW
  go_wp2_with fail
  go_end0
  have e1 : m.spM t th x = { m with failed := true }.setT t { th with over := true } := by unfold Mc.spM; rw [if_neg (by rw [HX.out.2.2.2]; decide), if_pos HX.out.2.2.2]
  rw [e1]
  exact StP.ok (HQ.out.over HX.out.1 HX.out.2.1) HX.out.2.2.1
set_option maxRecDepth 100000 in
set_option maxHeartbeats 1000000 in
theorem stop_0 (h : PS C N K w ps tb m) (ht : m.ths[t]? = some th) (hb : tb[t]? = some b) {cb f : Nat} {x : Mi} (hI : IN C cb f x) (h0 : m.how = 0) (hd1 : x.d ≠ 1) (hd2 : x.d ≠ 2) : Calls Try.prog 42 #[ptr b, .pointer (some ⟨cb, f, none⟩)] w (StP C N K ps (m.spM t th x)) := by
  have HI : Hid (∀ {N : Nat} {W : World} {m : Mc} {tb : List Nat}, PS C N K W ps tb m → W.cell? ⟨cb, f, none⟩ = some (.int .i64 x.op) ∧ W.cell? ⟨cb, f + 1, none⟩ = some (.int .i64 x.a) ∧ W.cell? ⟨cb, f + 2, none⟩ = some (.int .i64 x.b) ∧ W.cell? ⟨cb, f + 3, none⟩ = some (.int .i64 x.c) ∧ W.cell? ⟨cb, f + 4, none⟩ = some (.int .i64 x.d) ∧ W.cell? ⟨cb, f + 5, none⟩ = some (.int .i64 x.e) ∧ cb < W.heap.size) := fun {N W m tb} h => h.insc hI
  have HT : Hid (∀ {N : Nat} {W : World} {m : Mc}, PS C N K W ps tb m → m.ths[t]? = some th → W.cell? ⟨b, 0, none⟩ = some (ptr C.mb) ∧ b < W.heap.size ∧ C.mb < W.heap.size ∧ (∀ o, W.frozen? ⟨b, o, none⟩ = false) ∧ (∀ o, W.frozen? ⟨C.mb, o, none⟩ = false) ∧ W.cell? ⟨C.mb, 6, none⟩ = some (.int .i64 m.value) ∧ W.cell? ⟨C.mb, 5, none⟩ = some (.bool m.failed) ∧ W.cell? ⟨b, 8, none⟩ = some (.bool th.over)) := fun {N W m} h ht => by
    obtain ⟨at_, hat, c0, c1, c3, c5, c6, c7, c8, lb, fz, f0, f1⟩ := h.thr ht hb
    obtain ⟨k0, k2, k5, k6, k7, lm, fm⟩ := h.mch
    exact ⟨c0, lb, lm, fz, fm, k6, k5, c8⟩
  obtain ⟨y0, y1, y2, y3, y4, y5, yl⟩ := HI.out h
  obtain ⟨z0, zb, zm, zf, zg, z6, z5, z8⟩ := HT.out h ht
  have zf8 := zf 8
  have HX : Hid (m.ths[t]? = some th ∧ tb[t]? = some b ∧ m.how = 0 ∧ x.d ≠ 1 ∧ x.d ≠ 2) := ⟨ht, hb, h0, hd1, hd2⟩
  have HQ : Hid (PS C N K w ps tb m) := h
  have e1 : (x.d == 1) = false := by simpa using hd1
  have e2 : (x.d == 2) = false := by simpa using hd2
  clear h hI h0 hd1 hd2 ht hb zf zg
  go_enter Try.func42, Try.ntmps42
  go_wp2_with fail
  go_end0
  have e1 : m.spM t th x = m.setT t { th with over := true } := by unfold Mc.spM; rw [if_neg HX.out.2.2.2.1, if_neg HX.out.2.2.2.2]
  rw [e1]
  exact StP.ok (HQ.out.over HX.out.1 HX.out.2.1) HX.out.2.2.1
end
end Go.Proofs.Ytpoepbmomfohlaa
