/- The project's machine: MOut. -/
import Derived.Test.YtpoepbmomfohlaaPnk
namespace Go.Proofs.Ytpoepbmomfohlaa
open Go.RowKit
set_option linter.all false
section
variable {C : Ct} {N N' : Nat} {K : Nat → Obj → Prop} {w w' w1 : World} {ps : List Int} {tb tb' : List Nat} {m m' : Mc} {t b : Nat} {th th' : Th}
theorem ou_F (ht : m.ths[t]? = some th) {x : Mi} {y : Int} (hy : slotR th.frame t x.a = (y, false)) : m.ouM t x = m.fin y := by unfold Mc.ouM; rw [rd_F ht hy]
theorem ou_T (ht : m.ths[t]? = some th) {x : Mi} {y : Int} (hy : slotR th.frame t x.a = (y, true)) : m.ouM t x = { m with outs := m.outs ++ [m.mem y.toNat] } := by unfold Mc.ouM; rw [rd_T ht hy]
theorem PS.ne (h : PS C N K w ps tb m) (ht : m.ths[t]? = some th) (hb : tb[t]? = some b) {cb f : Nat} {x : Mi} (hI : IN C cb f x) : b ≠ C.mb ∧ cb ≠ C.mb := by
  obtain ⟨pv, own, L, hp, hk⟩ := h.pr
  obtain ⟨l, T⟩ := hp.th t b th ht hb
  refine ⟨fun e => ?_, fun e => ?_⟩
  · have := T.otb
    rw [e, hp.omb] at this
    simp at this
  · have h1 := (hp.ow.olt C.mb (by rw [hp.omb]; simp)).1
    have := hI.lt
    omega
def SlB (w : World) (t : Nat) (th : Th) (k : Int) (f : Int → Nat → Value) (e : Ending) (w' : World) : Prop := (∃ (y : Int) (z : Nat), Hid (slotR th.frame t k = (y, true) ∧ y - stk t = (z : Int) ∧ z < 4194304 ∧ y.toNat = (t + 1) * 4194304 + z) ∧ e = .returned (f y z) ∧ Below w.heap.size w w') ∨ (∃ y : Int, Hid (slotR th.frame t k = (y, false)) ∧ e = thr y ∧ Below w.heap.size w w')
theorem slot_b (h : PS C N K w ps tb m) (ht : m.ths[t]? = some th) (hb : tb[t]? = some b) {k : Int} (hk : I64 k) : Calls Try.prog 33 #[ptr b, .int .i64 k] w (SlB w t th k (fun _ z => .int .i64 z)) := by
  rcases slot_cases th.frame t k with ⟨y, hy⟩ | ⟨y, hy⟩
  · obtain ⟨z, hz, hz1, hz2⟩ := h.slotN ht hb hy
    refine (slot_p h ht hb hk hy).mono ?_
    rintro e w' ⟨rfl, j, rfl⟩
    exact .inl ⟨y, z, ⟨hy, hz, hz1, hz2⟩, by rw [hz], below_dN (Below.refl _ _) j⟩
  · refine (slot_q h ht hb hk hy).mono ?_
    rintro e w' ⟨rfl, hb2⟩
    exact .inr ⟨y, hy, rfl, hb2⟩
set_option maxRecDepth 100000 in
set_option maxHeartbeats 1000000 in
theorem read_b (h : PS C N K w ps tb m) (ht : m.ths[t]? = some th) (hb : tb[t]? = some b) {k : Int} (hk : I64 k) : Calls Try.prog 23 #[ptr b, .int .i64 k] w (SlB w t th k (fun y _ => .int .i64 (m.mem y.toNat))) := by
  have R1 : Hid (Calls Try.prog 33 #[ptr b, .int .i64 k] w.drew (SlB w.drew t th k (fun _ z => .int .i64 z))) := slot_b h.drew ht hb hk
  have HTB : Hid (m.ths[t]? = some th ∧ tb[t]? = some b) := ⟨ht, hb⟩
  have HH : Hid (PS C N K w ps tb m) := h
  clear h ht hb
  go_enter Try.func23, Try.ntmps23
  go_upto_region 1 with fail
  go_region_with (first | (go_at_call 34; refine ((HH.out.below (bel_drew h2)).getT HTB.out.1 HTB.out.2 z hz.out.2.2.1).mono ?_; rintro e w3 ⟨rfl, j, rfl⟩; have h3 := below_dN (bel_drew h2) j; generalize w2.drewN j = w3 at h3 ⊢) | (go_at_call 33; refine R1.out.mono ?_; rintro e w2 (⟨y, z, hz, rfl, h2⟩ | ⟨y, hy, rfl, h2⟩); rotate_left; exact ⟨rfl, .inr ⟨y, hy, rfl, bel_drew h2⟩⟩))
  all_goals
    go_wp2_with fail
    go_ret
    exact .inl ⟨y, z, hz, by show _ = Ending.returned (.int .i64 (m.mem y.toNat)); rw [hz.out.2.2.2]; rfl, h3⟩
set_option maxRecDepth 100000 in
set_option maxHeartbeats 1000000 in
theorem st_18 (h : PS C N K w ps tb m) (ht : m.ths[t]? = some th) (hb : tb[t]? = some b) {x : Mi} (hok : x.ok) (h0 : m.how = 0) (ha : th.abo = false) (hx : insAt C.code th.pc = (x, true)) (hop : x.op = 18) (hN : N + 1 ≤ 1000000) : Calls Try.prog 14 #[ptr b] w (StP C (N + 1) K ps ((m.setT t { th with pc := th.pc + 1 }).exec t { th with pc := th.pc + 1 } x)) := by
  obtain ⟨th1, hth1⟩ : ∃ th1, th1 = { th with pc := th.pc + 1 } := ⟨_, rfl⟩
  obtain ⟨m1, hm1⟩ : ∃ m1, m1 = m.setT t th1 := ⟨_, rfl⟩
  rw [← hth1, ← hm1]
  obtain ⟨at_, hat, c0, c1, c3, c5, c6, c7, c8, lb, fz, f0, f1⟩ := h.thr ht hb
  have fz5 := fz 5
  rw [hat ha] at c5
  have D1 := due_x h ht hb ha hx
  have hpc := insAt_true (code := C.code) (pc := th.pc) (by rw [hx])
  have hcf := h.cd.few
  have hwp : wrap64 (th.pc + 1) = th.pc + 1 := wrap_id (by omega) (by omega)
  rw [ha] at c7
  have HP : Hid (∀ {W : World}, PS C N K W ps tb m → PS C N K (W.setCell ⟨b, 5, none⟩ (.int .i64 (th.pc + 1))) ps tb m1) := fun {W} h => by
    rw [hm1, hth1]
    exact h.goto ht hb ⟨by omega, by omega⟩
  have HC5 : Hid (∀ {W : World}, PS C N K W ps tb m → W.cell? ⟨b, 5, none⟩ = some (.int .i64 th.pc) ∧ W.frozen? ⟨b, 5, none⟩ = false ∧ b < W.heap.size) := fun {W} h => by
    obtain ⟨at_, hat, c0, c1, c3, c5, c6, c7, c8, lb, fz, f0, f1⟩ := h.thr ht hb
    rw [hat ha] at c5
    exact ⟨c5, fz 5, lb⟩
  have HX : Hid (m1.ths[t]? = some th1 ∧ tb[t]? = some b ∧ x.ok ∧ m1.how = 0 ∧ th1.abo = false ∧ N + 1 ≤ 1000000 ∧ 1 ≤ th1.pc ∧ th1.pc ≤ C.code.length ∧ (insAt C.code (th1.pc - 1)).1.e = x.e) := ⟨by rw [hm1]; show (m.ths.set t th1)[t]? = _; rw [List.getElem?_set_self (List.getElem?_eq_some_iff.1 ht).1], hb, hok, by rw [hm1]; exact h0, by rw [hth1]; exact ha, hN, by rw [hth1]; show 1 ≤ th.pc + 1; omega, by rw [hth1]; show th.pc + 1 ≤ _; omega, by rw [hth1]; show (insAt C.code (th.pc + 1 - 1)).1.e = _; rw [show th.pc + 1 - 1 = th.pc by omega, hx]⟩
  have HIc : Hid (∀ {N : Nat} {W : World} {m : Mc} {tb : List Nat} {cb f : Nat}, PS C N K W ps tb m → IN C cb f x → W.cell? ⟨cb, f, none⟩ = some (.int .i64 x.op) ∧ W.cell? ⟨cb, f + 1, none⟩ = some (.int .i64 x.a) ∧ W.cell? ⟨cb, f + 2, none⟩ = some (.int .i64 x.b) ∧ W.cell? ⟨cb, f + 3, none⟩ = some (.int .i64 x.c) ∧ W.cell? ⟨cb, f + 4, none⟩ = some (.int .i64 x.d) ∧ W.cell? ⟨cb, f + 5, none⟩ = some (.int .i64 x.e) ∧ cb < W.heap.size) := fun h i => h.insc i
  have HBl : Hid (∀ {N : Nat} {W : World} {m : Mc}, PS C N K W ps tb m → m.ths[t]? = some th1 → W.cell? ⟨b, 0, none⟩ = some (ptr C.mb) ∧ b < W.heap.size ∧ C.mb < W.heap.size) := fun {N W m} h ht => by
    obtain ⟨at_, hat, c0, c1, c3, c5, c6, c7, c8, lb, fz, f0, f1⟩ := h.thr ht hb
    exact ⟨c0, lb, h.size⟩
  rw [hop] at HIc
  have HOP : Hid (x.op = 18) := hop
  clear h ht hb hok h0 ha hx hN hat c0 c1 c3 c6 c8 fz f0 f1 hcf hpc hop hm1 hth1
  go_enter Try.func14, Try.ntmps14
  go_upto_region 6 with (go_at_call 21; refine D1.mono ?_; rintro e w2 ⟨h2, cb, f, hI, rfl⟩; obtain ⟨v5, vf5, vl⟩ := HC5.out h2)
  replace h2 := HP.out h2
  generalize w2.setCell ⟨b, 5, none⟩ (.int .i64 (th.pc + 1)) = w3 at *
  clear v5 vf5 vl c5 c7 fz5 lb hwp D1
  obtain ⟨q0, q1, q2, q3, q4, q5, ql⟩ := HIc.out h2 hI.out
  obtain ⟨z0, zb, zm⟩ := HBl.out h2 HX.out.1
  have SOF : Hid (∀ {N : Nat} {W : World} {m : Mc}, PS C N K W ps tb m → m.ths[t]? = some th1 → (fun W => W.cell? ⟨cb, f + 1, none⟩ = some (.int .i64 x.a) ∧ W.cell? ⟨b, 0, none⟩ = some (ptr C.mb) ∧ b < W.heap.size ∧ cb < W.heap.size ∧ C.mb < W.heap.size) W) := fun {N W m} h ht => by
    obtain ⟨q0, q1, q2, q3, q4, q5, ql⟩ := HIc.out h hI.out
    obtain ⟨z0, zb, zm⟩ := HBl.out h ht
    exact ⟨q1, z0, zb, ql, zm⟩
  have SS0 := SOF.out h2.drew HX.out.1
  have HNE := h2.ne HX.out.1 HX.out.2.1 hI.out
  have SSA : Hid (∀ {W : World}, (fun W => W.cell? ⟨cb, f + 1, none⟩ = some (.int .i64 x.a) ∧ W.cell? ⟨b, 0, none⟩ = some (ptr C.mb) ∧ b < W.heap.size ∧ cb < W.heap.size ∧ C.mb < W.heap.size) W → ∀ o, (fun W => W.cell? ⟨cb, f + 1, none⟩ = some (.int .i64 x.a) ∧ W.cell? ⟨b, 0, none⟩ = some (ptr C.mb) ∧ b < W.heap.size ∧ cb < W.heap.size ∧ C.mb < W.heap.size) (W.alloc o)) := fun {W} h o => ⟨((al1 W o).1.cell (p := ⟨cb, f + 1, none⟩) h.2.2.2.1).trans h.1, ((al1 W o).1.cell (p := ⟨b, 0, none⟩) h.2.2.1).trans h.2.1, Nat.lt_of_lt_of_le h.2.2.1 (al1 W o).1.size, Nat.lt_of_lt_of_le h.2.2.2.1 (al1 W o).1.size, Nat.lt_of_lt_of_le h.2.2.2.2 (al1 W o).1.size⟩
  have SSB : Hid (∀ {W : World} {u : Value}, (fun W => W.cell? ⟨cb, f + 1, none⟩ = some (.int .i64 x.a) ∧ W.cell? ⟨b, 0, none⟩ = some (ptr C.mb) ∧ b < W.heap.size ∧ cb < W.heap.size ∧ C.mb < W.heap.size) (W.setCell ⟨C.mb, 8, none⟩ u) → (fun W => W.cell? ⟨cb, f + 1, none⟩ = some (.int .i64 x.a) ∧ W.cell? ⟨b, 0, none⟩ = some (ptr C.mb) ∧ b < W.heap.size ∧ cb < W.heap.size ∧ C.mb < W.heap.size) W) := fun {W u} h => ⟨(World.cell?_of_block (a := ⟨cb, f + 1, none⟩) (Below.heap_setCell _ ⟨C.mb, 8, none⟩ _ _ HNE.2)).symm.trans h.1, (World.cell?_of_block (a := ⟨b, 0, none⟩) (Below.heap_setCell _ ⟨C.mb, 8, none⟩ _ _ HNE.1)).symm.trans h.2.1, by simpa using h.2.2.1, by simpa using h.2.2.2.1, by simpa using h.2.2.2.2⟩
  have H2D : Hid (PS C N K w3.drew ps tb m1) := h2.drew
  have RB := read_b h2.drew HX.out.1 HX.out.2.1 HX.out.2.2.1.2.1
  have hou := h2.ok.outs
  obtain ⟨o, c, k8, -⟩ := (h2.drew.up HX.out.2.2.2.2.2.1).out 0 (by omega)
  have k8' : w3.cell? ⟨C.mb, 8, none⟩ = some (.slice o m1.outs.length c) := k8
  have APP : Hid (∀ {W : World}, Below w3.drew.heap.size w3.drew W → ∀ n : Int, W.cell? ⟨C.mb, 8, none⟩ = some (.slice o m1.outs.length c) ∧ ∀ (ty : TypeId) {ad : Nat} (had : ad = W.heap.size), ∃ v' w1, (Builtin.append_ #[23, 23] ty #[.slice o m1.outs.length c, .slice (some ⟨ad, 0, none⟩) 1 1]).run Try.prog (W.alloc (.cells #[.int .i64 n] 3)) = .ok v' w1 ∧ (∃ o' c', v' = .slice o' (m1.outs.length + 1) c') ∧ (∃ u, w1.cell? ⟨C.mb, 8, none⟩ = some u) ∧ w1.frozen? ⟨C.mb, 8, none⟩ = false ∧ C.mb < w1.heap.size ∧ PS C (N + 1) K (w1.setCell ⟨C.mb, 8, none⟩ v') ps tb { m1 with outs := m1.outs ++ [n] }) := fun {W} hW n => by
    obtain ⟨o', c', k', law⟩ := ((H2D.out.below hW).up HX.out.2.2.2.2.2.1).out n (by omega)
    have e := (hW.cell (p := ⟨C.mb, 8, none⟩) H2D.out.size).trans k8
    have e2 := k'.symm.trans e
    simp at e2
    obtain ⟨rfl, rfl⟩ := e2
    exact ⟨k', law⟩
  clear k8 hou HNE h2
  go_wp2_with fail
  refine wp_region_held_drew (S := fun W => W.cell? ⟨cb, f + 1, none⟩ = some (.int .i64 x.a) ∧ W.cell? ⟨b, 0, none⟩ = some (ptr C.mb) ∧ b < W.heap.size ∧ cb < W.heap.size ∧ C.mb < W.heap.size) (by as_aux_lemma => kernel_rfl) SS0 (fun hHeld => ?_)
  refine rtk 0 ?_
  refine rtk 1 ?_
  refine rtk 2 ?_
  refine rtk 3 ?_
  refine rtk 4 ?_
  refine rtk 5 ?_
  refine rtk 6 ?_
  refine rtk 7 ?_
  refine rtk 8 ?_
  refine rtk 9 ?_
  refine rtk 11 ?_
  refine rtk 12 ?_
  refine rtk 13 ?_
  refine rtk 14 ?_
  refine rtk 15 ?_
  refine rr2 10 16 (fun K hK => ?_) (fun K hK => ?_)
  · go_simp
    refine rgo hK ?_ (hS := by first | exact SS0 | exact SS1 | exact SS2 | exact SS3 | exact SS4)
    clear hK K hHeld
    intro hHeld
    refine rr1 16 (fun K hK => ?_)
    go_simp
    refine RB.mono ?_
    rintro e w4 (⟨y4, z4, hz4, rfl, hb4⟩ | ⟨y4, hy4, rfl, hb4⟩)
    rotate_left
    · exact ⟨rfl, by rw [ex_18 HOP.out, ou_F HX.out.1 hy4.out]; exact StP.no ((H2D.out.below hb4).up HX.out.2.2.2.2.2.1) HX.out.2.2.2.1 (sl_ne hy4.out)⟩
    have SS1 := SOF.out (H2D.out.below hb4) HX.out.1
    obtain ⟨k84, APw⟩ := APP.out hb4 (m1.mem y4.toNat)
    replace APw : Hid _ := APw
    have SS2 := SSA.out SS1 (.cells #[.int .i64 (m1.mem y4.toNat)] 3)
    refine rgo hK ?_ (hS := by first | exact SS0 | exact SS1 | exact SS2 | exact SS3 | exact SS4)
    clear hK K hHeld
    intro hHeld
    refine rr1 17 (fun K hK => ?_)
    go_simp
    refine rgo hK ?_ (hS := by first | exact SS0 | exact SS1 | exact SS2 | exact SS3 | exact SS4)
    clear hK K hHeld
    intro hHeld
    refine rr1 18 (fun K hK => ?_)
    refine step_runG 23 (by rfl) (by rfl) (by rfl) (by rfl) (APw.out _ rfl) ?_
    rintro v8 w8 ⟨⟨o8, c8, rfl⟩, ⟨u8, c84⟩, f84, l8, h8⟩
    have SS4 := SOF.out h8 HX.out.1
    have SS3 := SSB.out SS4
    refine rgo hK ?_ (hS := by first | exact SS0 | exact SS1 | exact SS2 | exact SS3 | exact SS4)
    clear hK K hHeld
    intro hHeld
    refine rtk 19 ?_
    refine rtk 20 ?_
    refine rr1 21 (fun K hK => ?_)
    go_simp
    refine rgo hK ?_ (hS := by first | exact SS0 | exact SS1 | exact SS2 | exact SS3 | exact SS4)
    clear hK K hHeld
    intro hHeld
    refine wpAnyH_done (by as_aux_lemma => kernel_rfl) ?_ _
    replace h8 : Hid _ := h8
    go_wp2_with fail
    go_end0
    rw [ex_18 HOP.out, ou_T HX.out.1 hz4.out.1]
    exact StP.ok h8.out HX.out.2.2.2.1
  · go_simp
    refine RB.mono ?_
    rintro e w4 (⟨y4, z4, hz4, rfl, hb4⟩ | ⟨y4, hy4, rfl, hb4⟩)
    rotate_left
    · exact ⟨rfl, by rw [ex_18 HOP.out, ou_F HX.out.1 hy4.out]; exact StP.no ((H2D.out.below hb4).up HX.out.2.2.2.2.2.1) HX.out.2.2.2.1 (sl_ne hy4.out)⟩
    have SS1 := SOF.out (H2D.out.below hb4) HX.out.1
    obtain ⟨k84, APw⟩ := APP.out hb4 (m1.mem y4.toNat)
    replace APw : Hid _ := APw
    have SS2 := SSA.out SS1 (.cells #[.int .i64 (m1.mem y4.toNat)] 3)
    refine rgo hK ?_ (hS := by first | exact SS0 | exact SS1 | exact SS2 | exact SS3 | exact SS4)
    clear hK K hHeld
    intro hHeld
    refine rr2 10 17 (fun K hK => ?_) (fun K hK => ?_)
    · go_simp
      refine rgo hK ?_ (hS := by first | exact SS0 | exact SS1 | exact SS2 | exact SS3 | exact SS4)
      clear hK K hHeld
      intro hHeld
      refine rr1 17 (fun K hK => ?_)
      go_simp
      refine rgo hK ?_ (hS := by first | exact SS0 | exact SS1 | exact SS2 | exact SS3 | exact SS4)
      clear hK K hHeld
      intro hHeld
      refine rr1 18 (fun K hK => ?_)
      refine step_runG 23 (by rfl) (by rfl) (by rfl) (by rfl) (APw.out _ rfl) ?_
      rintro v8 w8 ⟨⟨o8, c8, rfl⟩, ⟨u8, c84⟩, f84, l8, h8⟩
      have SS4 := SOF.out h8 HX.out.1
      have SS3 := SSB.out SS4
      refine rgo hK ?_ (hS := by first | exact SS0 | exact SS1 | exact SS2 | exact SS3 | exact SS4)
      clear hK K hHeld
      intro hHeld
      refine rtk 19 ?_
      refine rtk 20 ?_
      refine rr1 21 (fun K hK => ?_)
      go_simp
      refine rgo hK ?_ (hS := by first | exact SS0 | exact SS1 | exact SS2 | exact SS3 | exact SS4)
      clear hK K hHeld
      intro hHeld
      refine wpAnyH_done (by as_aux_lemma => kernel_rfl) ?_ _
      replace h8 : Hid _ := h8
      go_wp2_with fail
      go_end0
      rw [ex_18 HOP.out, ou_T HX.out.1 hz4.out.1]
      exact StP.ok h8.out HX.out.2.2.2.1
    · go_simp
      refine rgo hK ?_ (hS := by first | exact SS0 | exact SS1 | exact SS2 | exact SS3 | exact SS4)
      clear hK K hHeld
      intro hHeld
      refine rr1 10 (fun K hK => ?_)
      go_simp
      refine rgo hK ?_ (hS := by first | exact SS0 | exact SS1 | exact SS2 | exact SS3 | exact SS4)
      clear hK K hHeld
      intro hHeld
      refine rr1 18 (fun K hK => ?_)
      refine step_runG 23 (by rfl) (by rfl) (by rfl) (by rfl) (APw.out _ rfl) ?_
      rintro v8 w8 ⟨⟨o8, c8, rfl⟩, ⟨u8, c84⟩, f84, l8, h8⟩
      have SS4 := SOF.out h8 HX.out.1
      have SS3 := SSB.out SS4
      refine rgo hK ?_ (hS := by first | exact SS0 | exact SS1 | exact SS2 | exact SS3 | exact SS4)
      clear hK K hHeld
      intro hHeld
      refine rtk 19 ?_
      refine rtk 20 ?_
      refine rr1 21 (fun K hK => ?_)
      go_simp
      refine rgo hK ?_ (hS := by first | exact SS0 | exact SS1 | exact SS2 | exact SS3 | exact SS4)
      clear hK K hHeld
      intro hHeld
      refine wpAnyH_done (by as_aux_lemma => kernel_rfl) ?_ _
      replace h8 : Hid _ := h8
      go_wp2_with fail
      go_end0
      rw [ex_18 HOP.out, ou_T HX.out.1 hz4.out.1]
      exact StP.ok h8.out HX.out.2.2.2.1
end
end Go.Proofs.Ytpoepbmomfohlaa
