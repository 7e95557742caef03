/- The project's machine: MJmp, MJz. -/
import Derived.Test.YtpoepbmomfohlaaPnk
namespace Go.Proofs.Ytpoepbmomfohlaa
open Go.RowKit
set_option linter.all false
section
variable {C : Ct} {N N' : Nat} {K : Nat → Obj → Prop} {w w' w1 : World} {ps : List Int} {tb tb' : List Nat} {m m' : Mc} {t b : Nat} {th th' : Th}
set_option maxRecDepth 100000 in
set_option maxHeartbeats 1000000 in
theorem tu_6 (h : PS C N K w ps tb m) (ht : m.ths[t]? = some th) (hb : tb[t]? = some b) {cb f : Nat} {x : Mi} (hI : IN C cb f x) (hok : x.ok) (h0 : m.how = 0) (ha : th.abo = false) (hop : x.op = 6) (hN : N + 1 ≤ 1000000) (hc1 : 1 ≤ th.pc) (hc2 : th.pc ≤ C.code.length) (hc3 : (insAt C.code (th.pc - 1)).1.e = x.e) : Calls Try.prog 31 #[ptr b, .pointer (some ⟨cb, f, none⟩)] w (StP C (N + 1) K ps (m.exec t th x)) := by
  have HX : Hid (m.ths[t]? = some th ∧ tb[t]? = some b ∧ x.ok ∧ m.how = 0 ∧ th.abo = false ∧ N + 1 ≤ 1000000 ∧ 1 ≤ th.pc ∧ th.pc ≤ C.code.length ∧ (insAt C.code (th.pc - 1)).1.e = x.e) := ⟨ht, hb, hok, h0, ha, hN, hc1, hc2, hc3⟩
  have HIc : Hid (∀ {N : Nat} {W : World} {m : Mc} {tb : List Nat}, PS C N K W ps tb m → W.cell? ⟨cb, f, none⟩ = some (.int .i64 x.op) ∧ W.cell? ⟨cb, f + 1, none⟩ = some (.int .i64 x.a) ∧ W.cell? ⟨cb, f + 2, none⟩ = some (.int .i64 x.b) ∧ W.cell? ⟨cb, f + 3, none⟩ = some (.int .i64 x.c) ∧ W.cell? ⟨cb, f + 4, none⟩ = some (.int .i64 x.d) ∧ W.cell? ⟨cb, f + 5, none⟩ = some (.int .i64 x.e) ∧ cb < W.heap.size) := fun h => h.insc hI
  have HBl : Hid (∀ {N : Nat} {W : World} {m : Mc} {th : Th}, PS C N K W ps tb m → m.ths[t]? = some th → W.cell? ⟨b, 0, none⟩ = some (ptr C.mb) ∧ b < W.heap.size ∧ C.mb < W.heap.size ∧ (∃ v, W.cell? ⟨b, 5, none⟩ = some (.int .i64 v)) ∧ W.frozen? ⟨b, 5, none⟩ = false ∧ W.cell? ⟨b, 6, none⟩ = some (.bool th.unw) ∧ W.cell? ⟨b, 7, none⟩ = some (.bool th.abo) ∧ W.frozen? ⟨b, 6, none⟩ = false ∧ W.frozen? ⟨b, 7, none⟩ = false ∧ W.cell? ⟨C.mb, 0, none⟩ = some (.slice C.co C.code.length C.cc)) := fun {N W m th} h ht => by
    obtain ⟨at_, hat, c0, c1, c3, c5, c6, c7, c8, lb, fz, f0, f1⟩ := h.thr ht hb
    exact ⟨c0, lb, h.size, ⟨_, c5⟩, fz 5, c6, c7, fz 6, fz 7, h.mch.1⟩
  rw [hop] at HIc
  have HOP : Hid (x.op = 6) := hop
  have h2 := h
  clear h ht hb hok h0 ha hN hc1 hc2 hc3 hop hI
  obtain ⟨q0, q1, q2, q3, q4, q5, ql⟩ := HIc.out h2
  obtain ⟨z0, zb, zm, ⟨v5, z5⟩, zf5, z6, z7, zf6, zf7, zc⟩ := HBl.out h2 HX.out.1
  go_enter Try.func31, Try.ntmps31
  go_wp2_with fail
  go_end0
  rw [ex_6 HOP.out, goto_T HX.out.1]
  exact StP.ok ((h2.goto HX.out.1 HX.out.2.1 HX.out.2.2.1.2.2.2.2.2).up HX.out.2.2.2.2.2.1) HX.out.2.2.2.1
set_option maxRecDepth 100000 in
set_option maxHeartbeats 1000000 in
theorem tu_7 (h : PS C N K w ps tb m) (ht : m.ths[t]? = some th) (hb : tb[t]? = some b) {cb f : Nat} {x : Mi} (hI : IN C cb f x) (hok : x.ok) (h0 : m.how = 0) (ha : th.abo = false) (hop : x.op = 7) (hN : N + 1 ≤ 1000000) (hc1 : 1 ≤ th.pc) (hc2 : th.pc ≤ C.code.length) (hc3 : (insAt C.code (th.pc - 1)).1.e = x.e) : Calls Try.prog 31 #[ptr b, .pointer (some ⟨cb, f, none⟩)] w (StP C (N + 1) K ps (m.exec t th x)) := by
  have HX : Hid (m.ths[t]? = some th ∧ tb[t]? = some b ∧ x.ok ∧ m.how = 0 ∧ th.abo = false ∧ N + 1 ≤ 1000000 ∧ 1 ≤ th.pc ∧ th.pc ≤ C.code.length ∧ (insAt C.code (th.pc - 1)).1.e = x.e) := ⟨ht, hb, hok, h0, ha, hN, hc1, hc2, hc3⟩
  have HIc : Hid (∀ {N : Nat} {W : World} {m : Mc} {tb : List Nat}, PS C N K W ps tb m → W.cell? ⟨cb, f, none⟩ = some (.int .i64 x.op) ∧ W.cell? ⟨cb, f + 1, none⟩ = some (.int .i64 x.a) ∧ W.cell? ⟨cb, f + 2, none⟩ = some (.int .i64 x.b) ∧ W.cell? ⟨cb, f + 3, none⟩ = some (.int .i64 x.c) ∧ W.cell? ⟨cb, f + 4, none⟩ = some (.int .i64 x.d) ∧ W.cell? ⟨cb, f + 5, none⟩ = some (.int .i64 x.e) ∧ cb < W.heap.size) := fun h => h.insc hI
  have HBl : Hid (∀ {N : Nat} {W : World} {m : Mc} {th : Th}, PS C N K W ps tb m → m.ths[t]? = some th → W.cell? ⟨b, 0, none⟩ = some (ptr C.mb) ∧ b < W.heap.size ∧ C.mb < W.heap.size ∧ (∃ v, W.cell? ⟨b, 5, none⟩ = some (.int .i64 v)) ∧ W.frozen? ⟨b, 5, none⟩ = false ∧ W.cell? ⟨b, 6, none⟩ = some (.bool th.unw) ∧ W.cell? ⟨b, 7, none⟩ = some (.bool th.abo) ∧ W.frozen? ⟨b, 6, none⟩ = false ∧ W.frozen? ⟨b, 7, none⟩ = false ∧ W.cell? ⟨C.mb, 0, none⟩ = some (.slice C.co C.code.length C.cc)) := fun {N W m th} h ht => by
    obtain ⟨at_, hat, c0, c1, c3, c5, c6, c7, c8, lb, fz, f0, f1⟩ := h.thr ht hb
    exact ⟨c0, lb, h.size, ⟨_, c5⟩, fz 5, c6, c7, fz 6, fz 7, h.mch.1⟩
  rw [hop] at HIc
  have HOP : Hid (x.op = 7) := hop
  have h2 := h
  clear h ht hb hok h0 ha hN hc1 hc2 hc3 hop hI
  obtain ⟨q0, q1, q2, q3, q4, q5, ql⟩ := HIc.out h2
  obtain ⟨z0, zb, zm, ⟨v5, z5⟩, zf5, z6, z7, zf6, zf7, zc⟩ := HBl.out h2 HX.out.1
  have R1 := read_c h2 HX.out.1 HX.out.2.1 HX.out.2.2.1.2.1
  rcases slot_cases th.frame t x.a with ⟨y, hy⟩ | ⟨y, hy⟩
  · obtain ⟨v, hv⟩ : ∃ v, v = m.mem y.toNat := ⟨_, rfl⟩
    have R2 := R1.mono (R' := fun e w' => e = .returned (.int .i64 v) ∧ PS C N K w' ps tb m) (fun e w' hh => by
      rcases hh with ⟨y', z, hz, e1, e2⟩ | ⟨y', hy', e1, e2⟩
      · have := hz.out.1
        rw [hy] at this
        obtain rfl : y = y' := by simpa using this
        exact ⟨by rw [hv]; exact e1, e2⟩
      · have := hy'.out
        rw [hy] at this
        simp at this)
    have HE : Hid (m.exec t th x = if v = 0 then m.goto t x.e else m) := by show _ = _; rw [ex_7 HOP.out, rd_T HX.out.1 hy, hv]
    clear R1 hv
    by_cases h0 : v = 0
    · subst h0
      go_enter Try.func31, Try.ntmps31
      go_wp2_with (go_at_call 23; refine R2.mono ?_; rintro e w4 ⟨rfl, h4⟩; obtain ⟨p0, p1, p2, p3, p4, p5, pl⟩ := HIc.out h4; obtain ⟨r0, rb, rm, ⟨s5, r5⟩, rf5, -⟩ := HBl.out h4 HX.out.1)
      go_end0
      rw [HE.out]
      first | rw [if_pos rfl] | rw [if_pos trivial]
      rw [goto_T HX.out.1]
      exact StP.ok ((h4.goto HX.out.1 HX.out.2.1 HX.out.2.2.1.2.2.2.2.2).up HX.out.2.2.2.2.2.1) HX.out.2.2.2.1
    · have hb0 : (v == 0) = false := by simpa using h0
      go_enter Try.func31, Try.ntmps31
      go_wp2_with (go_at_call 23; refine R2.mono ?_; rintro e w4 ⟨rfl, h4⟩)
      go_end0
      rw [HE.out, if_neg h0]
      exact StP.ok (h4.up HX.out.2.2.2.2.2.1) HX.out.2.2.2.1
  · have R2 := R1.mono (R' := fun e w' => e = thr y ∧ PS C N K w' ps tb m) (fun e w' hh => by
      rcases hh with ⟨y', z, hz, e1, e2⟩ | ⟨y', hy', e1, e2⟩
      · have := hz.out.1
        rw [hy] at this
        simp at this
      · have := hy'.out
        rw [hy] at this
        obtain rfl : y = y' := by simpa using this
        exact ⟨e1, e2⟩)
    have HE : Hid (m.exec t th x = m.fin y ∧ y ≠ 0) := ⟨by rw [ex_7 HOP.out, rd_F HX.out.1 hy], sl_ne hy⟩
    clear R1 hy
    go_enter Try.func31, Try.ntmps31
    go_wp2_with (go_at_call 23; refine R2.mono ?_; rintro e w4 ⟨rfl, h4⟩)
    exact ⟨rfl, by rw [HE.out.1]; exact StP.no (h4.up HX.out.2.2.2.2.2.1) HX.out.2.2.2.1 (HE.out.2)⟩
end
end Go.Proofs.Ytpoepbmomfohlaa
