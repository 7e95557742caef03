/- The project's machine: MStop, and what is none. -/
import Derived.Test.YtpoepbmomfohlaaPnk
namespace Go.Proofs.Ytpoepbmomfohlaa
open Go.RowKit
set_option linter.all false
section
variable {C : Ct} {N N' : Nat} {K : Nat → Obj → Prop} {w w' w1 : World} {ps : List Int} {tb tb' : List Nat} {m m' : Mc} {t b : Nat} {th th' : Th}
set_option maxRecDepth 100000 in
set_option maxHeartbeats 1000000 in
theorem tu_19 (h : PS C N K w ps tb m) (ht : m.ths[t]? = some th) (hb : tb[t]? = some b) {cb f : Nat} {x : Mi} (hI : IN C cb f x) (hok : x.ok) (h0 : m.how = 0) (ha : th.abo = false) (hop : x.op = 19) (hN : N + 1 ≤ 1000000) (hc1 : 1 ≤ th.pc) (hc2 : th.pc ≤ C.code.length) (hc3 : (insAt C.code (th.pc - 1)).1.e = x.e) : Calls Try.prog 31 #[ptr b, .pointer (some ⟨cb, f, none⟩)] w (StP C (N + 1) K ps (m.exec t th x)) := by
  have HX : Hid (m.ths[t]? = some th ∧ tb[t]? = some b ∧ x.ok ∧ m.how = 0 ∧ th.abo = false ∧ N + 1 ≤ 1000000 ∧ 1 ≤ th.pc ∧ th.pc ≤ C.code.length ∧ (insAt C.code (th.pc - 1)).1.e = x.e) := ⟨ht, hb, hok, h0, ha, hN, hc1, hc2, hc3⟩
  have HIc : Hid (∀ {N : Nat} {W : World} {m : Mc} {tb : List Nat}, PS C N K W ps tb m → W.cell? ⟨cb, f, none⟩ = some (.int .i64 x.op) ∧ W.cell? ⟨cb, f + 1, none⟩ = some (.int .i64 x.a) ∧ W.cell? ⟨cb, f + 2, none⟩ = some (.int .i64 x.b) ∧ W.cell? ⟨cb, f + 3, none⟩ = some (.int .i64 x.c) ∧ W.cell? ⟨cb, f + 4, none⟩ = some (.int .i64 x.d) ∧ W.cell? ⟨cb, f + 5, none⟩ = some (.int .i64 x.e) ∧ cb < W.heap.size) := fun h => h.insc hI
  have HBl : Hid (∀ {N : Nat} {W : World} {m : Mc} {th : Th}, PS C N K W ps tb m → m.ths[t]? = some th → W.cell? ⟨b, 0, none⟩ = some (ptr C.mb) ∧ b < W.heap.size ∧ C.mb < W.heap.size ∧ (∃ v, W.cell? ⟨b, 5, none⟩ = some (.int .i64 v)) ∧ W.frozen? ⟨b, 5, none⟩ = false ∧ W.cell? ⟨b, 6, none⟩ = some (.bool th.unw) ∧ W.cell? ⟨b, 7, none⟩ = some (.bool th.abo) ∧ W.frozen? ⟨b, 6, none⟩ = false ∧ W.frozen? ⟨b, 7, none⟩ = false ∧ W.cell? ⟨C.mb, 0, none⟩ = some (.slice C.co C.code.length C.cc)) := fun {N W m th} h ht => by
    obtain ⟨at_, hat, c0, c1, c3, c5, c6, c7, c8, lb, fz, f0, f1⟩ := h.thr ht hb
    exact ⟨c0, lb, h.size, ⟨_, c5⟩, fz 5, c6, c7, fz 6, fz 7, h.mch.1⟩
  rw [hop] at HIc
  have HOP : Hid (x.op = 19) := hop
  have h2 := h
  have HIN : Hid (IN C cb f x) := hI
  clear h ht hb hok h0 ha hN hc1 hc2 hc3 hop hI
  obtain ⟨q0, q1, q2, q3, q4, q5, ql⟩ := HIc.out h2
  obtain ⟨z0, zb, zm, ⟨v5, z5⟩, zf5, z6, z7, zf6, zf7, zc⟩ := HBl.out h2 HX.out.1
  have R1 : Calls Try.prog 42 #[ptr b, .pointer (some ⟨cb, f, none⟩)] w (StP C N K ps (m.spM t th x)) := by
    by_cases h1 : x.d = 1
    · exact stop_1 h2 HX.out.1 HX.out.2.1 HIN.out HX.out.2.2.1 HX.out.2.2.2.1 h1
    · by_cases h2' : x.d = 2
      · exact stop_2 h2 HX.out.1 HX.out.2.1 HIN.out HX.out.2.2.2.1 h2'
      · exact stop_0 h2 HX.out.1 HX.out.2.1 HIN.out HX.out.2.2.2.1 h1 h2'
  go_enter Try.func31, Try.ntmps31
  go_wp2_with (go_at_call 42; refine R1.mono ?_; rintro e w4 ⟨tb', h4, (⟨hh, rfl⟩ | ⟨hh, rfl⟩)⟩; rotate_left; exact ⟨rfl, by rw [ex_19 HOP.out]; exact ⟨tb', h4.up HX.out.2.2.2.2.2.1, .inr ⟨hh, rfl⟩⟩⟩)
  go_end0
  rw [ex_19 HOP.out]
  exact ⟨tb', h4.up HX.out.2.2.2.2.2.1, .inl ⟨hh, rfl⟩⟩
set_option maxRecDepth 100000 in
set_option maxHeartbeats 1000000 in
theorem tu_bad (h : PS C N K w ps tb m) (ht : m.ths[t]? = some th) (hb : tb[t]? = some b) {cb f : Nat} {x : Mi} (hI : IN C cb f x) (hok : x.ok) (h0 : m.how = 0) (ha : th.abo = false) (hop : x.op < 0 ∨ 19 < x.op) (hN : N + 1 ≤ 1000000) (hc1 : 1 ≤ th.pc) (hc2 : th.pc ≤ C.code.length) (hc3 : (insAt C.code (th.pc - 1)).1.e = x.e) : Calls Try.prog 31 #[ptr b, .pointer (some ⟨cb, f, none⟩)] w (StP C (N + 1) K ps (m.exec t th x)) := by
  have HX : Hid (m.ths[t]? = some th ∧ tb[t]? = some b ∧ x.ok ∧ m.how = 0 ∧ th.abo = false ∧ N + 1 ≤ 1000000 ∧ 1 ≤ th.pc ∧ th.pc ≤ C.code.length ∧ (insAt C.code (th.pc - 1)).1.e = x.e) := ⟨ht, hb, hok, h0, ha, hN, hc1, hc2, hc3⟩
  have HIc : Hid (∀ {N : Nat} {W : World} {m : Mc} {tb : List Nat}, PS C N K W ps tb m → W.cell? ⟨cb, f, none⟩ = some (.int .i64 x.op) ∧ W.cell? ⟨cb, f + 1, none⟩ = some (.int .i64 x.a) ∧ W.cell? ⟨cb, f + 2, none⟩ = some (.int .i64 x.b) ∧ W.cell? ⟨cb, f + 3, none⟩ = some (.int .i64 x.c) ∧ W.cell? ⟨cb, f + 4, none⟩ = some (.int .i64 x.d) ∧ W.cell? ⟨cb, f + 5, none⟩ = some (.int .i64 x.e) ∧ cb < W.heap.size) := fun h => h.insc hI
  have HBl : Hid (∀ {N : Nat} {W : World} {m : Mc} {th : Th}, PS C N K W ps tb m → m.ths[t]? = some th → W.cell? ⟨b, 0, none⟩ = some (ptr C.mb) ∧ b < W.heap.size ∧ C.mb < W.heap.size ∧ (∃ v, W.cell? ⟨b, 5, none⟩ = some (.int .i64 v)) ∧ W.frozen? ⟨b, 5, none⟩ = false ∧ W.cell? ⟨b, 6, none⟩ = some (.bool th.unw) ∧ W.cell? ⟨b, 7, none⟩ = some (.bool th.abo) ∧ W.frozen? ⟨b, 6, none⟩ = false ∧ W.frozen? ⟨b, 7, none⟩ = false ∧ W.cell? ⟨C.mb, 0, none⟩ = some (.slice C.co C.code.length C.cc)) := fun {N W m th} h ht => by
    obtain ⟨at_, hat, c0, c1, c3, c5, c6, c7, c8, lb, fz, f0, f1⟩ := h.thr ht hb
    exact ⟨c0, lb, h.size, ⟨_, c5⟩, fz 5, c6, c7, fz 6, fz 7, h.mch.1⟩
  skip
  have HOP : Hid (x.op < 0 ∨ 19 < x.op) := hop
  have h2 := h
  clear h ht hb hok h0 ha hN hc1 hc2 hc3 hop hI
  obtain ⟨q0, q1, q2, q3, q4, q5, ql⟩ := HIc.out h2
  obtain ⟨z0, zb, zm, ⟨v5, z5⟩, zf5, z6, z7, zf6, zf7, zc⟩ := HBl.out h2 HX.out.1
  have HE : Hid (m.exec t th x = m.fin 9) := ex_bad HOP.out
  have hne : ¬ x.op = 6 ∧ ¬ x.op = 7 ∧ ¬ x.op = 8 ∧ ¬ x.op = 9 ∧ ¬ x.op = 10 ∧ ¬ x.op = 12 ∧ ¬ x.op = 11 ∧ ¬ x.op = 15 ∧ ¬ x.op = 19 := by
    have := HOP.out
    omega
  obtain ⟨n1, n2, n3, n4, n5, n6, n7, n8, n9⟩ := hne
  have e1 : (x.op == 6) = false := by simpa using n1
  have e2 : (x.op == 7) = false := by simpa using n2
  have e3 : (x.op == 8) = false := by simpa using n3
  have e4 : (x.op == 9) = false := by simpa using n4
  have e5 : (x.op == 10) = false := by simpa using n5
  have e6 : (x.op == 12) = false := by simpa using n6
  have e7 : (x.op == 11) = false := by simpa using n7
  have e8 : (x.op == 15) = false := by simpa using n8
  have e9 : (x.op == 19) = false := by simpa using n9
  clear n1 n2 n3 n4 n5 n6 n7 n8 n9
  go_enter Try.func31, Try.ntmps31
  go_wp2_with fail
  exact ⟨rfl, by rw [HE.out]; exact StP.no (h2.up HX.out.2.2.2.2.2.1) HX.out.2.2.2.1 (by decide)⟩
end
end Go.Proofs.Ytpoepbmomfohlaa
