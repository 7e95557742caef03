/- The project's machine: MRet. -/
import Derived.Test.YtpoepbmomfohlaaPnk
import Derived.Test.YtpoepbmomfohlaaPne
import Derived.Test.YtpoepbmomfohlaaPnm
import Derived.Test.YtpoepbmomfohlaaPnn
import Derived.Test.YtpoepbmomfohlaaPno
import Derived.Test.YtpoepbmomfohlaaPnp
import Derived.Test.YtpoepbmomfohlaaPnq
import Derived.Test.YtpoepbmomfohlaaPnr
import Derived.Test.YtpoepbmomfohlaaPns
import Derived.Test.YtpoepbmomfohlaaPnt
import Derived.Test.YtpoepbmomfohlaaPnu
import Derived.Test.YtpoepbmomfohlaaPnv
namespace Go.Proofs.Ytpoepbmomfohlaa
open Go.RowKit
set_option linter.all false
section
variable {C : Ct} {N N' : Nat} {K : Nat → Obj → Prop} {w w' w1 : World} {ps : List Int} {tb tb' : List Nat} {m m' : Mc} {t b : Nat} {th th' : Th}
theorem re_N {r : Bool} (h : th.calls = []) : m.reM t th r = m.fin 9 := by unfold Mc.reM; rw [h]; rfl
theorem re_T {r : Bool} {cs : List (Int × Int × Int)} {c : Int × Int × Int} (h : th.calls = cs ++ [c]) : m.reM t th r = { m with ths := m.ths.set t { th with calls := cs, frame := c.2.2, pc := if r then c.2.1 else c.1 } } := by unfold Mc.reM; rw [h, List.getLast?_append]; simp [Mc.setT]
set_option maxRecDepth 100000 in
set_option maxHeartbeats 1000000 in
theorem tu_10 (h : PS C N K w ps tb m) (ht : m.ths[t]? = some th) (hb : tb[t]? = some b) {cb f : Nat} {x : Mi} (hI : IN C cb f x) (hok : x.ok) (h0 : m.how = 0) (ha : th.abo = false) (hop : x.op = 10) (hN : N + 1 ≤ 1000000) (hc1 : 1 ≤ th.pc) (hc2 : th.pc ≤ C.code.length) (hc3 : (insAt C.code (th.pc - 1)).1.e = x.e) : Calls Try.prog 31 #[ptr b, .pointer (some ⟨cb, f, none⟩)] w (StP C (N + 1) K ps (m.exec t th x)) := by
  have HX : Hid (m.ths[t]? = some th ∧ tb[t]? = some b ∧ x.ok ∧ m.how = 0 ∧ th.abo = false ∧ N + 1 ≤ 1000000 ∧ 1 ≤ th.pc ∧ th.pc ≤ C.code.length ∧ (insAt C.code (th.pc - 1)).1.e = x.e) := ⟨ht, hb, hok, h0, ha, hN, hc1, hc2, hc3⟩
  have HIc : Hid (∀ {N : Nat} {W : World} {m : Mc} {tb : List Nat}, PS C N K W ps tb m → W.cell? ⟨cb, f, none⟩ = some (.int .i64 x.op) ∧ W.cell? ⟨cb, f + 1, none⟩ = some (.int .i64 x.a) ∧ W.cell? ⟨cb, f + 2, none⟩ = some (.int .i64 x.b) ∧ W.cell? ⟨cb, f + 3, none⟩ = some (.int .i64 x.c) ∧ W.cell? ⟨cb, f + 4, none⟩ = some (.int .i64 x.d) ∧ W.cell? ⟨cb, f + 5, none⟩ = some (.int .i64 x.e) ∧ cb < W.heap.size) := fun h => h.insc hI
  have HBl : Hid (∀ {N : Nat} {W : World} {m : Mc} {th : Th}, PS C N K W ps tb m → m.ths[t]? = some th → W.cell? ⟨b, 0, none⟩ = some (ptr C.mb) ∧ b < W.heap.size ∧ C.mb < W.heap.size ∧ (∃ v, W.cell? ⟨b, 5, none⟩ = some (.int .i64 v)) ∧ W.frozen? ⟨b, 5, none⟩ = false ∧ W.cell? ⟨b, 6, none⟩ = some (.bool th.unw) ∧ W.cell? ⟨b, 7, none⟩ = some (.bool th.abo) ∧ W.frozen? ⟨b, 6, none⟩ = false ∧ W.frozen? ⟨b, 7, none⟩ = false ∧ W.cell? ⟨C.mb, 0, none⟩ = some (.slice C.co C.code.length C.cc)) := fun {N W m th} h ht => by
    obtain ⟨at_, hat, c0, c1, c3, c5, c6, c7, c8, lb, fz, f0, f1⟩ := h.thr ht hb
    exact ⟨c0, lb, h.size, ⟨_, c5⟩, fz 5, c6, c7, fz 6, fz 7, h.mch.1⟩
  rw [hop] at HIc
  have HOP : Hid (x.op = 10) := hop
  have h2 := h
  clear h ht hb hok h0 ha hN hc1 hc2 hc3 hop hI
  obtain ⟨q0, q1, q2, q3, q4, q5, ql⟩ := HIc.out h2
  obtain ⟨z0, zb, zm, ⟨v5, z5⟩, zf5, z6, z7, zf6, zf7, zc⟩ := HBl.out h2 HX.out.1
  rcases List.eq_nil_or_concat th.calls with hc | ⟨cs, c, hc⟩
  · have L1 := leave_no h2 HX.out.1 HX.out.2.1 hc
    have HE : Hid (m.exec t th x = m.fin 9) := by show _ = _; rw [ex_10 HOP.out, re_N hc]
    clear hc
    go_enter Try.func31, Try.ntmps31
    go_wp2_with (go_at_call 40; refine L1.mono ?_; rintro e w4 ⟨rfl, h4⟩)
    exact ⟨rfl, by rw [HE.out]; exact StP.no (h4.up HX.out.2.2.2.2.2.1) HX.out.2.2.2.1 (by decide)⟩
  · rw [List.concat_eq_append] at hc
    have L1 := leave_yes h2 HX.out.1 HX.out.2.1 hc
    have HE : Hid (m.exec t th x = { m with ths := m.ths.set t { th with calls := cs, frame := c.2.2, pc := c.1 } }) := by show _ = _; rw [ex_10 HOP.out, re_T hc]; rfl
    have HC : Hid (I64 c.1) := ((h2.ok.th t th HX.out.1).2.2 c (by rw [hc]; simp)).1
    have hwc : wrap64 (c.1 - 1 + 1) = c.1 := (wrap_id (by have := HC.out.1; omega) (by have := HC.out.2; omega)).trans (by omega)
    obtain ⟨c1, c2, c3⟩ := c
    replace hwc : wrap64 (c1 - 1 + 1) = c1 := hwc
    have hwc2 : wrap64 c1 = c1 := wrap_id HC.out.1 HC.out.2
    have HT1 : Hid ({ m with ths := m.ths.set t { th with calls := cs, frame := c3 } }.ths[t]? = some { th with calls := cs, frame := c3 }) := (by show (m.ths.set t _)[t]? = _; rw [List.getElem?_set_self (List.getElem?_eq_some_iff.1 HX.out.1).1])
    clear hc
    go_enter Try.func31, Try.ntmps31
    go_wp2_with (go_at_call 40; refine L1.mono ?_; rintro e w4 ⟨rfl, h4⟩; obtain ⟨r0, rb, rm, ⟨s5, r5⟩, rf5, -⟩ := HBl.out h4 HT1.out)
    go_end0
    rw [HE.out]
    have q := h4.goto HT1.out HX.out.2.1 HC.out
    have e : (m.ths.set t { th with calls := cs, frame := c3 }).set t { th with calls := cs, frame := c3, pc := c1 } = m.ths.set t { th with calls := cs, frame := c3, pc := c1 } := List.set_set ..
    rw [← e]
    exact StP.ok (q.up HX.out.2.2.2.2.2.1) HX.out.2.2.2.1
end
end Go.Proofs.Ytpoepbmomfohlaa
namespace Go.Proofs.Ytpoepbmomfohlaa
open Go.RowKit
set_option linter.all false
section
variable {C : Ct} {N N' : Nat} {K : Nat → Obj → Prop} {w w' w1 : World} {ps : List Int} {tb tb' : List Nat} {m m' : Mc} {t b : Nat} {th th' : Th}
set_option maxRecDepth 100000 in
set_option maxHeartbeats 1000000 in
theorem tu_12 (h : PS C N K w ps tb m) (ht : m.ths[t]? = some th) (hb : tb[t]? = some b) {cb f : Nat} {x : Mi} (hI : IN C cb f x) (hok : x.ok) (h0 : m.how = 0) (ha : th.abo = false) (hop : x.op = 12) (hN : N + 1 ≤ 1000000) (hc1 : 1 ≤ th.pc) (hc2 : th.pc ≤ C.code.length) (hc3 : (insAt C.code (th.pc - 1)).1.e = x.e) : Calls Try.prog 31 #[ptr b, .pointer (some ⟨cb, f, none⟩)] w (StP C (N + 1) K ps (m.exec t th x)) := by
  have HX : Hid (m.ths[t]? = some th ∧ tb[t]? = some b ∧ x.ok ∧ m.how = 0 ∧ th.abo = false ∧ N + 1 ≤ 1000000 ∧ 1 ≤ th.pc ∧ th.pc ≤ C.code.length ∧ (insAt C.code (th.pc - 1)).1.e = x.e) := ⟨ht, hb, hok, h0, ha, hN, hc1, hc2, hc3⟩
  have HIc : Hid (∀ {N : Nat} {W : World} {m : Mc} {tb : List Nat}, PS C N K W ps tb m → W.cell? ⟨cb, f, none⟩ = some (.int .i64 x.op) ∧ W.cell? ⟨cb, f + 1, none⟩ = some (.int .i64 x.a) ∧ W.cell? ⟨cb, f + 2, none⟩ = some (.int .i64 x.b) ∧ W.cell? ⟨cb, f + 3, none⟩ = some (.int .i64 x.c) ∧ W.cell? ⟨cb, f + 4, none⟩ = some (.int .i64 x.d) ∧ W.cell? ⟨cb, f + 5, none⟩ = some (.int .i64 x.e) ∧ cb < W.heap.size) := fun h => h.insc hI
  have HBl : Hid (∀ {N : Nat} {W : World} {m : Mc} {th : Th}, PS C N K W ps tb m → m.ths[t]? = some th → W.cell? ⟨b, 0, none⟩ = some (ptr C.mb) ∧ b < W.heap.size ∧ C.mb < W.heap.size ∧ (∃ v, W.cell? ⟨b, 5, none⟩ = some (.int .i64 v)) ∧ W.frozen? ⟨b, 5, none⟩ = false ∧ W.cell? ⟨b, 6, none⟩ = some (.bool th.unw) ∧ W.cell? ⟨b, 7, none⟩ = some (.bool th.abo) ∧ W.frozen? ⟨b, 6, none⟩ = false ∧ W.frozen? ⟨b, 7, none⟩ = false ∧ W.cell? ⟨C.mb, 0, none⟩ = some (.slice C.co C.code.length C.cc)) := fun {N W m th} h ht => by
    obtain ⟨at_, hat, c0, c1, c3, c5, c6, c7, c8, lb, fz, f0, f1⟩ := h.thr ht hb
    exact ⟨c0, lb, h.size, ⟨_, c5⟩, fz 5, c6, c7, fz 6, fz 7, h.mch.1⟩
  rw [hop] at HIc
  have HOP : Hid (x.op = 12) := hop
  have h2 := h
  clear h ht hb hok h0 ha hN hc1 hc2 hc3 hop hI
  obtain ⟨q0, q1, q2, q3, q4, q5, ql⟩ := HIc.out h2
  obtain ⟨z0, zb, zm, ⟨v5, z5⟩, zf5, z6, z7, zf6, zf7, zc⟩ := HBl.out h2 HX.out.1
  rcases List.eq_nil_or_concat th.calls with hc | ⟨cs, c, hc⟩
  · have L1 := leave_no h2.drew HX.out.1 HX.out.2.1 hc
    have HE : Hid (m.exec t th x = m.fin 9) := by show _ = _; rw [ex_12 HOP.out, re_N hc]
    have SS0 : (fun W => W.cell? ⟨b, 0, none⟩ = some (ptr C.mb) ∧ W.cell? ⟨C.mb, 0, none⟩ = some (.slice C.co C.code.length C.cc) ∧ b < W.heap.size ∧ C.mb < W.heap.size) w.drew := ⟨z0, zc, zb, zm⟩
    clear hc
    go_enter Try.func31, Try.ntmps31
    go_wp2_with fail
    refine wp_region_held_drew (S := fun W => W.cell? ⟨b, 0, none⟩ = some (ptr C.mb) ∧ W.cell? ⟨C.mb, 0, none⟩ = some (.slice C.co C.code.length C.cc) ∧ b < W.heap.size ∧ C.mb < W.heap.size) (by as_aux_lemma => kernel_rfl) SS0 (fun hHeld => ?_)
    refine rtk 0 ?_
    refine rtk 1 ?_
    refine rtk 2 ?_
    refine rtk 3 ?_
    refine rtk 4 ?_
    refine rtk 5 ?_
    refine rtk 6 ?_
    refine rtk 7 ?_
    refine rtk 8 ?_
    refine rr1 9 (fun K hK => ?_)
    go_simp
    refine L1.mono ?_
    rintro e w4 ⟨rfl, h4⟩
    exact ⟨rfl, by rw [HE.out]; exact StP.no (h4.up HX.out.2.2.2.2.2.1) HX.out.2.2.2.1 (by decide)⟩
  · rw [List.concat_eq_append] at hc
    obtain ⟨c1, c2, c3⟩ := c
    obtain ⟨q, cp, k4, hcap, hcs, lq, kq0, kq1, hcok, hcf, -⟩ := h2.pop HX.out.1 HX.out.2.1 hc
    have L1 := leave_yes h2.drew HX.out.1 HX.out.2.1 hc
    have HE : Hid (m.exec t th x = { m with ths := m.ths.set t { th with calls := cs, frame := c3, pc := c2 } }) := by show _ = _; rw [ex_12 HOP.out, re_T hc]; rfl
    have HC : Hid (I64 c2) := ((h2.ok.th t th HX.out.1).2.2 (c1, c2, c3) (by rw [hc]; simp)).2.1
    obtain ⟨ho1, ho2, ho3⟩ := hcok
    replace ho1 : 1 ≤ c1 := ho1
    replace ho2 : c1 ≤ C.code.length := ho2
    replace ho3 : (insAt C.code (c1 - 1)).1.e = c2 := ho3
    obtain ⟨k, hk⟩ : ∃ k : Nat, c1 - 1 = (k : Int) := ⟨(c1 - 1).toNat, by omega⟩
    have hkl : k < C.code.length := by omega
    obtain ⟨x', hx'⟩ : ∃ x', C.code[k]? = some x' := ⟨_, List.getElem?_eq_getElem hkl⟩
    have hxe : x'.e = c2 := by
      rw [hk] at ho3
      unfold insAt at ho3
      rw [if_neg (by omega), Int.toNat_natCast, hx'] at ho3
      exact ho3
    obtain ⟨kb, kf, eco, hin⟩ := h2.insx hx'
    have HIk : Hid (∀ {N : Nat} {W : World} {m : Mc} {tb : List Nat}, PS C N K W ps tb m → W.cell? ⟨kb, kf + k * 6 + 5, none⟩ = some (.int .i64 c2) ∧ kb < W.heap.size) := fun h => by
      obtain ⟨q0, q1, q2, q3, q4, q5, ql⟩ := h.insc hin
      rw [← hxe]
      exact ⟨q5, ql⟩
    have HT1 : Hid ({ m with ths := m.ths.set t { th with calls := cs, frame := c3 } }.ths[t]? = some { th with calls := cs, frame := c3 }) := (by show (m.ths.set t _)[t]? = _; rw [List.getElem?_set_self (List.getElem?_eq_some_iff.1 HX.out.1).1])
    have SOF : Hid (∀ {N : Nat} {W : World} {m : Mc} {th : Th}, PS C N K W ps tb m → m.ths[t]? = some th → (fun W => W.cell? ⟨b, 0, none⟩ = some (ptr C.mb) ∧ W.cell? ⟨C.mb, 0, none⟩ = some (.slice (some ⟨kb, kf, none⟩) C.code.length C.cc) ∧ W.cell? ⟨kb, kf + k * 6 + 5, none⟩ = some (.int .i64 c2) ∧ kb < W.heap.size ∧ b < W.heap.size ∧ C.mb < W.heap.size) W) := fun h ht => by
      obtain ⟨z0, zb, zm, -, -, -, -, -, -, zc⟩ := HBl.out h ht
      obtain ⟨i1, i2⟩ := HIk.out h
      rw [eco] at zc
      exact ⟨z0, zc, i1, i2, zb, zm⟩
    have SS0 := SOF.out h2.drew HX.out.1
    replace L1 : Calls Try.prog 40 #[ptr b] w.drew (fun e w' => e = .returned (.int .i64 (k : Int)) ∧ PS C N K w' ps tb { m with ths := m.ths.set t { th with calls := cs, frame := c3 } }) := by rw [← hk]; exact L1
    have hk0 : (0 : Int) ≤ (k : Int) := by omega
    have hk1 : (k : Int) < (C.code.length : Int) := by omega
    clear hc k4 hcap hcs lq kq0 kq1 hcf ho1 ho2 ho3 hk hkl hx' hxe eco hin zc
    go_enter Try.func31, Try.ntmps31
    go_wp2_with fail
    refine wp_region_held_drew (S := fun W => W.cell? ⟨b, 0, none⟩ = some (ptr C.mb) ∧ W.cell? ⟨C.mb, 0, none⟩ = some (.slice (some ⟨kb, kf, none⟩) C.code.length C.cc) ∧ W.cell? ⟨kb, kf + k * 6 + 5, none⟩ = some (.int .i64 c2) ∧ kb < W.heap.size ∧ b < W.heap.size ∧ C.mb < W.heap.size) (by as_aux_lemma => kernel_rfl) SS0 (fun hHeld => ?_)
    refine rtk 0 ?_
    refine rtk 1 ?_
    refine rtk 2 ?_
    refine rtk 3 ?_
    refine rtk 4 ?_
    refine rtk 5 ?_
    refine rtk 6 ?_
    refine rtk 7 ?_
    refine rtk 8 ?_
    refine rr1 9 (fun K hK => ?_)
    go_simp
    refine L1.mono ?_
    rintro e w4 ⟨rfl, h4⟩
    have SS1 := SOF.out h4 HT1.out
    refine rgo hK ?_ (hS := by exact SS1)
    clear hK K hHeld
    intro hHeld
    refine rtk 10 ?_
    refine rtk 11 ?_
    refine rtk 12 ?_
    refine rtk 13 ?_
    refine rtk 14 ?_
    obtain ⟨r0, rb, rm, ⟨s5, r5⟩, rf5, -⟩ := HBl.out h4 HT1.out
    have q := h4.goto HT1.out HX.out.2.1 HC.out
    have HT2 : Hid ({ m with ths := (m.ths.set t { th with calls := cs, frame := c3 }).set t { th with calls := cs, frame := c3, pc := c2 } }.ths[t]? = some { th with calls := cs, frame := c3, pc := c2 }) := by
      show ((m.ths.set t _).set t _)[t]? = _
      rw [List.getElem?_set_self (by rw [List.length_set]; exact (List.getElem?_eq_some_iff.1 HX.out.1).1)]
    have SS2 := SOF.out q HT2.out
    refine rr1 15 (fun K hK => ?_)
    go_simp
    refine rgo hK ?_ (hS := by exact SS2)
    clear hK K hHeld
    intro hHeld
    refine wpAnyH_done (by as_aux_lemma => kernel_rfl) ?_ _
    have HQ : Hid _ := q
    go_wp2_with fail
    go_end0
    rw [HE.out]
    have e : (m.ths.set t { th with calls := cs, frame := c3 }).set t { th with calls := cs, frame := c3, pc := c2 } = m.ths.set t { th with calls := cs, frame := c3, pc := c2 } := List.set_set ..
    rw [← e]
    exact StP.ok (HQ.out.up HX.out.2.2.2.2.2.1) HX.out.2.2.2.1
end
end Go.Proofs.Ytpoepbmomfohlaa
namespace Go.Proofs.Ytpoepbmomfohlaa
open Go.RowKit
set_option linter.all false
section
variable {C : Ct} {N N' : Nat} {K : Nat → Obj → Prop} {w w' w1 : World} {ps : List Int} {tb tb' : List Nat} {m m' : Mc} {t b : Nat} {th th' : Th}
theorem turn_c (h : PS C N K w ps tb m) (ht : m.ths[t]? = some th) (hb : tb[t]? = some b) {cb f : Nat} {x : Mi} (hI : IN C cb f x) (hok : x.ok) (h0 : m.how = 0) (ha : th.abo = false) (hop : ¬ (x.op = 0 ∨ x.op = 1 ∨ x.op = 2 ∨ x.op = 3 ∨ x.op = 4 ∨ x.op = 5 ∨ x.op = 13 ∨ x.op = 14 ∨ x.op = 16 ∨ x.op = 17 ∨ x.op = 18)) (hN : N + 1 ≤ 1000000) (hc1 : 1 ≤ th.pc) (hc2 : th.pc ≤ C.code.length) (hc3 : (insAt C.code (th.pc - 1)).1.e = x.e) : Calls Try.prog 31 #[ptr b, .pointer (some ⟨cb, f, none⟩)] w (StP C (N + 1) K ps (m.exec t th x)) := by
  by_cases o6 : x.op = 6
  · exact tu_6 h ht hb hI hok h0 ha o6 hN hc1 hc2 hc3
  by_cases o7 : x.op = 7
  · exact tu_7 h ht hb hI hok h0 ha o7 hN hc1 hc2 hc3
  by_cases o8 : x.op = 8
  · exact tu_8 h ht hb hI hok h0 ha o8 hN hc1 hc2 hc3
  by_cases o9 : x.op = 9
  · exact tu_9 h ht hb hI hok h0 ha o9 hN hc1 hc2 hc3
  by_cases o10 : x.op = 10
  · exact tu_10 h ht hb hI hok h0 ha o10 hN hc1 hc2 hc3
  by_cases o11 : x.op = 11
  · exact tu_11 h ht hb hI hok h0 ha o11 hN hc1 hc2 hc3
  by_cases o12 : x.op = 12
  · exact tu_12 h ht hb hI hok h0 ha o12 hN hc1 hc2 hc3
  by_cases o15 : x.op = 15
  · exact tu_15 h ht hb hI hok h0 ha o15 hN hc1 hc2 hc3
  by_cases o19 : x.op = 19
  · exact tu_19 h ht hb hI hok h0 ha o19 hN hc1 hc2 hc3
  exact tu_bad h ht hb hI hok h0 ha (by omega) hN hc1 hc2 hc3
set_option maxRecDepth 100000 in
set_option maxHeartbeats 1000000 in
theorem st_turn (h : PS C N K w ps tb m) (ht : m.ths[t]? = some th) (hb : tb[t]? = some b) {x : Mi} (hok : x.ok) (h0 : m.how = 0) (ha : th.abo = false) (hx : insAt C.code th.pc = (x, true)) (hop : ¬ (x.op = 0 ∨ x.op = 1 ∨ x.op = 2 ∨ x.op = 3 ∨ x.op = 4 ∨ x.op = 5 ∨ x.op = 13 ∨ x.op = 14 ∨ x.op = 16 ∨ x.op = 17 ∨ x.op = 18)) (hN : N + 1 ≤ 1000000) : Calls Try.prog 14 #[ptr b] w (StP C (N + 1) K ps ((m.setT t { th with pc := th.pc + 1 }).exec t { th with pc := th.pc + 1 } x)) := by
  have e0 : (x.op == 0) = false := by simp; omega
  have e1 : (x.op == 1) = false := by simp; omega
  have e2 : (x.op == 2) = false := by simp; omega
  have e3 : (x.op == 3) = false := by simp; omega
  have e4 : (x.op == 4) = false := by simp; omega
  have e5 : (x.op == 5) = false := by simp; omega
  have e13 : (x.op == 13) = false := by simp; omega
  have e14 : (x.op == 14) = false := by simp; omega
  have e18 : (x.op == 18) = false := by simp; omega
  have e17 : (x.op == 17) = false := by simp; omega
  have e16 : (x.op == 16) = false := by simp; omega
  obtain ⟨th1, hth1⟩ : ∃ th1, th1 = { th with pc := th.pc + 1 } := ⟨_, rfl⟩
  obtain ⟨m1, hm1⟩ : ∃ m1, m1 = m.setT t th1 := ⟨_, rfl⟩
  rw [← hth1, ← hm1]
  obtain ⟨at_, hat, c0, c1, c3, c5, c6, c7, c8, lb, fz, f0, f1⟩ := h.thr ht hb
  have fz5 := fz 5
  rw [hat ha] at c5
  have D1 := due_x h ht hb ha hx
  have hpc := insAt_true (code := C.code) (pc := th.pc) (by rw [hx])
  have hcf := h.cd.few
  have hwp : wrap64 (th.pc + 1) = th.pc + 1 := wrap_id (by omega) (by omega)
  rw [ha] at c7
  have HP : Hid (∀ {W : World}, PS C N K W ps tb m → PS C N K (W.setCell ⟨b, 5, none⟩ (.int .i64 (th.pc + 1))) ps tb m1) := fun {W} h => by
    rw [hm1, hth1]
    exact h.goto ht hb ⟨by omega, by omega⟩
  have HC5 : Hid (∀ {W : World}, PS C N K W ps tb m → W.cell? ⟨b, 5, none⟩ = some (.int .i64 th.pc) ∧ W.frozen? ⟨b, 5, none⟩ = false ∧ b < W.heap.size) := fun {W} h => by
    obtain ⟨at_, hat, c0, c1, c3, c5, c6, c7, c8, lb, fz, f0, f1⟩ := h.thr ht hb
    rw [hat ha] at c5
    exact ⟨c5, fz 5, lb⟩
  have HX : Hid (m1.ths[t]? = some th1 ∧ tb[t]? = some b ∧ x.ok ∧ m1.how = 0 ∧ th1.abo = false ∧ N + 1 ≤ 1000000 ∧ 1 ≤ th1.pc ∧ th1.pc ≤ C.code.length ∧ (insAt C.code (th1.pc - 1)).1.e = x.e) := ⟨by rw [hm1]; show (m.ths.set t th1)[t]? = _; rw [List.getElem?_set_self (List.getElem?_eq_some_iff.1 ht).1], hb, hok, by rw [hm1]; exact h0, by rw [hth1]; exact ha, hN, by rw [hth1]; show 1 ≤ th.pc + 1; omega, by rw [hth1]; show th.pc + 1 ≤ _; omega, by rw [hth1]; show (insAt C.code (th.pc + 1 - 1)).1.e = _; rw [show th.pc + 1 - 1 = th.pc by omega, hx]⟩
  have HIc : Hid (∀ {N : Nat} {W : World} {m : Mc} {tb : List Nat} {cb f : Nat}, PS C N K W ps tb m → IN C cb f x → W.cell? ⟨cb, f, none⟩ = some (.int .i64 x.op) ∧ W.cell? ⟨cb, f + 1, none⟩ = some (.int .i64 x.a) ∧ W.cell? ⟨cb, f + 2, none⟩ = some (.int .i64 x.b) ∧ W.cell? ⟨cb, f + 3, none⟩ = some (.int .i64 x.c) ∧ W.cell? ⟨cb, f + 4, none⟩ = some (.int .i64 x.d) ∧ W.cell? ⟨cb, f + 5, none⟩ = some (.int .i64 x.e) ∧ cb < W.heap.size) := fun h i => h.insc i
  have HBl : Hid (∀ {N : Nat} {W : World} {m : Mc}, PS C N K W ps tb m → m.ths[t]? = some th1 → W.cell? ⟨b, 0, none⟩ = some (ptr C.mb) ∧ b < W.heap.size ∧ C.mb < W.heap.size) := fun {N W m} h ht => by
    obtain ⟨at_, hat, c0, c1, c3, c5, c6, c7, c8, lb, fz, f0, f1⟩ := h.thr ht hb
    exact ⟨c0, lb, h.size⟩
  skip
  have HOP : Hid (¬ (x.op = 0 ∨ x.op = 1 ∨ x.op = 2 ∨ x.op = 3 ∨ x.op = 4 ∨ x.op = 5 ∨ x.op = 13 ∨ x.op = 14 ∨ x.op = 16 ∨ x.op = 17 ∨ x.op = 18)) := hop
  clear h ht hb hok h0 ha hx hN hat c0 c1 c3 c6 c8 fz f0 f1 hcf hpc hop hm1 hth1
  go_enter Try.func14, Try.ntmps14
  go_upto_region 6 with (go_at_call 21; refine D1.mono ?_; rintro e w2 ⟨h2, cb, f, hI, rfl⟩; obtain ⟨v5, vf5, vl⟩ := HC5.out h2)
  replace h2 := HP.out h2
  generalize w2.setCell ⟨b, 5, none⟩ (.int .i64 (th.pc + 1)) = w3 at *
  clear v5 vf5 vl c5 c7 fz5 lb hwp D1
  obtain ⟨q0, q1, q2, q3, q4, q5, ql⟩ := HIc.out h2 hI.out
  obtain ⟨z0, zb, zm⟩ := HBl.out h2 HX.out.1
  have T1 := turn_c h2 HX.out.1 HX.out.2.1 hI.out HX.out.2.2.1 HX.out.2.2.2.1 HX.out.2.2.2.2.1 HOP.out HX.out.2.2.2.2.2.1 HX.out.2.2.2.2.2.2.1 HX.out.2.2.2.2.2.2.2.1 HX.out.2.2.2.2.2.2.2.2
  clear HOP
  go_wp2_with (go_at_call 31; refine T1.mono ?_; rintro e w4 ⟨tb', h4, (⟨hh, rfl⟩ | ⟨hh, rfl⟩)⟩; rotate_left; exact ⟨rfl, tb', h4, .inr ⟨hh, rfl⟩⟩)
  go_end0
  exact ⟨tb', h4, .inl ⟨hh, rfl⟩⟩
theorem st_any (h : PS C N K w ps tb m) (ht : m.ths[t]? = some th) (hb : tb[t]? = some b) {x : Mi} (hok : x.ok) (h0 : m.how = 0) (ha : th.abo = false) (hx : insAt C.code th.pc = (x, true)) (hN : N + 1 ≤ 1000000) : Calls Try.prog 14 #[ptr b] w (StP C (N + 1) K ps ((m.setT t { th with pc := th.pc + 1 }).exec t { th with pc := th.pc + 1 } x)) := by
  by_cases o0 : x.op = 0
  · exact st_0 h ht hb hok h0 ha hx o0 hN
  by_cases o1 : x.op = 1
  · exact st_1 h ht hb hok h0 ha hx o1 hN
  by_cases o2 : x.op = 2
  · exact st_2 h ht hb hok h0 ha hx o2 hN
  by_cases o3 : x.op = 3
  · exact st_3 h ht hb hok h0 ha hx o3 hN
  by_cases o4 : x.op = 4
  · exact st_4 h ht hb hok h0 ha hx o4 hN
  by_cases o5 : x.op = 5
  · exact st_5 h ht hb hok h0 ha hx o5 hN
  by_cases o13 : x.op = 13
  · exact st_13 h ht hb hok h0 ha hx o13 hN
  by_cases o14 : x.op = 14
  · exact st_14 h ht hb hok h0 ha hx o14 hN
  by_cases o18 : x.op = 18
  · exact st_18 h ht hb hok h0 ha hx o18 hN
  by_cases o17 : x.op = 17
  · exact st_17 h ht hb hok h0 ha hx o17 hN
  by_cases o16 : x.op = 16
  · exact st_16 h ht hb hok h0 ha hx o16 hN
  exact st_turn h ht hb hok h0 ha hx (by omega) hN
set_option maxRecDepth 100000 in
set_option maxHeartbeats 1000000 in
theorem st_abo (h : PS C N K w ps tb m) (ht : m.ths[t]? = some th) (hb : tb[t]? = some b) (h0 : m.how = 0) (ha : th.abo = true) : Calls Try.prog 14 #[ptr b] w (StP C N K ps (m.fin 4)) := by
  obtain ⟨at_, hat, c0, c1, c3, c5, c6, c7, c8, lb, fz, f0, f1⟩ := h.thr ht hb
  rw [ha] at c7
  have HH : Hid (PS C N K w ps tb m ∧ m.how = 0) := ⟨h, h0⟩
  clear h ht hb h0 ha hat c0 c1 c3 c5 c6 c8 fz f0 f1
  go_enter Try.func14, Try.ntmps14
  go_wp2_with fail
  exact ⟨rfl, StP.no HH.out.1 HH.out.2 (by decide)⟩
set_option maxRecDepth 100000 in
set_option maxHeartbeats 1000000 in
theorem st_none (h : PS C N K w ps tb m) (ht : m.ths[t]? = some th) (hb : tb[t]? = some b) (h0 : m.how = 0) (ha : th.abo = false) (hi : (insAt C.code th.pc).2 = false) : Calls Try.prog 14 #[ptr b] w (StP C N K ps (m.fin 9)) := by
  obtain ⟨at_, hat, c0, c1, c3, c5, c6, c7, c8, lb, fz, f0, f1⟩ := h.thr ht hb
  rw [ha] at c7
  have D1 := due_c h c0 c5 lb
  rw [hat ha] at D1
  have D2 := D1.mono (R' := fun e w' => PS C N K w' ps tb m ∧ e = .returned (.pointer none)) (fun e w' hh => ⟨h.below hh.1, by
    rcases hh.2 with ⟨-, e⟩ | ⟨cb, f, x, e, -⟩
    · exact e
    · have := e.out.1
      rw [this] at hi
      cases hi⟩)
  have HH : Hid (m.how = 0) := h0
  clear h ht hb h0 ha hat c0 c1 c3 c5 c6 c8 fz f0 f1 hi D1
  go_enter Try.func14, Try.ntmps14
  go_wp2_with (go_at_call 21; refine D2.mono ?_; rintro e w2 ⟨h2, rfl⟩)
  exact ⟨rfl, StP.no h2 HH.out (by decide)⟩
/-- What a thread's step does. -/
def Mc.stepX (m : Mc) (code : List Mi) (t : Nat) (th : Th) : Mc := if th.abo then m.fin 4 else if (insAt code th.pc).2 then (m.setT t { th with pc := th.pc + 1 }).exec t { th with pc := th.pc + 1 } (insAt code th.pc).1 else m.fin 9
theorem StP.up {e : Ending} (h : StP C N K ps m e w) (hN : N + 1 ≤ 1000000) : StP C (N + 1) K ps m e w := by
  obtain ⟨tb', h1, h2⟩ := h
  exact ⟨tb', h1.up hN, h2⟩
theorem step_c (h : PS C N K w ps tb m) (ht : m.ths[t]? = some th) (hb : tb[t]? = some b) (h0 : m.how = 0) (hN : N + 1 ≤ 1000000) : Calls Try.prog 14 #[ptr b] w (StP C (N + 1) K ps (m.stepX C.code t th)) := by
  unfold Mc.stepX
  by_cases ha : th.abo = true
  · rw [if_pos ha]
    exact (st_abo h ht hb h0 ha).mono (fun e w' hh => hh.up hN)
  · rw [if_neg ha]
    have ha' : th.abo = false := by simpa using ha
    by_cases hi : (insAt C.code th.pc).2 = true
    · rw [if_pos hi]
      have hx : insAt C.code th.pc = ((insAt C.code th.pc).1, true) := by rw [← hi]
      exact st_any h ht hb (insAt_ok h.c64 th.pc) h0 ha' hx hN
    · rw [if_neg hi]
      exact (st_none h ht hb h0 ha' (by simpa using hi)).mono (fun e w' hh => hh.up hN)
end
end Go.Proofs.Ytpoepbmomfohlaa
namespace Go.Proofs.Ytpoepbmomfohlaa
open Go.RowKit
set_option linter.all false
section
variable {C : Ct} {N N' : Nat} {K : Nat → Obj → Prop} {w w' w1 : World} {ps : List Int} {tb tb' : List Nat} {m m' : Mc} {t b : Nat} {th th' : Th}
theorem stepM_eq (m : Mc) (code : List Mi) (t : Nat) (th : Th) : m.stepM code t th = ({ m with steps := m.steps + 1 }.met code t th).stepX code t th := rfl
theorem alone_spec (m : Mc) (code : List Mi) : ∀ (l : List Th) (i : Nat), (aloneI m code i l = -1 ∧ ∀ (j : Nat) (th : Th), l[j]? = some th → th.over = false → (meetB m code (i + j) th).1 = true) ∨ ∃ (j : Nat) (th : Th), aloneI m code i l = ((i + j : Nat) : Int) ∧ l[j]? = some th ∧ th.over = false ∧ (meetB m code (i + j) th).1 = false
  | [], i => .inl ⟨rfl, fun j th h => by simp at h⟩
  | x :: l, i => by
    by_cases hx : (!x.over && !(meetB m code i x).1) = true
    · refine .inr ⟨0, x, ?_, rfl, ?_, ?_⟩
      · show (if (!x.over && !(meetB m code i x).1) = true then (i : Int) else _) = _
        rw [if_pos hx]
        rfl
      · cases h : x.over with
        | true => rw [h] at hx; cases hx
        | false => rfl
      · cases h : (meetB m code i x).1 with
        | true => rw [h] at hx; simp at hx
        | false => rfl
    · have e : aloneI m code i (x :: l) = aloneI m code (i + 1) l := by
        show (if (!x.over && !(meetB m code i x).1) = true then (i : Int) else _) = _
        rw [if_neg hx]
      rcases alone_spec m code l (i + 1) with ⟨h1, h2⟩ | ⟨j, th, h1, h2, h3, h4⟩
      · refine .inl ⟨e.trans h1, fun j th hj ho => ?_⟩
        cases j with
        | zero =>
          have : x = th := by simpa using hj
          subst this
          cases h : (meetB m code (i + 0) x).1 with
          | true => rfl
          | false =>
            rw [Nat.add_zero] at h
            rw [ho, h] at hx
            simp at hx
        | succ j =>
          have := h2 j th (by simpa using hj) ho
          rw [show i + (j + 1) = i + 1 + j by omega]
          exact this
      · refine .inr ⟨j + 1, th, ?_, by simpa using h2, h3, ?_⟩
        · rw [e, h1, show i + 1 + j = i + (j + 1) by omega]
        · rw [show i + (j + 1) = i + 1 + j by omega]
          exact h4
theorem choose_spec (m : Mc) (code : List Mi) (pick : Int) : ∀ (l : List Th) (i : Nat) (f : Int), chooseI m code pick i f l = f ∨ ∃ (j : Nat) (th : Th), chooseI m code pick i f l = ((i + j : Nat) : Int) ∧ l[j]? = some th ∧ th.over = false
  | [], i, f => .inl rfl
  | x :: l, i, f => by
    have tl : ∀ f', (chooseI m code pick (i + 1) f' l = f' ∨ ∃ (j : Nat) (th : Th), chooseI m code pick (i + 1) f' l = ((i + (j + 1) : Nat) : Int) ∧ (x :: l)[j + 1]? = some th ∧ th.over = false) := fun f' => by
      rcases choose_spec m code pick l (i + 1) f' with h | ⟨j, th, h1, h2, h3⟩
      · exact .inl h
      · exact .inr ⟨j, th, by rw [h1, show i + 1 + j = i + (j + 1) by omega], by simpa using h2, h3⟩
    by_cases hx : (x.over || !(meetB m code i x).2) = true
    · have e : chooseI m code pick i f (x :: l) = chooseI m code pick (i + 1) f l := by
        show (if (x.over || !(meetB m code i x).2) = true then _ else _) = _
        rw [if_pos hx]
      rcases tl f with h | ⟨j, th, h1, h2, h3⟩
      · exact .inl (e.trans h)
      · exact .inr ⟨j + 1, th, e.trans h1, h2, h3⟩
    · have ho : x.over = false := by cases h : x.over with
        | true => rw [h] at hx; simp at hx
        | false => rfl
      by_cases hp : pick ≤ (i : Int)
      · refine .inr ⟨0, x, ?_, rfl, ho⟩
        show (if (x.over || !(meetB m code i x).2) = true then _ else if pick ≤ (i : Int) then (i : Int) else _) = _
        rw [if_neg hx, if_pos hp]
        rfl
      · have e : chooseI m code pick i f (x :: l) = chooseI m code pick (i + 1) (if f < 0 then (i : Int) else f) l := by
          show (if (x.over || !(meetB m code i x).2) = true then _ else if pick ≤ (i : Int) then (i : Int) else _) = _
          rw [if_neg hx, if_neg hp]
        rcases tl (if f < 0 then (i : Int) else f) with h | ⟨j, th, h1, h2, h3⟩
        · by_cases hf : f < 0
          · rw [if_pos hf] at h e
            exact .inr ⟨0, x, e.trans h, rfl, ho⟩
          · rw [if_neg hf] at h e
            exact .inl (e.trans h)
        · exact .inr ⟨j + 1, th, e.trans h1, h2, h3⟩
theorem PtA.eq {tb : List Nat} {f : Int} {p p' : Option Addr} (h : PtA tb f p) (h' : PtA tb f p') : p = p' := by
  rcases h with ⟨h1, rfl⟩ | ⟨t, b, rfl, hb, rfl⟩
  · rcases h' with ⟨-, rfl⟩ | ⟨t', b', h2, -, -⟩
    · rfl
    · omega
  · rcases h' with ⟨h2, -⟩ | ⟨t', b', h2, hb', rfl⟩
    · omega
    · obtain rfl : t = t' := by omega
      rw [hb] at hb'
      obtain rfl := Option.some.inj hb'
      rfl
def NxP (C : Ct) (N : Nat) (K : Nat → Obj → Prop) (ps : List Int) (tb : List Nat) (m : Mc) (e : Ending) (w' : World) : Prop := (∃ t b, Hid (aloneI m C.code 0 m.ths = ((t : Nat) : Int) ∧ tb[t]? = some b) ∧ e = .returned (.tuple #[ptr b, .bool false]) ∧ PS C N K w' ps tb m) ∨ (∃ p, Hid (aloneI m C.code 0 m.ths = -1 ∧ PtA tb (chooseI m C.code ((ps[0]?).getD 0) 0 (-1) m.ths) p) ∧ e = .returned (.tuple #[.pointer p, .bool true]) ∧ PS C N K w' ps.tail tb m)
theorem next_c (h : PS C N K w ps tb m) : Calls Try.prog 12 #[ptr C.mb] w (NxP C N K ps tb m) := by
  refine alone_c h (fun t b W h1 h2 h3 => .inl ⟨t, b, ⟨h1, h2⟩, rfl, h.below h3⟩) (fun h1 => ?_)
  have hall : ∀ (t : Nat) (th : Th), m.ths[t]? = some th → th.over = false → (meetB m C.code t th).1 = true := by
    rcases alone_spec m C.code m.ths 0 with ⟨-, h2⟩ | ⟨j, th, h2, -⟩
    · intro t th ht ho
      have := h2 t th ht ho
      rw [Nat.zero_add] at this
      exact this
    · rw [h1] at h2
      omega
  obtain ⟨p, hp⟩ : ∃ p, PtA tb (chooseI m C.code ((ps[0]?).getD 0) 0 (-1) m.ths) p := by
    rcases choose_spec m C.code ((ps[0]?).getD 0) m.ths 0 (-1) with h2 | ⟨j, th, h2, h3, -⟩
    · exact ⟨none, .inl ⟨by rw [h2]; decide, rfl⟩⟩
    · have hl := (List.getElem?_eq_some_iff.1 h3).1
      have htl := h.tl
      refine ⟨some ⟨tb[j]'(by omega), 0, none⟩, .inr ⟨j, tb[j]'(by omega), ?_, List.getElem?_eq_getElem _, rfl⟩⟩
      rw [h2, Nat.zero_add]
  refine ⟨(ps[0]?).getD 0, p, fun W hW => (pick_c (h.below hW)).mono ?_⟩
  rintro e w' ⟨rfl, h4⟩
  refine ⟨rfl, (picked_c h4 hall _).mono ?_⟩
  rintro e' w'' ⟨⟨p', rfl, hp'⟩, hb⟩
  obtain rfl := hp.eq hp'
  exact ⟨rfl, .inr ⟨p, ⟨h1, hp⟩, rfl, h4.below hb⟩⟩
end
end Go.Proofs.Ytpoepbmomfohlaa
