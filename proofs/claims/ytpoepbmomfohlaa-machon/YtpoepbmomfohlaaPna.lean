/- The project's machine: which thread goes on. -/
import Derived.Test.YtpoepbmomfohlaaPmv
namespace Go.Proofs.Ytpoepbmomfohlaa
open Go.RowKit
set_option linter.all false
section
variable {C : Ct} {N N' : Nat} {K : Nat → Obj → Prop} {w w' w1 : World} {ps : List Int} {tb tb' : List Nat} {m m' : Mc} {t b : Nat} {th th' : Th}
set_option maxRecDepth 100000 in
set_option maxHeartbeats 1000000 in
theorem alone_c (h : PS C N K w ps tb m) {R : Ending → World → Prop} (hyes : ∀ (t b : Nat) W, aloneI m C.code 0 m.ths = (t : Int) → tb[t]? = some b → Below w.heap.size w W → R (.returned (.tuple #[ptr b, .bool false])) W) (hno : aloneI m C.code 0 m.ths = -1 → ∃ v p, ∀ W, Below w.heap.size w W → Calls Try.prog 20 #[ptr C.mb] W (fun e w' => e = .returned (.int .i64 v) ∧ Calls Try.prog 19 #[ptr C.mb, .int .i64 v] w' (fun e' w'' => e' = .returned (.pointer p) ∧ R (.returned (.tuple #[.pointer p, .bool true])) w''))) : Calls Try.prog 12 #[ptr C.mb] w R := by
  obtain ⟨o, c, k4, hrow⟩ := h.row
  have lm := h.size
  have hfew := h.few
  have HH : Hid (PS C N K w ps tb m) := h
  have HR : Hid (∀ {W : World} {t b : Nat}, Below w.heap.size w W → tb[t]? = some b → ∃ q, o = some ⟨q, 0, none⟩ ∧ q < W.heap.size ∧ W.cell? ⟨q, t, none⟩ = some (ptr b)) := fun {W t b} hW hb => by
    obtain ⟨q, e, lq, kq⟩ := hrow t b hb
    exact ⟨q, e, Nat.lt_of_lt_of_le lq hW.size, (hW.cell (p := ⟨q, t, none⟩) lq).trans kq⟩
  have HTL : Hid (tb.length = m.ths.length) := h.tl
  clear h hrow
  have HY : Hid (∀ (t b : Nat) W, aloneI m C.code 0 m.ths = (t : Int) → tb[t]? = some b → Below w.heap.size w W → R (.returned (.tuple #[ptr b, .bool false])) W) := hyes
  have HN : Hid _ := hno
  clear hyes hno
  go_enter Try.func12, Try.ntmps12
  go_wp2_with fail
  go_loopg [11] m.ths.length (fun gg u wr => ∃ idx : Nat, gg = m.ths.length - idx ∧ u = .int .i64 idx ∧ idx ≤ m.ths.length ∧ Hid (aloneI m C.code 0 m.ths = aloneI m C.code idx (m.ths.drop idx)) ∧ Hid (Below w.heap.size w wr))
  case atStart => exact ⟨0, rfl, rfl, Nat.zero_le _, rfl, Below.refl _ _⟩
  case round =>
    obtain ⟨idx, hgk, rfl, hidx, HA, HB⟩ := hrel
    have HG : Hid (gk = m.ths.length - idx) := hgk
    clear hgk
    by_cases hlt : idx < m.ths.length
    · have hltI : (idx : Int) < (m.ths.length : Int) := by omega
      have hi0 : (0 : Int) ≤ (idx : Int) := by omega
      obtain ⟨th, ht⟩ : ∃ th, m.ths[idx]? = some th := ⟨_, List.getElem?_eq_getElem hlt⟩
      obtain ⟨b, hb⟩ : ∃ b, tb[idx]? = some b := ⟨_, List.getElem?_eq_getElem (by rw [HTL.out]; exact hlt)⟩
      obtain ⟨q, e, lq, kq⟩ := HR.out HB.out hb
      have HE0 : Hid (o = some ⟨q, 0, none⟩) := e
      rw [e]
      have M1 : Hid (PS C N K wr ps tb m) := HH.out.below HB.out
      obtain ⟨at_, -, d0, d1, d3, d5, d6, d7, d8, lb, fz, f0, f1⟩ := M1.out.thr ht hb
      have hd : m.ths.drop idx = th :: m.ths.drop (idx + 1) := by
        obtain ⟨e1, e2⟩ := List.getElem?_eq_some_iff.1 ht
        rw [List.drop_eq_getElem_cons e1, e2]
      have hA := HA.out
      rw [hd] at hA
      have HA2 : Hid (aloneI m C.code 0 m.ths = if !th.over && !(meetB m C.code idx th).1 then (idx : Int) else aloneI m C.code (idx + 1) (m.ths.drop (idx + 1))) := hA
      have MT := meets_c M1.out ht hb
      have HTB : Hid (tb[idx]? = some b) := hb
      obtain ⟨bm, hbm⟩ : ∃ bm, bm = (meetB m C.code idx th).1 := ⟨_, rfl⟩
      obtain ⟨bo, hbo⟩ : ∃ bo, bo = th.over := ⟨_, rfl⟩
      rw [← hbm] at MT
      rw [← hbm, ← hbo] at HA2
      rw [← hbo] at d8
      clear hA hd hbm hbo e ht hb d0 d1 d3 d5 d6 d7 fz f0 f1 k4 lm
      cases bo with
      | true =>
        have HA3 : Hid (aloneI m C.code 0 m.ths = aloneI m C.code (idx + 1) (m.ths.drop (idx + 1))) := by show _ = _; rw [HA2.out]; rfl
        go_wp2_with fail
        rw [← HE0.out]
        go_roundg (m.ths.length - (idx + 1))
        case measure => rw [HG.out]; exact ms_lt hlt
        case rel => exact ⟨idx + 1, rfl, by go_num, hlt, HA3.out, HB.out⟩
      | false =>
        cases bm with
        | true =>
          have HA3 : Hid (aloneI m C.code 0 m.ths = aloneI m C.code (idx + 1) (m.ths.drop (idx + 1))) := by show _ = _; rw [HA2.out]; rfl
          go_wp2_with (go_at_call 18; refine MT.mono ?_; rintro e w2 ⟨rfl, hb2⟩)
          rw [← HE0.out]
          go_roundg (m.ths.length - (idx + 1))
          case measure => rw [HG.out]; exact ms_lt hlt
          case rel => exact ⟨idx + 1, rfl, by go_num, hlt, HA3.out, HB.out.trans (hb2.mono HB.out.size)⟩
        | false =>
          have HA3 : Hid (aloneI m C.code 0 m.ths = (idx : Int)) := by show _ = _; rw [HA2.out]; rfl
          go_wp2_with (go_at_call 18; refine MT.mono ?_; rintro e w2 ⟨rfl, hb2⟩)
          exact HY.out idx b _ HA3.out HTB.out (HB.out.trans (hb2.mono HB.out.size))
    · have hltI : ¬ (idx : Int) < (m.ths.length : Int) := by omega
      have HA3 : aloneI m C.code 0 m.ths = -1 := by rw [HA.out, List.drop_of_length_le (by omega)]; rfl
      obtain ⟨v, p, hN⟩ := HN.out HA3
      have HN2 := hN wr HB.out
      clear k4 lm hfew hN HA3
      go_wp2_with (first | (go_at_call 19; refine h2.mono ?_; rintro e w3 ⟨rfl, h3⟩) | (go_at_call 20; refine HN2.mono ?_; rintro e w2 ⟨rfl, h2⟩))
      exact h3
end
end Go.Proofs.Ytpoepbmomfohlaa
