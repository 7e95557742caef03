/- The project's machine: which meeting is done. -/
import Derived.Test.YtpoepbmomfohlaaPmv
namespace Go.Proofs.Ytpoepbmomfohlaa
open Go.RowKit
set_option linter.all false
section
variable {C : Ct} {N N' : Nat} {K : Nat → Obj → Prop} {w w' w1 : World} {ps : List Int} {tb tb' : List Nat} {m m' : Mc} {t b : Nat} {th th' : Th}
/-- What is answered of a number of a thread. -/
def PtA (tb : List Nat) (f : Int) (p : Option Addr) : Prop := (f < 0 ∧ p = none) ∨ ∃ t b : Nat, f = (t : Int) ∧ tb[t]? = some b ∧ p = some ⟨b, 0, none⟩
set_option maxRecDepth 100000 in
set_option maxHeartbeats 1000000 in
theorem picked_c (h : PS C N K w ps tb m) (hall : ∀ (t : Nat) (th : Th), m.ths[t]? = some th → th.over = false → (meetB m C.code t th).1 = true) (pick : Int) : Calls Try.prog 19 #[ptr C.mb, .int .i64 pick] w (fun e w' => (∃ p, e = .returned (.pointer p) ∧ PtA tb (chooseI m C.code pick 0 (-1) m.ths) p) ∧ Below w.heap.size w w') := by
  obtain ⟨o, c, k4, hrow⟩ := h.row
  have lm := h.size
  have hfew := h.few
  have HH : Hid (PS C N K w ps tb m) := h
  have HR : Hid (∀ {W : World} {t b : Nat}, Below w.heap.size w W → tb[t]? = some b → ∃ q, o = some ⟨q, 0, none⟩ ∧ q < W.heap.size ∧ W.cell? ⟨q, t, none⟩ = some (ptr b)) := fun {W t b} hW hb => by
    obtain ⟨q, e, lq, kq⟩ := hrow t b hb
    exact ⟨q, e, Nat.lt_of_lt_of_le lq hW.size, (hW.cell (p := ⟨q, t, none⟩) lq).trans kq⟩
  have HTL : Hid (tb.length = m.ths.length) := h.tl
  clear h hrow
  have HAL : Hid (∀ (t : Nat) (th : Th), m.ths[t]? = some th → th.over = false → (meetB m C.code t th).1 = true) := hall
  clear hall
  go_enter Try.func19, Try.ntmps19
  go_wp2_with fail
  go_loopg [5, 13] m.ths.length (fun gg vf u wr => ∃ (idx : Nat) (f : Int) (p : Option Addr), gg = m.ths.length - idx ∧ vf = .pointer p ∧ u = .int .i64 idx ∧ idx ≤ m.ths.length ∧ Hid (PtA tb f p) ∧ Hid (chooseI m C.code pick 0 (-1) m.ths = chooseI m C.code pick idx f (m.ths.drop idx)) ∧ Hid (Below w.heap.size w wr))
  case atStart => exact ⟨0, -1, none, rfl, rfl, rfl, Nat.zero_le _, .inl ⟨by decide, rfl⟩, rfl, Below.refl _ _⟩
  case round =>
    obtain ⟨idx, f, p, hgk, rfl, rfl, hidx, HP, HA, HB⟩ := hrel
    have HG : Hid (gk = m.ths.length - idx) := hgk
    clear hgk
    by_cases hlt : idx < m.ths.length
    · have hltI : (idx : Int) < (m.ths.length : Int) := by omega
      have hi0 : (0 : Int) ≤ (idx : Int) := by omega
      obtain ⟨th, ht⟩ : ∃ th, m.ths[idx]? = some th := ⟨_, List.getElem?_eq_getElem hlt⟩
      obtain ⟨b, hb⟩ : ∃ b, tb[idx]? = some b := ⟨_, List.getElem?_eq_getElem (by rw [HTL.out]; exact hlt)⟩
      obtain ⟨q, e, lq, kq⟩ := HR.out HB.out hb
      have HE0 : Hid (o = some ⟨q, 0, none⟩) := e
      rw [e]
      have M1 : Hid (PS C N K wr ps tb m) := HH.out.below HB.out
      obtain ⟨at_, -, d0, d1, d3, d5, d6, d7, d8, lb, fz, f0, f1⟩ := M1.out.thr ht hb
      have hd : m.ths.drop idx = th :: m.ths.drop (idx + 1) := by
        obtain ⟨e1, e2⟩ := List.getElem?_eq_some_iff.1 ht
        rw [List.drop_eq_getElem_cons e1, e2]
      have hA := HA.out
      rw [hd] at hA
      have HA2 : Hid (chooseI m C.code pick 0 (-1) m.ths = if th.over || !(meetB m C.code idx th).2 then chooseI m C.code pick (idx + 1) f (m.ths.drop (idx + 1)) else if pick ≤ (idx : Int) then (idx : Int) else chooseI m C.code pick (idx + 1) (if f < 0 then (idx : Int) else f) (m.ths.drop (idx + 1))) := hA
      have HTB : Hid (tb[idx]? = some b) := hb
      obtain ⟨bo, hbo⟩ : ∃ bo, bo = th.over := ⟨_, rfl⟩
      have MT : bo = false → Calls Try.prog 32 #[ptr b] wr (fun e w' => e = .returned (.bool (meetB m C.code idx th).2) ∧ Below wr.heap.size wr w') := fun e => can_c M1.out ht hb (HAL.out idx th ht (hbo ▸ e))
      obtain ⟨bn, hbn⟩ : ∃ bn, bn = (meetB m C.code idx th).2 := ⟨_, rfl⟩
      rw [← hbn] at MT
      rw [← hbn, ← hbo] at HA2
      rw [← hbo] at d8
      clear hA hd hbn hbo e ht hb d0 d3 d5 d6 d7 f0 f1 k4 lm
      have HD : Hid (∀ {W : World}, Below wr.heap.size wr W → W.cell? ⟨b, 1, none⟩ = some (.int .i64 (idx : Int)) ∧ b < W.heap.size) := fun {W} hW => ⟨(hW.cell (p := ⟨b, 1, none⟩) lb).trans d1, Nat.lt_of_lt_of_le lb hW.size⟩
      cases bo with
      | true =>
        have HA3 : Hid (chooseI m C.code pick 0 (-1) m.ths = chooseI m C.code pick (idx + 1) f (m.ths.drop (idx + 1))) := by show _ = _; rw [HA2.out]; rfl
        clear MT
        go_wp2_with fail
        rw [← HE0.out]
        go_roundg (m.ths.length - (idx + 1))
        case measure => rw [HG.out]; exact ms_lt hlt
        case rel => exact ⟨idx + 1, f, p, rfl, rfl, by go_num, hlt, HP.out, HA3.out, HB.out⟩
      | false =>
        have MT2 : Hid (Calls Try.prog 32 #[ptr b] wr (fun e w' => e = .returned (.bool bn) ∧ Below wr.heap.size wr w')) := MT rfl
        clear MT
        cases bn with
        | false =>
          have HA3 : Hid (chooseI m C.code pick 0 (-1) m.ths = chooseI m C.code pick (idx + 1) f (m.ths.drop (idx + 1))) := by show _ = _; rw [HA2.out]; rfl
          go_wp2_with (go_at_call 32; refine MT2.out.mono ?_; rintro e w2 ⟨rfl, hb2⟩)
          rw [← HE0.out]
          go_roundg (m.ths.length - (idx + 1))
          case measure => rw [HG.out]; exact ms_lt hlt
          case rel => exact ⟨idx + 1, f, p, rfl, rfl, by go_num, hlt, HP.out, HA3.out, HB.out.trans (hb2.mono HB.out.size)⟩
        | true =>
          by_cases hpk : pick ≤ (idx : Int)
          · have HA3 : Hid (chooseI m C.code pick 0 (-1) m.ths = (idx : Int)) := by show _ = _; rw [HA2.out]; show (if pick ≤ (idx : Int) then _ else _) = _; rw [if_pos hpk]
            go_wp2_with (go_at_call 32; refine MT2.out.mono ?_; rintro e w2 ⟨rfl, hb2⟩; obtain ⟨y1, yl⟩ := HD.out hb2)
            go_ret
            exact ⟨⟨some ⟨b, 0, none⟩, rfl, by rw [HA3.out]; exact .inr ⟨idx, b, rfl, HTB.out, rfl⟩⟩, HB.out.trans (hb2.mono HB.out.size)⟩
          · rcases HP.out with ⟨hf0, rfl⟩ | ⟨t', b', rfl, hb', rfl⟩
            · have HA3 : Hid (chooseI m C.code pick 0 (-1) m.ths = chooseI m C.code pick (idx + 1) (idx : Int) (m.ths.drop (idx + 1))) := by show _ = _; rw [HA2.out]; show (if pick ≤ (idx : Int) then _ else _) = _; rw [if_neg hpk, if_pos hf0]
              go_wp2_with (go_at_call 32; refine MT2.out.mono ?_; rintro e w2 ⟨rfl, hb2⟩; obtain ⟨y1, yl⟩ := HD.out hb2)
              rw [← HE0.out]
              go_roundg (m.ths.length - (idx + 1))
              case measure => rw [HG.out]; exact ms_lt hlt
              case rel => exact ⟨idx + 1, (idx : Int), some ⟨b, 0, none⟩, rfl, rfl, by go_num, hlt, .inr ⟨idx, b, rfl, HTB.out, rfl⟩, HA3.out, HB.out.trans (hb2.mono HB.out.size)⟩
            · have HTB2 : Hid (tb[t']? = some b') := hb'
              have HA3 : Hid (chooseI m C.code pick 0 (-1) m.ths = chooseI m C.code pick (idx + 1) (t' : Int) (m.ths.drop (idx + 1))) := by show _ = _; rw [HA2.out]; show (if pick ≤ (idx : Int) then _ else _) = _; rw [if_neg hpk, if_neg (by omega)]
              clear hb'
              go_wp2_with (go_at_call 32; refine MT2.out.mono ?_; rintro e w2 ⟨rfl, hb2⟩; obtain ⟨y1, yl⟩ := HD.out hb2)
              rw [← HE0.out]
              go_roundg (m.ths.length - (idx + 1))
              case measure => rw [HG.out]; exact ms_lt hlt
              case rel => exact ⟨idx + 1, (t' : Int), some ⟨b', 0, none⟩, rfl, rfl, by go_num, hlt, .inr ⟨t', b', rfl, HTB2.out, rfl⟩, HA3.out, HB.out.trans (hb2.mono HB.out.size)⟩
    · have hltI : ¬ (idx : Int) < (m.ths.length : Int) := by omega
      have HA3 : Hid (chooseI m C.code pick 0 (-1) m.ths = f) := by show _ = _; rw [HA.out, List.drop_of_length_le (by omega)]; rfl
      clear k4 lm
      go_wp2_with fail
      go_ret
      exact ⟨⟨p, rfl, by rw [HA3.out]; exact HP.out⟩, HB.out⟩
end
end Go.Proofs.Ytpoepbmomfohlaa
