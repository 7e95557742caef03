/- The document's heap: New, Has, Count. -/
import Derived.Test.YtflifialjdhenaaMba
namespace Go.Proofs.Ytflifialjdhenaa
open Go.RowKit
set_option linter.all false
theorem KX.drewN {X : Nat → Prop} {B : Nat} {a w : World} (h : KX X B a w) (m : Nat) : KX X B a (w.drewN m) := ⟨h.os, h.tape, h.output, h.size, h.block⟩
set_option maxRecDepth 100000 in
set_option maxHeartbeats 1000000 in
theorem has53 {w : World} {base hb : Nat} {size : Int} {bo : Option Addr} {cp : Nat} {bs : List (Int × Int)} (h : HP w base hb size bo cp bs) {at_ : Int} (hat : I64 at_) : Calls Try.prog 54 #[.pointer (some ⟨hb, 0, none⟩), .int .i64 at_] w (Gives w (.bool (decide (0 ≤ hfindI bs at_)))) := by
  have HC : Hid (Calls Try.prog 70 #[.pointer (some ⟨hb, 0, none⟩), .int .i64 at_] w (Gives w (.int .i64 (hfindI bs at_)))) := find60 h hat
  clear h
  go_enter Try.func54, Try.ntmps54
  go_wp2_with (go_at_call 70; refine HC.out.mono ?_; rintro e w2 ⟨rfl, m, rfl⟩)
  go_ret
  exact ⟨rfl, _, rfl⟩
set_option maxRecDepth 100000 in
set_option maxHeartbeats 1000000 in
theorem count37 {w : World} {base hb : Nat} {size : Int} {bo : Option Addr} {cp : Nat} {bs : List (Int × Int)} (h : HP w base hb size bo cp bs) : Calls Try.prog 28 #[.pointer (some ⟨hb, 0, none⟩)] w (Gives w (.int .i64 bs.length)) := by
  have c_h := fun o => cell_of_row w _ o _ 68 (0, 0) h.blk
  have l_h : hb < w.heap.size := (Array.getElem?_eq_some_iff.1 h.blk).1
  clear h
  go_enter Try.func28, Try.ntmps28
  go_wp2_with fail
  go_ret
  exact ⟨rfl, 0, rfl⟩
set_option maxRecDepth 100000 in
set_option maxHeartbeats 1000000 in
theorem new16 {w : World} {size : Int} : Calls Try.prog 11 #[.int .i64 size] w (fun e w' => e = .returned (.pointer (some ⟨w.heap.size, 0, none⟩)) ∧ w' = w.alloc (.cells #[.int .i64 size, .slice none 0 0] 68)) := by
  go_enter Try.func11, Try.ntmps11
  go_wp2_with fail
  go_ret
  exact ⟨rfl, rfl⟩
end Go.Proofs.Ytflifialjdhenaa
namespace Go.Proofs.Ytflifialjdhenaa
open Go.RowKit
set_option linter.all false
/-- What a call leaves that may write the heap alone. -/
def HpPost (w : World) (base hb : Nat) (size : Int) (ob : Option Nat) (v : Value) (bs' : List (Int × Int)) (e : Ending) (w' : World) : Prop := e = .returned v ∧ (∃ bo' cp', HP w' base hb size bo' cp' bs' ∧ ∀ b, (Value.slice bo' bs'.length cp').ownBlock = some b → w.heap.size ≤ b ∨ ob = some b) ∧ KX (fun b => b = hb) w.heap.size w w'
theorem own_len {o : Option Addr} {n n' c c' b : Nat} (h : (Value.slice o n c).ownBlock = some b) : (Value.slice o n' c').ownBlock = some b := by
  cases o with
  | none => simp [Value.ownBlock] at h
  | some a => exact h
def allocV (size : Int) (bs : List (Int × Int)) (n : Int) : Value := match halloc size bs n with
  | some x => .tuple #[.int .i64 x.1, .bool true]
  | none => .tuple #[.int .i64 0, .bool false]
def allocB (size : Int) (bs : List (Int × Int)) (n : Int) : List (Int × Int) := match halloc size bs n with
  | some x => x.2
  | none => bs
section
variable {sl el size bytes : Nat} {z : Value}
theorem appA (hu : Try.prog.underlying sl = some (.slice el)) (hi : (Try.prog.info? el).map (fun i => (i.zero, i.size, i.bytes)) = some (some z, size, bytes)) (hz : z.cells.size = size) (hs : 0 < size) {W : World} {base : Nat} {v : Value} {n : Nat} {xs : List Value} (h : W.ownsRow base el size v n xs) (hb : base ≤ W.heap.size) {a : Addr} {m c : Nat} {ys : List Value} (hl : ys.length = m * size) (hx : ∀ j u, ys[j]? = some u → W.cell? (a.add j) = some u) (one : ∀ u ∈ ys, u.oneCell' = true) (hm : n + m ≤ maxLen) (hn : (n + m) * bytes ≤ 140737488355328) (ty : TypeId) :
    ∃ v' w', (Builtin.append_ #[sl, sl] ty #[v, .slice (some a) m c]).run Try.prog W = .ok v' w' ∧ App W base el size v n xs ys m v' w' := by
  obtain ⟨i0, hi0, hz0, hz1, hz2⟩ := info_parts hi
  obtain ⟨v', w', hr, h2, h3, _, h5⟩ := run_append_own_at (P := Try.prog) W base sl ty el i0 z size bytes hu hi0 hz0 hz1 hz2 hz hs v n xs h a m c ys hl hx one hm hn hb
  refine ⟨v', w', hr, ⟨?_, h2, h3, h5⟩⟩
  rcases h2.2 with ⟨x1, x2⟩ | ⟨x, y, zz, x1, _⟩
  · exact ⟨none, 0, by rw [x1, x2]⟩
  · exact ⟨_, _, x1⟩
end
theorem bkC_one {bs : List (Int × Int)} : ∀ u ∈ (bs.map bkC).flatten, u.oneCell' = true := by
  intro u hu
  obtain ⟨l, hl, hu⟩ := List.mem_flatten.1 hu
  obtain ⟨x, _, rfl⟩ := List.mem_map.1 hl
  simp [bkC] at hu
  rcases hu with rfl | rfl <;> rfl
theorem bkC_take {bs : List (Int × Int)} (k : Nat) (h : k ≤ bs.length) : (bs.map bkC).flatten.take (k * 2) = ((bs.take k).map bkC).flatten := by
  induction bs generalizing k with
  | nil => simp at h; subst h; rfl
  | cons x r ih =>
    cases k with
    | zero => rfl
    | succ k =>
      have h2 : (k + 1) * 2 = 2 + k * 2 := by omega
      simp only [List.map_cons, List.flatten_cons, List.take_succ_cons]
      rw [h2, List.take_append, show (bkC x).length = 2 from rfl, Nat.add_sub_cancel_left, ih k (by simpa using h), List.take_of_length_le (by show 2 ≤ _; omega)]
theorem bkC_flat {bs : List (Int × Int)} : (bs.map bkC).flatten.length = bs.length * 2 := by
  induction bs with
  | nil => rfl
  | cons x r ih => simp only [List.map_cons, List.flatten_cons, List.length_append, ih, List.length_cons]; show 2 + _ = _; omega
/-- The first k blocks. -/
theorem bk_pre {w : World} {base : Nat} {bo : Option Addr} {cp : Nat} {bs : List (Int × Int)} (h : w.ownsRow base 105 2 (.slice bo bs.length cp) bs.length (bs.map bkC).flatten) {k : Nat} (hk : k ≤ bs.length) : w.ownsRow base 105 2 (.slice bo k cp) k ((bs.take k).map bkC).flatten := by
  refine ⟨by rw [bkC_flat, List.length_take]; omega, ?_⟩
  rcases h.2 with ⟨h1, h2⟩ | ⟨g, cap, cur, h1, h2, h3, h4, h5, h6, h7⟩
  · simp at h1
    have : k = 0 := by omega
    subst this
    exact .inl ⟨by simp [h1], rfl⟩
  · simp at h1
    obtain ⟨rfl, rfl⟩ := h1
    refine .inr ⟨g, cp, cur, rfl, h2, h3, by omega, h5, h6, ?_⟩
    rw [← bkC_take k hk, ← h7, List.take_take, Nat.min_eq_left (by omega)]
/-- What follows behind k blocks. -/
theorem hfit_drop {n : Int} {bs : List (Int × Int)} {lo : Int} {k : Nat} (hk : k < bs.length) {a s : Int} (hx : bs[k]? = some (a, s)) : bs.drop k = (a, s) :: bs.drop (k + 1) := by
  obtain ⟨h1, h2⟩ := List.getElem?_eq_some_iff.1 hx
  rw [List.drop_eq_getElem_cons h1, h2]
theorem hfit_cons {n p a s : Int} {r : List (Int × Int)} : hfit n p ((a, s) :: r) = if a - p < n then ((hfit n (a + s) r).1 + 1, (hfit n (a + s) r).2) else (0, p) := rfl
theorem infB : (Try.prog.info? 105).map (fun i => (i.zero, i.size, i.bytes)) = some (some (.agg #[.int .i64 0, .int .i64 0]), 2, 16) := by kernel_rfl
/-- The first k blocks, in a row of their own. -/
theorem run_pre {W : World} {base : Nat} {bo : Option Addr} {cp : Nat} {bs : List (Int × Int)} (h : W.ownsRow base 105 2 (.slice bo bs.length cp) bs.length (bs.map bkC).flatten) (hb : base ≤ W.heap.size) (hl : bs.length ≤ 4194304) {k : Nat} (hk : k ≤ bs.length) (ty : TypeId) {ad : Nat} (had : ad = W.heap.size) :
    ∃ v' w', (Builtin.append_ #[66, 66] ty #[.slice (some ⟨ad, 0, none⟩) 0 0, .slice bo k cp]).run Try.prog (W.alloc (.cells #[] 105)) = .ok v' w' ∧ ∃ o' c', v' = .slice o' k c' ∧ w'.ownsRow W.heap.size 105 2 (.slice o' k c') k ((bs.take k).map bkC).flatten ∧ Below W.heap.size W w' := by
  subst had
  have r0 : (W.alloc (.cells #[] 105)).ownsRow W.heap.size 105 2 (.slice (some ⟨W.heap.size, 0, none⟩) 0 0) 0 [] := World.ownsRow_made W #[] 0 (Nat.le_refl _) (Nat.zero_le _) rfl
  have rx := ownsRow_same (bk_pre h hk) (w' := W.alloc (.cells #[] 105)) (fun b _ hl => Below.heap_alloc _ _ _ hl)
  obtain ⟨v', w', hr, A⟩ := appN Try.underlying66 infB rfl (by decide) r0 (by simp) rx bkC_one (by unfold maxLen; omega) (by omega) ty
  obtain ⟨o', c', rfl⟩ := A.shape
  have r2 := A.row
  rw [Nat.zero_add] at r2
  refine ⟨_, w', hr, o', c', by rw [Nat.zero_add], by simpa using r2, A.below (al1 W _).1 (by simp) (fun b e => by simp [Value.ownBlock] at e; omega)⟩
theorem bkC_drop {bs : List (Int × Int)} (k : Nat) : (bs.map bkC).flatten.drop (k * 2) = ((bs.drop k).map bkC).flatten := by
  induction bs generalizing k with
  | nil => simp
  | cons x r ih =>
    cases k with
    | zero => rfl
    | succ k =>
      have h2 : (k + 1) * 2 = (bkC x).length + k * 2 := by show _ = 2 + _; omega
      simp only [List.map_cons, List.flatten_cons, List.drop_succ_cons]
      rw [h2, List.drop_append, List.drop_of_length_le (by omega), List.nil_append, Nat.add_sub_cancel_left, ih k]
theorem bk_rest {w : World} {g k : Nat} {bs : List (Int × Int)} {cur : Array Value} (hg : w.heap[g]? = some (.cells cur 105 (0, 0))) (htk : cur.toList.take (bs.length * 2) = (bs.map bkC).flatten) (j : Nat) (u : Value) (hu : ((bs.drop k).map bkC).flatten[j]? = some u) : w.cell? ((⟨g, k * 2, none⟩ : Addr).add j) = some u := by
  rw [← bkC_drop, List.getElem?_drop, ← htk, List.getElem?_take] at hu
  split at hu
  · have hadd : (⟨g, k * 2, none⟩ : Addr).add j = ⟨g, k * 2 + j, none⟩ := by unfold Addr.add; split <;> simp_all
    rw [hadd, cell_of_row w g _ cur 105 (0, 0) hg]
    simpa using hu
  · cases hu
theorem nil_rest {wr w2 : World} {p n : Int} {o2 : Option Addr} {c2 : Nat} (row2 : w2.ownsRow wr.heap.size 105 2 (.slice o2 (0 + 1) c2) (0 + 1) ((([] : List (Int × Int)).take 0 ++ [(p, n)]).map bkC).flatten) (hb2 : Below wr.heap.size wr w2) (ty : TypeId) : ∃ v' w', (Builtin.append_ #[66, 66] ty #[.slice o2 (0 + 1) c2, .slice none 0 0]).run Try.prog w2 = .ok v' w' ∧ ∃ o' c', v' = .slice o' (([] : List (Int × Int)).length + 1) c' ∧ w'.ownsRow wr.heap.size 105 2 (.slice o' (([] : List (Int × Int)).length + 1) c') (([] : List (Int × Int)).length + 1) ((([] : List (Int × Int)).take 0 ++ [(p, n)] ++ ([] : List (Int × Int)).drop 0).map bkC).flatten ∧ Below wr.heap.size wr w' := by
  obtain ⟨v', w', hr, A⟩ := appN Try.underlying66 infB rfl (by decide) row2 hb2.size (World.ownsRow_nil w2 0 105 2) (fun u hu => by cases hu) (by unfold maxLen; omega) (by omega) ty
  obtain ⟨o', c', rfl⟩ := A.shape
  exact ⟨_, w', hr, o', c', rfl, by simpa using A.row, A.below hb2 hb2.size (fun b e => (row2.lt b e).1)⟩
/-- One block more. -/
theorem run_one {W w1 : World} {o1 : Option Addr} {c1 k : Nat} {bs : List (Int × Int)} (hk : bs.length = k) (h : w1.ownsRow W.heap.size 105 2 (.slice o1 k c1) k (bs.map bkC).flatten) (hb : Below W.heap.size W w1) (hl : k ≤ 4194304) (p n : Int) (ty : TypeId) {ad : Nat} (had : ad = w1.heap.size) :
    ∃ v' w', (Builtin.append_ #[66, 66] ty #[.slice o1 k c1, .slice (some ⟨ad, 0, none⟩) 1 1]).run Try.prog (w1.alloc (.cells #[.int .i64 p, .int .i64 n] 105)) = .ok v' w' ∧ ∃ o' c', v' = .slice o' (k + 1) c' ∧ w'.ownsRow W.heap.size 105 2 (.slice o' (k + 1) c') (k + 1) ((bs ++ [(p, n)]).map bkC).flatten ∧ Below W.heap.size W w' := by
  subst hk
  obtain ⟨v', w', hr, A⟩ := app1 Try.underlying66 infB rfl (by decide) h hb.size #[.int .i64 p, .int .i64 n] rfl (fun u hu => by simp at hu; rcases hu with rfl | rfl <;> rfl) (by unfold maxLen; omega) (by omega) ty had
  obtain ⟨o', c', rfl⟩ := A.shape
  refine ⟨_, w', hr, o', c', rfl, ?_, A.below (hb.alloc hb.size _) (by simp; have := hb.size; omega) (fun b e => (h.lt b e).1)⟩
  rw [List.map_append, List.flatten_append]
  exact A.row
/-- What is left of the blocks, behind them. -/
theorem run_rest {W w2 : World} {o2 : Option Addr} {c2 k : Nat} {bs : List (Int × Int)} (hk : bs.length = k) (h : w2.ownsRow W.heap.size 105 2 (.slice o2 k c2) k (bs.map bkC).flatten) (hb : Below W.heap.size W w2) (hl : k ≤ 4194305) {a : Addr} {c m : Nat} {rs : List (Int × Int)} (hm : rs.length = m) (hr : m ≤ 4194304) (hx : ∀ j u, (rs.map bkC).flatten[j]? = some u → w2.cell? (a.add j) = some u) (ty : TypeId) :
    ∃ v' w', (Builtin.append_ #[66, 66] ty #[.slice o2 k c2, .slice (some a) m c]).run Try.prog w2 = .ok v' w' ∧ ∃ o' c', v' = .slice o' (k + m) c' ∧ w'.ownsRow W.heap.size 105 2 (.slice o' (k + m) c') (k + m) ((bs ++ rs).map bkC).flatten ∧ Below W.heap.size W w' := by
  subst hk hm
  obtain ⟨v', w', hr, A⟩ := appA Try.underlying66 infB rfl (by decide) h hb.size (c := c) bkC_flat hx bkC_one (by unfold maxLen; omega) (by omega) ty
  obtain ⟨o', c', rfl⟩ := A.shape
  refine ⟨_, w', hr, o', c', rfl, ?_, A.below hb hb.size (fun b e => (h.lt b e).1)⟩
  rw [List.map_append, List.flatten_append]
  exact A.row
set_option maxRecDepth 100000 in
set_option maxHeartbeats 1000000 in
theorem alloc55 {w : World} {base hb : Nat} {size : Int} {bo : Option Addr} {cp : Nat} {bs : List (Int × Int)} (h : HP w base hb size bo cp bs) (hsz : size ≤ 4194304) {n : Int} (hn : I64 n) : Calls Try.prog 56 #[.pointer (some ⟨hb, 0, none⟩), .int .i64 n] w (HpPost w base hb size (Value.slice bo bs.length cp).ownBlock (allocV size bs n) (allocB size bs n)) := by
  obtain ⟨ob, hob⟩ : ∃ ob, ob = (Value.slice bo bs.length cp).ownBlock := ⟨_, rfl⟩
  have HOB : Hid (ob = (Value.slice bo bs.length cp).ownBlock) := hob
  rw [← hob]
  clear hob
  have HH : Hid (HP w base hb size bo cp bs) := h
  have c_h := fun o => cell_of_row w _ o _ 68 (0, 0) h.blk
  have l_h : hb < w.heap.size := (Array.getElem?_eq_some_iff.1 h.blk).1
  have hbl : bs.length ≤ 4194304 := by have := h.ok.len; omega
  have hcap : bs.length ≤ cp := by
    rcases h.row.2 with ⟨h1, h2⟩ | ⟨g, cap, cur, h1, h2, h3, h4, _⟩
    · simp at h1; omega
    · simp at h1; omega
  clear h
  have HNO : Hid (halloc size bs n = none → ∀ m, HpPost w base hb size ob (allocV size bs n) (allocB size bs n) (.returned (.tuple #[.int .i64 0, .bool false])) (w.drewN m)) := fun e m => by
    unfold allocV allocB
    rw [e]
    exact ⟨rfl, ⟨bo, cp, HH.out.drewN m, fun b h => .inr (HOB.out.trans h)⟩, (KX.refl _ _ _).drewN m⟩
  by_cases h1 : n < 1
  · have HN : Hid (halloc size bs n = none) := by unfold halloc; rw [if_pos (.inl h1)]; rfl
    go_enter Try.func56, Try.ntmps56
    go_wp2_with fail
    go_ret2
    exact HNO.out HN.out 0
  · by_cases h2 : size < n
    · have HN : Hid (halloc size bs n = none) := by unfold halloc; rw [if_pos (.inr h2)]; rfl
      go_enter Try.func56, Try.ntmps56
      go_wp2_with fail
      go_ret2
      exact HNO.out HN.out 0
    · have hs1 : (1 : Int) ≤ size := by omega
      go_enter Try.func56, Try.ntmps56
      go_wp2_with fail
      go_loopg [6, 7] bs.length (fun gg v6 v7 wr => ∃ (k : Nat) (p : Int), gg = bs.length - k ∧ v6 = .int .i64 p ∧ v7 = .int .i64 k ∧ k ≤ bs.length ∧ Hid (hfit n 1 bs = ((hfit n p (bs.drop k)).1 + k, (hfit n p (bs.drop k)).2)) ∧ Hid (HOK size p (bs.drop k)) ∧ 1 ≤ p ∧ Hid (∃ m, wr = w.drewN m))
      case atStart => exact ⟨0, 1, rfl, rfl, rfl, Nat.zero_le _, rfl, HH.out.ok, Int.le_refl _, ⟨0, rfl⟩⟩
      case round =>
        obtain ⟨k, p, hgk, rfl, rfl, hk, HF, HO, hp, HM⟩ := hrel
        have HH : Hid (HP wr base hb size bo cp bs ∧ ∀ m, ∃ m', wr.drewN m = w.drewN m') := by
          obtain ⟨m, rfl⟩ := HM.out
          exact ⟨HH.out.drewN m, fun m' => ⟨m + m', World.drewN_drewN _ _ _⟩⟩
        clear c_h l_h
        have c_h := fun o => cell_of_row wr _ o _ 68 (0, 0) HH.out.1.blk
        have l_h : hb < wr.heap.size := (Array.getElem?_eq_some_iff.1 HH.out.1.blk).1
        have HG : Hid (gk = bs.length - k) := hgk
        have hpe := HO.out.end_
        clear hgk
        by_cases hlt : k < bs.length
        case' pos =>
          have hltI : (k : Int) < (bs.length : Int) := by omega
          obtain ⟨⟨a, s⟩, hx⟩ : ∃ x, bs[k]? = some x := ⟨_, List.getElem?_eq_getElem hlt⟩
          obtain ⟨g, rfl, hg, c0, c1⟩ := HH.out.1.nth hx
          have hab := HH.out.1.ok.at hx
          have hd := hfit_drop (n := n) (lo := p) hlt hx
          have hoo := HO.out
          rw [hd] at hoo
          have hwa : wrap64 (a - p) = a - p := by unfold wrap64; omega
          have hws : wrap64 (a + s) = a + s := by unfold wrap64; omega
          by_cases hfi : a - p < n
          case pos =>
            have HX : Hid (hfit n 1 bs = ((hfit n (a + s) (bs.drop (k + 1))).1 + (k + 1), (hfit n (a + s) (bs.drop (k + 1))).2) ∧ HOK size (a + s) (bs.drop (k + 1)) ∧ 1 ≤ a + s) := by
              refine ⟨?_, hoo.2.2, by omega⟩
              rw [HF.out, hd, hfit_cons, if_pos hfi]
              show (_ + 1 + k, _) = _
              rw [Nat.add_right_comm, Nat.add_assoc]
            clear hx hd hoo
            go_wp2_with fail
            go_quiet (fail)
            go_wp2_with fail
            go_roundg (bs.length - (k + 1))
            case measure => rw [HG.out]; omega
            case rel => exact ⟨k + 1, a + s, rfl, rfl, by go_num, hlt, HX.out.1, HX.out.2.1, HX.out.2.2, HH.out.2 _⟩
          case' neg =>
            have hF : hfit n 1 bs = (k, p) := by rw [HF.out, hd, hfit_cons, if_neg hfi]; simp
            have HE : Hid (hfit n 1 bs = (k, p)) := hF
            clear hF hx hd hoo
            go_upto_region 7 with fail
            clear hg c0 c1 hab hwa hws hfi hltI
        case' neg =>
          have hF : hfit n 1 bs = (k, p) := by
            obtain rfl : k = bs.length := by omega
            rw [HF.out, List.drop_length]
            simp [hfit]
          have HE : Hid (hfit n 1 bs = (k, p)) := hF
          have hltI : ¬ (k : Int) < (bs.length : Int) := by omega
          clear hF
          go_upto_region 7 with fail
        all_goals
          have hwn : wrap64 (size - n) = size - n := by unfold wrap64; omega
          have hwn1 : wrap64 (size - n + 1) = size - n + 1 := by unfold wrap64; omega
          by_cases hroom : size - n + 1 < p
          · have HN : Hid (halloc size bs n = none) := by
              unfold halloc
              rw [if_neg (by omega), HE.out, if_pos hroom]
              rfl
            go_wp2_with fail
            go_ret2
            obtain ⟨m, hm⟩ := HM.out; rw [hm]; exact HNO.out HN.out m
          · have HN : Hid (halloc size bs n = some (p, bs.take k ++ (p, n) :: bs.drop k)) := by
              unfold halloc
              rw [if_neg (by omega), HE.out, if_neg hroom]
              rfl
            have hkc : (k : Int) ≤ (cp : Int) := by omega
            have hk0 : (0 : Int) ≤ (k : Int) := by omega
            have hbw : base ≤ wr.heap.size := Nat.le_trans HH.out.1.hb (Nat.le_of_lt l_h)
            have HR := HH.out.1.row
            go_upto_region 10 with (at_builtin; refine wp_runG 66 (by rfl) (by rfl) (by rfl) (by rfl) (run_pre HR hbw hbl hk _ rfl) ?_; rintro v1 w1 ⟨o1, c1, rfl, row1, hb1⟩)
            have hkl : (bs.take k).length = k := by rw [List.length_take]; omega
            have HR1 := fun ty {ad : Nat} (h : ad = w1.heap.size) => run_one hkl row1 hb1 (by omega) p n ty h
            go_upto_region 11 with (at_builtin; refine wp_runG 66 (by rfl) (by rfl) (by rfl) (by rfl) (HR1 _ rfl) ?_; rintro v2 w2 ⟨o2, c2, rfl, row2, hb2⟩)
            have hb2h := (hb2.block _ l_h).trans HH.out.1.blk
            have c_h2 := fun o => cell_of_row w2 _ o _ 68 (0, 0) hb2h
            have f_h2 := fun o => frozen_of_row w2 _ o _ 68 hb2h
            have l_h2 : hb < w2.heap.size := (Array.getElem?_eq_some_iff.1 hb2h).1
            have hkb : (k : Int) ≤ (bs.length : Int) := by omega
            have hk2 : (bs.take k ++ [(p, n)]).length = k + 1 := by rw [List.length_append, hkl]; rfl
            have hdl : (bs.drop k).length = bs.length - k := List.length_drop
            have HPO : Hid (∀ (o' : Option Addr) (c' : Nat) (w3 : World), w3.ownsRow wr.heap.size 105 2 (.slice o' (bs.length + 1) c') (bs.length + 1) ((bs.take k ++ [(p, n)] ++ bs.drop k).map bkC).flatten → Below wr.heap.size wr w3 → HpPost w base hb size ob (allocV size bs n) (allocB size bs n) (.returned (.tuple #[.int .i64 p, .bool true])) (w3.setCell ⟨hb, 1, none⟩ (.slice o' (bs.length + 1) c'))) := by
              intro o' c' w3 row3 hb3
              have hlen : (bs.take k ++ (p, n) :: bs.drop k).length = bs.length + 1 := by
                rw [List.length_append, List.length_cons, hkl, hdl]; omega
              have hb3h := (hb3.block _ l_h).trans HH.out.1.blk
              have hblk := heap_setCell_same w3 hb 1 _ 68 (.slice o' (bs.length + 1) c') hb3h
              unfold allocV allocB
              rw [HN.out]
              refine ⟨rfl, ⟨o', c', ⟨?_, ?_, HH.out.1.hb, ?_, HH.out.1.sz⟩, fun b hbo => .inl ?_⟩, ?_⟩
              · rw [hblk, hlen]
                rfl
              · rw [hlen]
                have e : bs.take k ++ (p, n) :: bs.drop k = bs.take k ++ [(p, n)] ++ bs.drop k := by simp
                show World.ownsRow _ _ _ _ _ _ ((bs.take k ++ (p, n) :: bs.drop k).map bkC).flatten
                rw [e]
                exact ownsRow_mono (ownsRow_same row3 (fun b hb' hl => Below.heap_setCell _ _ _ _ (fun e => by
                  subst e
                  have := (row3.lt _ hb').1
                  omega))) hbw
              · have := HOK.put (show 1 ≤ n by omega) HH.out.1.ok (by rw [HE.out]; show p ≤ _; omega)
                rw [HE.out] at this
                exact this
              · obtain ⟨m, hm⟩ := HM.out
                have h5 := (row3.lt b (own_len hbo)).1
                rw [hm] at h5
                exact h5
              · obtain ⟨m, hm⟩ := HM.out
                rw [hm] at hb3
                refine KX.setCell (p := ⟨hb, 1, none⟩) (X := fun b => b = hb) ?_ (.inr rfl) _
                exact ⟨hb3.os, hb3.tape, hb3.output, hb3.size, fun b hb _ => hb3.block b hb⟩
            rcases HH.out.1.row.2 with ⟨hn1, hn2⟩ | ⟨g, cap, cur, hn1, -, hg1, -, -, hcs, htk⟩
            case' inl =>
              first
                | (exfalso; simp at hn1; done)
                | (simp at hn1; obtain ⟨rfl, rfl, rfl⟩ := hn1; obtain rfl : k = 0 := (by simpa using hk); have HRX := nil_rest row2 hb2)
            case' inr =>
              simp at hn1
              obtain ⟨rfl, rfl⟩ := hn1
              have hcell : Hid (∀ (a : Addr) (c : Nat), (∀ j u, ((bs.drop k).map bkC).flatten[j]? = some u → w2.cell? (a.add j) = some u) → ∀ ty, ∃ v' w', (Builtin.append_ #[66, 66] ty #[.slice o2 (k + 1) c2, .slice (some a) (bs.length - k) c]).run Try.prog w2 = .ok v' w' ∧ ∃ o' c', v' = .slice o' (bs.length + 1) c' ∧ w'.ownsRow wr.heap.size 105 2 (.slice o' (bs.length + 1) c') (bs.length + 1) ((bs.take k ++ [(p, n)] ++ bs.drop k).map bkC).flatten ∧ Below wr.heap.size wr w') := fun a c hx ty => by
                have := run_rest hk2 row2 hb2 (by omega) (c := c) hdl (by omega) hx ty
                rw [show k + 1 + (bs.length - k) = bs.length + 1 by omega] at this
                exact this
              by_cases hck : k = cp
              case' pos =>
                subst hck
                first | (exfalso; omega) | skip
                all_goals have hnil : bs.drop k = [] := List.drop_of_length_le (by omega)
                all_goals have HRX := hcell.out ⟨g, 0, none⟩ 0 (fun j u hu => absurd hu (by rw [hnil]; simp))
                all_goals have e0 : bs.length - k = 0 := (by omega)
                all_goals rw [e0] at HRX
                all_goals clear hnil e0
              case' neg =>
                have hckI : (k : Int) < (cp : Int) := by omega
                have HRX := hcell.out ⟨g, k * 2, none⟩ (cp - k) (bk_rest ((hb2.block _ (Array.getElem?_eq_some_iff.1 hg1).1).trans hg1) htk)
            all_goals
              clear HR row2
              try clear hcell htk hg1 hcs
              clear hkl hk2 hdl hb2
              go_wp2_with (at_builtin; refine wp_runG 66 (by rfl) (by rfl) (by rfl) (by rfl) (HRX _) ?_; rintro v3 w3 ⟨o3, c3, rfl, row3, hb3⟩; have hb3h := (hb3.block _ l_h).trans HH.out.1.blk; have c_h3 := fun o => cell_of_row w3 _ o _ 68 (0, 0) hb3h; have f_h3 := fun o => frozen_of_row w3 _ o _ 68 hb3h; have l_h3 : hb < w3.heap.size := (Array.getElem?_eq_some_iff.1 hb3h).1)
              go_ret2
              exact HPO.out _ _ _ row3 hb3
end Go.Proofs.Ytflifialjdhenaa
namespace Go.Proofs.Ytflifialjdhenaa
open Go.RowKit
set_option linter.all false
theorem hfindI_cases (bs : List (Int × Int)) (at_ : Int) : (hfindI bs at_ = -1 ∧ ∀ x ∈ bs, ¬ (x.1 ≤ at_ ∧ at_ < x.1 + x.2)) ∨ ∃ (k : Nat) (a s : Int), hfindI bs at_ = k ∧ bs[k]? = some (a, s) ∧ a ≤ at_ ∧ at_ < a + s := by
  unfold hfindI
  cases h : bs.findIdx? (fun x => decide (x.1 ≤ at_ ∧ at_ < x.1 + x.2)) with
  | none =>
    rw [List.findIdx?_eq_none_iff] at h
    exact .inl ⟨rfl, fun x hx => by simpa using h x hx⟩
  | some k =>
    rw [List.findIdx?_eq_some_iff_getElem] at h
    obtain ⟨hl, hp, -⟩ := h
    refine .inr ⟨k, bs[k].1, bs[k].2, rfl, List.getElem?_eq_getElem hl, ?_⟩
    simpa using hp
theorem hfree_else {size : Int} {bs : List (Int × Int)} (h : HOK size 1 bs) {k : Nat} {a s at_ : Int} (hx : bs[k]? = some (a, s)) (h1 : a ≤ at_) (h2 : at_ < a + s) (hn : a ≠ at_) : hfree bs at_ = none := hfree_none fun ⟨a', s'⟩ hm e => by
  obtain ⟨i, hi⟩ := List.getElem?_of_mem hm
  simp at e
  subst e
  have hi2 := h.at hi
  rcases Nat.lt_trichotomy i k with hl | hl | hl
  · have := h.lt hl hi hx
    omega
  · subst hl
    have := hx.symm.trans hi
    simp at this
    omega
  · have := h.lt hl hx hi
    omega
theorem fr1 {n k : Nat} (h : k < n) : k + (n - (k + 1)) = n - 1 := by omega
theorem fr2 {n k : Nat} (hk : k < n) (hn : n ≤ 4194304) : k ≤ 4194305 := by omega
theorem fr3 {n k : Nat} (hn : n ≤ 4194304) : n - (k + 1) ≤ 4194304 := by omega
theorem fr4 {n k cp : Nat} (h : k + 1 = cp) (hc : n ≤ cp) : n ≤ k + 1 ∧ n - (k + 1) = 0 := by omega
theorem fr5 {n k cp : Nat} (hn : ¬ k + 1 = cp) (hk : k < n) (hc : n ≤ cp) : (k : Int) + 1 < (cp : Int) := by omega
def freeB (bs : List (Int × Int)) (at_ : Int) : List (Int × Int) := (hfree bs at_).getD bs
set_option maxRecDepth 100000 in
set_option maxHeartbeats 1000000 in
theorem free56 {w : World} {base hb : Nat} {size : Int} {bo : Option Addr} {cp : Nat} {bs : List (Int × Int)} (h : HP w base hb size bo cp bs) (hsz : size ≤ 4194304) {at_ : Int} (hat : I64 at_) : Calls Try.prog 57 #[.pointer (some ⟨hb, 0, none⟩), .int .i64 at_] w (HpPost w base hb size (Value.slice bo bs.length cp).ownBlock (.bool (hfree bs at_).isSome) (freeB bs at_)) := by
  obtain ⟨ob, hob⟩ : ∃ ob, ob = (Value.slice bo bs.length cp).ownBlock := ⟨_, rfl⟩
  have HOB : Hid (ob = (Value.slice bo bs.length cp).ownBlock) := hob
  rw [← hob]
  clear hob
  have HH : Hid (HP w base hb size bo cp bs) := h
  have HC : Hid (Calls Try.prog 70 #[.pointer (some ⟨hb, 0, none⟩), .int .i64 at_] w (Gives w (.int .i64 (hfindI bs at_)))) := find60 h hat
  have hbl : bs.length ≤ 4194304 := by have := h.ok.len; omega
  have hcap : bs.length ≤ cp := by
    rcases h.row.2 with ⟨h1, h2⟩ | ⟨g, cap, cur, h1, h2, h3, h4, _⟩
    · simp at h1; omega
    · simp at h1; omega
  have HNO : Hid (hfree bs at_ = none → ∀ m, HpPost w base hb size ob (.bool (hfree bs at_).isSome) (freeB bs at_) (.returned (.bool false)) (w.drewN m)) := fun e m => by
    unfold freeB
    rw [e]
    exact ⟨rfl, ⟨bo, cp, HH.out.drewN m, fun b h => .inr (HOB.out.trans h)⟩, (KX.refl _ _ _).drewN m⟩
  rcases hfindI_cases bs at_ with ⟨hf, hno⟩ | ⟨k, a, s, hf, hx, h1, h2⟩
  · rw [hf] at HC
    have HN : Hid (hfree bs at_ = none) := hfree_none fun ⟨a, s⟩ hm e => by
      have hm2 := hno _ hm
      obtain ⟨i, hi⟩ := List.getElem?_of_mem hm
      have := h.ok.at hi
      simp at e hm2
      omega
    clear h hf hno
    go_enter Try.func57, Try.ntmps57
    go_wp2_with (go_at_call 70; refine HC.out.mono ?_; rintro e w2 ⟨rfl, m, rfl⟩)
    go_ret
    exact HNO.out HN.out m
  · rw [hf] at HC
    obtain ⟨g, rfl, hg, c0, c1⟩ := h.nth hx
    have hkl : k < bs.length := (List.getElem?_eq_some_iff.1 hx).1
    have hklI : (k : Int) < (bs.length : Int) := by omega
    have hk0 : ¬ (k : Int) < 0 := by omega
    have hk0' : (0 : Int) ≤ (k : Int) := by omega
    by_cases hae : a = at_
    · have HN : Hid (hfree bs at_ = some (bs.take k ++ bs.drop (k + 1))) := hae ▸ hfree_at h.ok hx
      have haeq : (a != at_) = false := by simp [hae]
      have HX : Hid (bs[k]? = some (a, s)) := hx
      have c_h := fun o => cell_of_row w _ o _ 68 (0, 0) h.blk
      have l_h : hb < w.heap.size := (Array.getElem?_eq_some_iff.1 h.blk).1
      have hcapI : ((k + 1 : Nat) : Int) ≤ (cp : Int) := by omega
      have hkcI : (k : Int) ≤ (cp : Int) := by omega
      have hkb1 : (k : Int) + 1 ≤ (bs.length : Int) := by omega
      have hw1 : wrap64 ((k : Int) + 1) = (k : Int) + 1 := by unfold wrap64; omega
      have hbw : base ≤ w.heap.size := Nat.le_trans h.hb (Nat.le_of_lt l_h)
      clear h hf hx hae
      go_enter Try.func57, Try.ntmps57
      go_upto_region 4 with (first
        | (go_at_call 70; refine HC.out.mono ?_; rintro e w2 ⟨rfl, HM0⟩; have HM : Hid (∃ m, w2 = w.drewN m) := HM0; clear HM0; have HH2 : Hid (HP w2 base hb size (some ⟨g, 0, none⟩) cp bs ∧ w2.heap.size = w.heap.size) := (by obtain ⟨m, rfl⟩ := HM.out; exact ⟨HH.out.drewN m, rfl⟩); have c_h2 := fun o => cell_of_row w2 _ o _ 68 (0, 0) HH2.out.1.blk; have l_h2 : hb < w2.heap.size := (Array.getElem?_eq_some_iff.1 HH2.out.1.blk).1; obtain ⟨g2, eg2, hg2, d0, d1⟩ := HH2.out.1.nth HX.out; obtain rfl : g = g2 := (by simpa using eg2); have hbw2 : base ≤ w2.heap.size := (by rw [HH2.out.2]; exact hbw); clear c_h c0 c1 eg2 hw1 hcapI hbw)
        | (at_builtin; refine wp_runG 66 (by rfl) (by rfl) (by rfl) (by rfl) (run_pre HH2.out.1.row hbw2 hbl (Nat.le_of_lt hkl) _ rfl) ?_; rintro v1 w1 ⟨o1, k1, rfl, row1, hb1⟩))
      go_upto_region 5 with (at_builtin; refine wp_runG 66 (by rfl) (by rfl) (by rfl) (by rfl) (run_pre HH2.out.1.row hbw2 hbl (Nat.le_of_lt hkl) _ rfl) ?_; rintro v1 w1 ⟨o1, k1, rfl, row1, hb1⟩)
      have hb1h := (hb1.block _ l_h2).trans HH2.out.1.blk
      have c_h3 := fun o => cell_of_row w1 _ o _ 68 (0, 0) hb1h
      have l_h3 : hb < w1.heap.size := (Array.getElem?_eq_some_iff.1 hb1h).1
      have htl : (bs.take k).length = k := by rw [List.length_take]; exact Nat.min_eq_left (Nat.le_of_lt hkl)
      have hdl : (bs.drop (k + 1)).length = bs.length - (k + 1) := List.length_drop
      have HPO : Hid (∀ (o' : Option Addr) (c' : Nat) (w3 : World), w3.ownsRow w2.heap.size 105 2 (.slice o' (bs.length - 1) c') (bs.length - 1) ((bs.take k ++ bs.drop (k + 1)).map bkC).flatten → Below w2.heap.size w2 w3 → HpPost w base hb size ob (.bool (hfree bs at_).isSome) (freeB bs at_) (.returned (.bool true)) (w3.setCell ⟨hb, 1, none⟩ (.slice o' (bs.length - 1) c'))) := by
        intro o' c' w3 row3 hb3
        have hlen : (bs.take k ++ bs.drop (k + 1)).length = bs.length - 1 := by
          rw [List.length_append, htl, hdl]; exact fr1 hkl
        have hb3h := (hb3.block _ l_h2).trans HH2.out.1.blk
        have hblk := heap_setCell_same w3 hb 1 _ 68 (.slice o' (bs.length - 1) c') hb3h
        have hok := HH2.out.1.ok.free HN.out
        unfold freeB
        rw [HN.out]
        refine ⟨rfl, ⟨o', c', ⟨?_, ?_, HH2.out.1.hb, hok, HH2.out.1.sz⟩, fun b hbo => .inl ?_⟩, ?_⟩
        · show _ = some (Obj.cells #[.int .i64 size, .slice o' (bs.take k ++ bs.drop (k + 1)).length c'] 68 (0, 0))
          rw [hblk, hlen]
          rfl
        · show World.ownsRow _ _ _ _ (.slice o' (bs.take k ++ bs.drop (k + 1)).length c') (bs.take k ++ bs.drop (k + 1)).length ((bs.take k ++ bs.drop (k + 1)).map bkC).flatten
          rw [hlen]
          exact ownsRow_mono (ownsRow_same row3 (fun b hb' hl => Below.heap_setCell _ _ _ _ (fun e => by
            subst e
            exact absurd (row3.lt _ hb').1 (Nat.not_le_of_lt l_h2)))) hbw2
        · have h5 := (row3.lt b (own_len hbo)).1
          rw [HH2.out.2] at h5
          exact h5
        · obtain ⟨m, hm⟩ := HM.out
          rw [hm] at hb3
          refine KX.setCell (p := ⟨hb, 1, none⟩) (X := fun b => b = hb) ?_ (.inr rfl) _
          exact ⟨hb3.os, hb3.tape, hb3.output, hb3.size, fun b hb _ => hb3.block b hb⟩
      have hcell : Hid (∀ (a : Addr) (c : Nat), (∀ j u, ((bs.drop (k + 1)).map bkC).flatten[j]? = some u → w1.cell? (a.add j) = some u) → ∀ ty, ∃ v' w', (Builtin.append_ #[66, 66] ty #[.slice o1 k k1, .slice (some a) (bs.length - (k + 1)) c]).run Try.prog w1 = .ok v' w' ∧ ∃ o' c', v' = .slice o' (bs.length - 1) c' ∧ w'.ownsRow w2.heap.size 105 2 (.slice o' (bs.length - 1) c') (bs.length - 1) ((bs.take k ++ bs.drop (k + 1)).map bkC).flatten ∧ Below w2.heap.size w2 w') := fun a c hx ty => by
        have := run_rest htl row1 hb1 (fr2 hkl hbl) (c := c) hdl (fr3 hbl) hx ty
        rw [show k + (bs.length - (k + 1)) = bs.length - 1 from fr1 hkl] at this
        exact this
      obtain ⟨cur, hg1, htk⟩ : ∃ cur, w2.heap[g]? = some (.cells cur 105 (0, 0)) ∧ cur.toList.take (bs.length * 2) = (bs.map bkC).flatten := by
        rcases HH2.out.1.row.2 with ⟨hn1, -⟩ | ⟨g', cap, cur, hn1, -, hg1, -, -, -, htk⟩
        · simp at hn1
        · simp at hn1
          obtain ⟨rfl, rfl⟩ := hn1
          exact ⟨cur, hg1, htk⟩
      have hcr := bk_rest (k := k + 1) ((hb1.block _ (Array.getElem?_eq_some_iff.1 hg1).1).trans hg1) htk
      clear hg1 htk row1 d0 d1 htl hdl c_h2 l_h2
      by_cases hck : k + 1 = cp
      case' pos =>
        have hnil : bs.drop (k + 1) = [] := List.drop_of_length_le (fr4 hck hcap).1
        have HRX := hcell.out ⟨g, 0, none⟩ 0 (fun j u hu => absurd hu (by rw [hnil]; simp))
        have e0 : bs.length - (k + 1) = 0 := (fr4 hck hcap).2
        rw [e0] at HRX
        clear hnil e0
      case' neg =>
        have hckI : (k : Int) + 1 < (cp : Int) := fr5 hck hkl hcap
        have HRX := hcell.out ⟨g, (k + 1) * 2, none⟩ (cp - (k + 1)) hcr
      all_goals
        clear hcr hcell
        go_wp2_with (at_builtin; refine wp_runG 66 (by rfl) (by rfl) (by rfl) (by rfl) (HRX _) ?_; rintro v3 w3 ⟨o3, c3, rfl, row3, hb3⟩; have hb3h := (hb3.block _ (Array.getElem?_eq_some_iff.1 HH2.out.1.blk).1).trans HH2.out.1.blk; have c_h4 := fun o => cell_of_row w3 _ o _ 68 (0, 0) hb3h; have f_h4 := fun o => frozen_of_row w3 _ o _ 68 hb3h; have l_h4 : hb < w3.heap.size := (Array.getElem?_eq_some_iff.1 hb3h).1)
        go_ret
        exact HPO.out _ _ _ row3 hb3
    · have HN : Hid (hfree bs at_ = none) := hfree_else h.ok hx h1 h2 hae
      have haeq : (a != at_) = true := by simp [hae]
      have c_h := fun o => cell_of_row w _ o _ 68 (0, 0) h.blk
      have l_h : hb < w.heap.size := (Array.getElem?_eq_some_iff.1 h.blk).1
      clear h hf hx hae
      go_enter Try.func57, Try.ntmps57
      go_wp2_with (go_at_call 70; refine HC.out.mono ?_; rintro e w2 ⟨rfl, m, rfl⟩)
      go_ret
      exact HNO.out HN.out m
end Go.Proofs.Ytflifialjdhenaa
