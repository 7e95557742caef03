/- The document's machine: no thread can go on. -/
import Derived.Test.YtflifialjdhenaaMde
import Derived.Test.YtflifialjdhenaaPmd
namespace Go.Proofs.Ytflifialjdhenaa
open Go.RowKit
set_option linter.all false
def Mc.finM (m : Mc) : Mc := if m.ths.all (fun th => th.over) then { m.fin (if m.failed then 2 else 1) with left := m.hp.length } else m.fin 3
section
variable {base mb : Nat} {co : Option Addr} {cc : Nat} {code : List Mi} {N ib : Nat} {x : Mi} {w w' : World} {L L' : Ly} {m m' : Mc} {t : Nat} {th th' : Th}
theorem left_x (h : MS base mb co cc code N w L m) (n : Int) : MS base mb co cc code N (w.setCell ⟨mb, 11, none⟩ (.int .i64 n)) L { m with left := n } ∧ Kf L L w (w.setCell ⟨mb, 11, none⟩ (.int .i64 n)) := by
  have h1 := h.mr.set (m' := { m with left := n }) 11 (.int .i64 n) rfl rfl rfl rfl rfl rfl
  exact ⟨h.next h1.1 h1.2 ⟨h.ok.mem, h.ok.th, h.ok.outs, h.ok.order, h.ok.steps, h.ok.big⟩, h1.2⟩
theorem fin_hp (m : Mc) (k : Int) : (m.fin k).hp = m.hp := by unfold Mc.fin; split <;> rfl
theorem count_s (h : MS base mb co cc code N w L m) : Calls Try.prog 28 #[.pointer (some ⟨L.hb, 0, none⟩)] w (Gives w (.int .i64 m.hp.length)) := by
  obtain ⟨bo, cp, hp, -⟩ := h.mr.hp.ex
  exact count37 hp
set_option maxRecDepth 100000 in
set_option maxHeartbeats 2000000 in
theorem finish22 (h : MS base mb co cc code N w L m) : Calls Try.prog 17 #[.pointer (some ⟨mb, 0, none⟩)] w (MSP base mb co cc code N w L m.finM) := by
  have HS : Hid (MS base mb co cc code N w L m) := h
  have hfew := h.mr.th.few
  have c3 : w.cell? ⟨mb, 3, none⟩ = some (.slice L.to_ m.ths.length L.tc) := by rw [cell_of_row w _ 3 _ 45 (0, 0) h.mr.blk]; rfl
  have lm := h.mr.lt
  clear h
  go_enter Try.func17, Try.ntmps17
  go_wp2_with fail
  go_loopg [10] m.ths.length (fun gg u wr => ∃ idx : Nat, gg = m.ths.length - idx ∧ u = .int .i64 idx ∧ idx ≤ m.ths.length ∧ Hid (∀ th ∈ m.ths.take idx, th.over = true) ∧ Hid (Below w.heap.size w wr))
  case atStart => exact ⟨0, rfl, rfl, Nat.zero_le _, fun _ h => by simp at h, Below.refl _ _⟩
  case round =>
    obtain ⟨idx, hgk, rfl, hidx, HA, HB⟩ := hrel
    have HG : Hid (gk = m.ths.length - idx) := hgk
    clear hgk
    have M1 : Hid (MS base mb co cc code N wr L m ∧ Kf L L w wr) := HS.out.below HB.out
    by_cases hlt : idx < m.ths.length
    · have hltI : (idx : Int) < (m.ths.length : Int) := by omega
      have hi0 : (0 : Int) ≤ (idx : Int) := by omega
      obtain ⟨th, ht⟩ : ∃ th, m.ths[idx]? = some th := ⟨_, List.getElem?_eq_getElem hlt⟩
      obtain ⟨g, r, e, hg, hr, d0, d1, d2, d3, d4, d5⟩ := M1.out.1.mr.th.nth ht
      have HE0 : Hid (L.to_ = some ⟨g, 0, none⟩) := e
      rw [e]
      have HMM : Hid (th ∈ m.ths) := List.mem_of_getElem? ht
      have HTK : Hid (th.over = true → ∀ z ∈ m.ths.take (idx + 1), z.over = true) := fun ho z hz => by
        rw [List.take_add_one, ht] at hz
        simp at hz
        rcases hz with hz | rfl
        · exact HA.out z hz
        · exact ho
      cases hov : th.over with
      | true =>
        rw [hov] at d5
        clear e hr ht c3 lm
        go_wp2_with fail
        rw [← HE0.out]
        go_roundg (m.ths.length - (idx + 1))
        case measure => rw [HG.out]; exact ms_lt hlt
        case rel => exact ⟨idx + 1, rfl, by go_num, hlt, HTK.out hov, HB.out.trans (((Below.refl _ _).alloc (Nat.le_refl _) _).mono HB.out.size)⟩
      | false =>
        rw [hov] at d5
        have HW : Hid (m.fin 3 = m.finM) := by
          show _ = _
          unfold Mc.finM
          rw [if_neg]
          intro hall
          have h9 := List.all_eq_true.1 hall th HMM.out
          rw [hov] at h9
          cases h9
        clear e hr ht c3 lm hov
        have EN : Hid (∀ o, Calls Try.prog 27 #[.pointer (some ⟨mb, 0, none⟩), .int .i64 3] (wr.alloc o) (fun e w' => e = .returned (.tuple #[]) ∧ MS base mb co cc code N w' L (m.fin 3) ∧ Kf L L w w')) := fun o => by
          have q := M1.out.1.below (al1 wr o).1
          refine (en_s q.1 3).mono ?_
          rintro e w' ⟨rfl, hm, hk⟩
          exact ⟨rfl, hm, M1.out.2.trans (q.2.trans hk)⟩
        go_wp2_with (go_at_call 27; refine (EN.out _).mono ?_; rintro e w5 ⟨rfl, M5, K5⟩)
        go_end0
        exact ⟨rfl, L, HW.out ▸ M5, K5⟩
    · have hltI : ¬ (idx : Int) < (m.ths.length : Int) := by omega
      have c4 : wr.cell? ⟨mb, 4, none⟩ = some (.bool m.failed) := by rw [cell_of_row wr _ 4 _ 45 (0, 0) M1.out.1.mr.blk]; rfl
      have l4 := M1.out.1.mr.lt
      have hall : m.ths.all (fun th => th.over) = true := List.all_eq_true.2 (fun z hz => HA.out z (by rw [show idx = m.ths.length by omega, List.take_length]; exact hz))
      obtain ⟨hw_, hhw⟩ : ∃ k : Int, k = if m.failed then 2 else 1 := ⟨_, rfl⟩
      have HW : Hid ({ m.fin hw_ with left := m.hp.length } = m.finM) := by show _ = _; unfold Mc.finM; rw [if_pos hall, hhw]
      have EN := en_s M1.out.1 hw_
      cases hfl : m.failed
      all_goals
        rw [hfl] at c4 hhw
        have hh2 : hw_ = _ := hhw
        simp at hh2
        subst hh2
        clear hall hhw hfl c3 lm
        go_upto_region 10 with (go_at_call 27; refine EN.mono ?_; rintro e w5 ⟨rfl, M5, K5⟩)
        have c2 : w5.cell? ⟨mb, 2, none⟩ = some (.pointer (some ⟨L.hb, 0, none⟩)) := by rw [cell_of_row w5 _ 2 _ 45 (0, 0) M5.mr.blk]; rfl
        obtain ⟨n11, c11⟩ : ∃ n, w5.cell? ⟨mb, 11, none⟩ = some (.int .i64 n) := ⟨_, (cell_of_row w5 _ 11 _ 45 (0, 0) M5.mr.blk).trans rfl⟩
        have f11 := fun o => frozen_of_row w5 _ o _ 45 M5.mr.blk
        have l5 := M5.mr.lt
        have CT := count_s M5
        rw [fin_hp] at CT
        have M5' : Hid _ := M5
        go_wp2_with (go_at_call 28; refine CT.mono ?_; rintro e w6 ⟨rfl, j, rfl⟩)
        have S1 := left_x (M5'.out.next (M5'.out.mr.drewN j) ((Kf.refl L w5).drewN j) M5'.out.ok) m.hp.length
        go_end0
        exact ⟨rfl, L, HW.out ▸ S1.1, M1.out.2.trans (K5.trans (((Kf.refl L w5).drewN j).trans S1.2))⟩
end
end Go.Proofs.Ytflifialjdhenaa
namespace Go.Proofs.Ytflifialjdhenaa
open Go.RowKit
set_option linter.all false
def Mc.zero : Mc := ⟨fun _ => 0, [], [Th.new 0 4194304], false, 0, 0, 0, [], [], 0⟩
def Mc.init (arg : Int) : Mc := { Mc.zero with mem := upd Mc.zero.mem 4194304 arg }
/-- The run: n bounds the rounds; k: how many picks have been used. -/
def runM (code : List Mi) (picks : List Int) (most : Int) : Nat → Nat → Mc → Mc
  | 0, _, m => m
  | n + 1, k, m => if m.how ≠ 0 then m else
    if 0 ≤ aloneI m code 0 m.ths then
      (if most ≤ m.steps then m else match m.ths[(aloneI m code 0 m.ths).toNat]? with
        | some th => runM code picks most n k (m.stepM code (aloneI m code 0 m.ths).toNat th)
        | none => m)
    else if chooseI m code ((picks[k]?).getD 0) 0 (-1) m.ths < 0 then m.finM
    else if most ≤ m.steps then m else match m.ths[(chooseI m code ((picks[k]?).getD 0) 0 (-1) m.ths).toNat]? with
      | some th => runM code picks most n (k + 1) (m.stepM code (chooseI m code ((picks[k]?).getD 0) 0 (-1) m.ths).toNat th)
      | none => m
def ownI (W : Nat) : Nat → Option (Nat × Nat) := fun b => if b = W + 2 then some (0, 0) else if b = W then some (1, 0) else if b = W + 1 then some (3, 0) else none
abbrev mcI (cv : Value) (W : Nat) : Array Value := #[cv, .slice none 0 0, .pointer (some ⟨W, 0, none⟩), .slice (some ⟨W + 1, 0, none⟩) 1 1, .bool false, .int .i64 0, .int .i64 0, .int .i64 0, .int .i64 0, .slice none 0 0, .slice none 0 0, .int .i64 0, .int .i64 0]
theorem MR.init (W : World) (cv : Value) : ∃ L, MR (((W.alloc (.cells #[.int .i64 4194303, .slice none 0 0] 68)).alloc (.cells (thN 0 4194304) 41)).alloc (.cells (mcI cv W.heap.size) 45)) W.heap.size (W.heap.size + 2) cv L Mc.zero ∧ (∀ b, b < W.heap.size → L.own b = none) := by
  have h3 := al3 W (.cells #[.int .i64 4194303, .slice none 0 0] 68) (.cells (thN 0 4194304) 41) (.cells (mcI cv W.heap.size) 45)
  generalize hw : ((W.alloc (.cells #[.int .i64 4194303, .slice none 0 0] 68)).alloc (.cells (thN 0 4194304) 41)).alloc (.cells (mcI cv W.heap.size) 45) = w at h3
  obtain ⟨hb, b0, b1, b2⟩ := h3
  have hsz : w.heap.size = W.heap.size + 3 := by rw [← hw]; simp
  have o2 : ownI W.heap.size (W.heap.size + 2) = some (0, 0) := by unfold ownI; rw [if_pos rfl]
  have o0 : ownI W.heap.size W.heap.size = some (1, 0) := by unfold ownI; rw [if_neg (by omega), if_pos rfl]
  have o1 : ownI W.heap.size (W.heap.size + 1) = some (3, 0) := by unfold ownI; rw [if_neg (by omega), if_neg (by omega), if_pos rfl]
  refine ⟨⟨ownI W.heap.size, none, 0, [], W.heap.size, some ⟨W.heap.size + 1, 0, none⟩, 1, [⟨none, 0⟩], none, 0, none, 0⟩, ⟨b2, o2, ⟨⟨none, 0, ⟨b0, World.ownsRow_nil _ _ _ _, Nat.le_refl _, by show (1 : Int) ≤ 4194303 + 1; decide, by decide⟩, fun b e => by simp [Value.ownBlock] at e⟩, o0⟩, ⟨World.ownsRow_nil _ _ _ _, fun b e => by simp [Value.ownBlock] at e, fun i g hg => by simp at hg, fun _ _ => rfl, Nat.zero_le _⟩, ⟨?_, ?_, rfl, ?_, by decide, ?_⟩, ⟨World.ownsRow_nil _ _ _ _, fun b e => by simp [Value.ownBlock] at e⟩, ⟨World.ownsRow_nil _ _ _ _, fun b e => by simp [Value.ownBlock] at e⟩, by omega, ?_, ?_⟩, ?_⟩
  · exact ⟨rfl, .inr ⟨W.heap.size + 1, 1, thN 0 4194304, rfl, by omega, b1, Nat.le_refl _, by decide, rfl, rfl⟩⟩
  · intro b e
    have e' : W.heap.size + 1 = b := by simpa [Value.ownBlock] using e
    rw [← e']
    exact o1
  · intro i t r ht hr
    have hi : i = 0 := by
      have := (List.getElem?_eq_some_iff.1 ht).1
      have h1 : i < 1 := this
      omega
    subst hi
    have ht' : Th.new 0 4194304 = t := by simpa [Mc.zero] using ht
    have hr' : (⟨none, 0⟩ : Rq) = r := by simpa using hr
    subst ht' hr'
    exact ⟨World.ownsRow_nil _ _ _ _, fun b e => by simp [Value.ownBlock, Th.new] at e⟩
  · intro i t ht
    have hi : i = 0 := by
      have := (List.getElem?_eq_some_iff.1 ht).1
      have h1 : i < 1 := this
      omega
    subst hi
    have ht' : Th.new 0 4194304 = t := by simpa [Mc.zero] using ht
    subst ht'
    unfold stk Th.new
    simp
  · intro b hn
    have hn' : ownI W.heap.size b ≠ none := hn
    unfold ownI at hn'
    split at hn'
    · omega
    · split at hn'
      · omega
      · split at hn'
        · omega
        · exact absurd rfl hn'
  · intro b s e
    have e' : ownI W.heap.size b = some (0, s) := e
    unfold ownI at e'
    split at e'
    · assumption
    · split at e'
      · simp at e'
      · split at e'
        · simp at e'
        · simp at e'
  · intro b hb2
    show ownI W.heap.size b = none
    unfold ownI
    rw [if_neg (by omega), if_neg (by omega), if_neg (by omega)]
theorem OKM.init : OKM 0 Mc.zero := ⟨fun _ => I64_0, fun i t ht => by
  have hi : i = 0 := by
    have := (List.getElem?_eq_some_iff.1 ht).1
    have h1 : i < 1 := this
    omega
  subst hi
  have ht' : Th.new 0 4194304 = t := by simpa [Mc.zero] using ht
  subst ht'
  exact ⟨I64_0, Nat.le_refl _, fun c hc => by simp [Th.new] at hc⟩, Nat.le_refl _, Nat.le_refl _, ⟨Int.le_refl _, Int.le_refl _⟩, by decide⟩
end Go.Proofs.Ytflifialjdhenaa
namespace Go.Proofs.Ytflifialjdhenaa
open Go.RowKit
set_option linter.all false
/-- Where a thread's things lie. -/
structure Tl where
  po : Option Addr
  pc : Nat
  pg : List (Option Nat)
  co : Option Addr
  cc : Nat
  at_ : Int
abbrev tdC (mb t : Nat) (th : Th) (l : Tl) : Array Value := #[.pointer (some ⟨mb, 0, none⟩), .int .i64 t, .slice l.po l.pg.length l.pc, .int .i64 (th.frame - stk t), .slice l.co th.calls.length l.cc, .int .i64 l.at_, .bool th.unw, .bool th.abo, .bool th.over]
def clC (t : Nat) (x : Int × Int × Int) : List Value := [.int .i64 (x.1 - 1), .int .i64 (x.2.2 - stk t)]
def memT (mem : Nat → Int) (t : Nat) : Nat → Int := fun a => mem ((t + 1) * 4194304 + a)
/-- A thread in memory. -/
structure TD (w : World) (base : Nat) (own : Nat → Option (Nat × Nat)) (code : List Mi) (mb t b : Nat) (th : Th) (l : Tl) (mem : Nat → Int) : Prop where
  blk : w.heap[b]? = some (.cells (tdC mb t th l) 65 (0, 0))
  otb : own b = some (3 * t + 10, 0)
  pg : PZ w base own (3 * t + 11) l.po l.pc l.pg (memT mem t)
  row : w.ownsRow base 112 2 (.slice l.co th.calls.length l.cc) th.calls.length (th.calls.map (clC t)).flatten
  orow : ∀ b, (Value.slice l.co th.calls.length l.cc).ownBlock = some b → own b = some (3 * t + 12, 0)
  cok : ∀ c ∈ th.calls, 1 ≤ c.1 ∧ c.1 ≤ code.length ∧ (insAt code (c.1 - 1)).1.e = c.2.1
  at_ : th.abo = false → l.at_ = th.pc
  fr : stk t ≤ th.frame ∧ th.frame < stk (t + 1)
/-- Where the machine's things lie. -/
structure Pl where
  po : Option Addr
  pc : Nat
  pg : List (Option Nat)
  to_ : Option Addr
  tc : Nat
  oo : Option Addr
  oc : Nat
  ro_ : Option Addr
  rc : Nat
abbrev pmC (cv pv : Value) (hb : Nat) (L : Pl) (m : Mc) : Array Value := #[cv, pv, .pointer (some ⟨hb, 0, none⟩), .slice L.po L.pg.length L.pc, .slice L.to_ m.ths.length L.tc, .bool m.failed, .int .i64 m.value, .int .i64 m.steps, .slice L.oo m.outs.length L.oc, .slice L.ro_ m.order.length L.rc]
abbrev ptr (b : Nat) : Value := .pointer (some ⟨b, 0, none⟩)
structure PR (w : World) (base mb hb : Nat) (cv pv : Value) (code : List Mi) (K : Nat → Obj → Prop) (own : Nat → Option (Nat × Nat)) (L : Pl) (tb : List Nat) (m : Mc) : Prop where
  ow : OW own base w
  blk : w.heap[mb]? = some (.cells (pmC cv pv hb L m) 57 (0, 0))
  omb : own mb = some (0, 0)
  hm : HM w base hb 4194303 m.hp
  wd : PZ w base own 2 L.po L.pc L.pg m.mem
  tr : w.ownsRow base 59 1 (.slice L.to_ m.ths.length L.tc) m.ths.length (tb.map ptr)
  otr : ∀ b, (Value.slice L.to_ m.ths.length L.tc).ownBlock = some b → own b = some (3, 0)
  tl : tb.length = m.ths.length
  th : ∀ (t b : Nat) (x : Th), m.ths[t]? = some x → tb[t]? = some b → ∃ l, TD w base own code mb t b x l m.mem
  few : m.ths.length ≤ 12
  ou : NRW w base own 4 L.oo L.oc m.outs
  or_ : NRW w base own 5 L.ro_ L.rc m.order
  hz : ∀ a, (m.ths.length + 1) * 4194304 ≤ a → m.mem a = 0
  kk : ∀ b o, K b o → own b = none ∧ w.heap[b]? = some o ∧ ∃ c t z, o = .cells c t z ∧ t ≠ 82 ∧ t ≠ 98
section
variable {w w' w1 : World} {base mb hb : Nat} {cv pv : Value} {code : List Mi} {K : Nat → Obj → Prop} {own own' : Nat → Option (Nat × Nat)} {L L' : Pl} {tb : List Nat} {m m' : Mc} {G : Nat → Prop} {t b : Nat} {th : Th} {l : Tl} {mem : Nat → Int}
theorem pageA_congr {mem mem' : Nat → Int} {i : Nat} (h : ∀ k, k < 1024 → mem' (i * 1024 + k) = mem (i * 1024 + k)) : pageA mem' i = pageA mem i := by
  have e : ∀ k ∈ List.range 1024, Value.int .i64 (mem' (i * 1024 + k)) = Value.int .i64 (mem (i * 1024 + k)) := fun k hk => by rw [h k (List.mem_range.1 hk)]
  unfold pageA
  rw [List.map_congr_left e]
theorem CG.bel (o : OW own base w) (c : CG own own' G base w w') : Below base w w' := ⟨c.kx.os, c.kx.tape, c.kx.output, c.kx.size, fun b hb => c.kx.block b (by have := o.bs; omega) (fun hn => by have := (o.olt b hn).1; omega)⟩
theorem NRW.cg {g : Nat} {o : Option Addr} {c : Nat} {ns : List Int} (h : NRW w base own g o c ns) (k : CG own own' G base w w') (hg : ¬ G g) : NRW w' base own' g o c ns := ⟨ownsRow_same h.row (fun b hb _ => k.same b _ (h.orow b hb) hg), fun b hb => k.kp b _ (h.orow b hb) hg⟩
theorem TD.cg (h : TD w base own code mb t b th l mem) (k : CG own own' G base w w') (h0 : ¬ G (3 * t + 10)) (h1 : ¬ G (3 * t + 11)) (h2 : ¬ G (3 * t + 12)) : TD w' base own' code mb t b th l mem :=
  ⟨(k.same b _ h.otb h0).trans h.blk, k.kp b _ h.otb h0, h.pg.cg k h1, ownsRow_same h.row (fun b hb _ => k.same b _ (h.orow b hb) h2), fun b hb => k.kp b _ (h.orow b hb) h2, h.cok, h.at_, h.fr⟩
theorem kk_cg (h : ∀ b o, K b o → own b = none ∧ w.heap[b]? = some o ∧ ∃ c t z, o = .cells c t z ∧ t ≠ 82 ∧ t ≠ 98) (k : CG own own' G base w w') : ∀ b o, K b o → own' b = none ∧ w'.heap[b]? = some o ∧ ∃ c t z, o = .cells c t z ∧ t ≠ 82 ∧ t ≠ 98 := fun b o hk => by
  obtain ⟨h1, h2, h3⟩ := h b o hk
  have hl := (Array.getElem?_eq_some_iff.1 h2).1
  exact ⟨k.on b hl h1, (k.kx.block b hl (fun hn => hn h1)).trans h2, h3⟩
theorem PR.lt (h : PR w base mb hb cv pv code K own L tb m) : mb < w.heap.size := (h.ow.olt mb (by rw [h.omb]; simp)).2
/-- Nothing of the machine has changed. -/
theorem PR.cg (h : PR w base mb hb cv pv code K own L tb m) (k : CG own own' (fun _ => False) base w w') : PR w' base mb hb cv pv code K own' L tb m :=
  ⟨k.ow, (k.same mb _ h.omb (fun x => x)).trans h.blk, k.kp mb _ h.omb (fun x => x), h.hm.cg h.ow k, h.wd.cg k (fun x => x), ownsRow_same h.tr (fun b hb _ => k.same b _ (h.otr b hb) (fun x => x)), fun b hb => k.kp b _ (h.otr b hb) (fun x => x), h.tl, fun t b x hx hb => by
    obtain ⟨l, hl⟩ := h.th t b x hx hb
    exact ⟨l, hl.cg k (fun x => x) (fun x => x) (fun x => x)⟩, h.few, h.ou.cg k (fun x => x), h.or_.cg k (fun x => x), h.hz, kk_cg h.kk k⟩
/-- Its own block has changed. -/
theorem PR.set (h : PR w base mb hb cv pv code K own L tb m) {pv' : Value} (o : Nat) (u : Value) (he : (pmC cv pv hb L m).setIfInBounds o u = pmC cv pv' hb L m') (h1 : m'.hp = m.hp) (h2 : m'.mem = m.mem) (h3 : m'.ths = m.ths) (h4 : m'.outs = m.outs) (h5 : m'.order = m.order) : PR (w.setCell ⟨mb, o, none⟩ u) base mb hb cv pv' code K own L tb m' ∧ CG own own (fun x => x = 0) base w (w.setCell ⟨mb, o, none⟩ u) := by
  have k := CG.set (G := fun x => x = 0) h.ow h.omb rfl o u
  refine ⟨⟨k.ow, ?_, h.omb, h1 ▸ h.hm.cg h.ow k, h2 ▸ h.wd.cg k (by decide), h3 ▸ ownsRow_same h.tr (fun b hb _ => k.same b _ (h.otr b hb) (by decide)), h3 ▸ h.otr, h3 ▸ h.tl, fun t b x hx hb => ?_, h3 ▸ h.few, h4 ▸ h.ou.cg k (by decide), h5 ▸ h.or_.cg k (by decide), h3 ▸ h2 ▸ h.hz, kk_cg h.kk k⟩, k⟩
  · rw [heap_setCell_same w mb o _ 57 u h.blk, he]
  · rw [h3] at hx
    obtain ⟨l, hl⟩ := h.th t b x hx hb
    exact ⟨l, h2 ▸ hl.cg k (by show ¬ (3 * t + 10 = 0); omega) (by show ¬ (3 * t + 11 = 0); omega) (by show ¬ (3 * t + 12 = 0); omega)⟩
/-- A thread has changed. -/
theorem PR.setTd (h : PR w base mb hb cv pv code K own L tb m) (ht : m.ths[t]? = some th) (htb : tb[t]? = some b) (k : CG own own' G base w w') (hG : ∀ x, G x → x = 3 * t + 10 ∨ x = 3 * t + 11 ∨ x = 3 * t + 12) {th' : Th} {l' : Tl} {mem' : Nat → Int} (hT : TD w' base own' code mb t b th' l' mem') (hm : ∀ a, a < (t + 1) * 4194304 ∨ (t + 2) * 4194304 ≤ a → mem' a = m.mem a) : PR w' base mb hb cv pv code K own' L tb { m with ths := m.ths.set t th', mem := mem' } := by
  have htl := (List.getElem?_eq_some_iff.1 ht).1
  have hn : ∀ x, x < 10 → ¬ G x := fun x hx hg => by rcases hG x hg with e | e | e <;> omega
  have hlen : (m.ths.set t th').length = m.ths.length := List.length_set ..
  refine ⟨k.ow, ?_, k.kp mb _ h.omb (hn 0 (by decide)), h.hm.cg h.ow k, ?_, ?_, ?_, h.tl.trans hlen.symm, fun t' b' x hx hb' => ?_, ?_, h.ou.cg k (hn 4 (by decide)), h.or_.cg k (hn 5 (by decide)), fun a ha => ?_, kk_cg h.kk k⟩
  · rw [k.same mb _ h.omb (hn 0 (by decide)), h.blk]
    simp
  · have hp := h.wd.cg k (hn 2 (by decide))
    refine ⟨hp.row, hp.orow, fun i q hq => ?_, fun a ha hq => ?_, hp.few⟩
    · obtain ⟨q1, q2⟩ := hp.page i q hq
      refine ⟨q1, ?_⟩
      have e : pageA mem' i = pageA m.mem i := by
        have hi := (List.getElem?_eq_some_iff.1 hq).1
        have hfew := hp.few
        exact pageA_congr (fun k hk => hm _ (.inl (by omega)))
      show _ = some (Obj.cells (pageA mem' i) 101 (0, 0))
      rw [e]
      exact q2
    · show mem' a = 0
      rw [hm a (.inl (by omega))]
      exact hp.zero a ha hq
  · show World.ownsRow _ _ _ _ (.slice L.to_ (m.ths.set t th').length L.tc) (m.ths.set t th').length _
    rw [hlen]
    exact ownsRow_same h.tr (fun b hb _ => k.same b _ (h.otr b hb) (hn 3 (by decide)))
  · show ∀ b, (Value.slice L.to_ (m.ths.set t th').length L.tc).ownBlock = some b → _
    rw [hlen]
    exact fun b hb => k.kp b _ (h.otr b hb) (hn 3 (by decide))
  · by_cases e : t' = t
    · subst e
      have hx' : some th' = some x := by
        have := hx
        simp only [List.getElem?_set_self htl] at this
        exact this
      obtain rfl := Option.some.inj hx'
      rw [htb] at hb'
      obtain rfl := Option.some.inj hb'
      exact ⟨l', hT⟩
    · have hx' : m.ths[t']? = some x := by
        have := hx
        simp only [List.getElem?_set_ne (fun e2 => e (e2.symm))] at this
        exact this
      obtain ⟨l, hl⟩ := h.th t' b' x hx' hb'
      have hl' := hl.cg k (fun hg => by rcases hG _ hg with e | e | e <;> omega) (fun hg => by rcases hG _ hg with e | e | e <;> omega) (fun hg => by rcases hG _ hg with e | e | e <;> omega)
      refine ⟨l, hl'.blk, hl'.otb, ?_, hl'.row, hl'.orow, hl'.cok, hl'.at_, hl'.fr⟩
      have ee : ∀ a, a < 4194304 → memT mem' t' a = memT m.mem t' a := fun a ha => hm _ (by omega)
      refine ⟨hl'.pg.row, hl'.pg.orow, fun i q hq => ?_, fun a ha hq => ?_, hl'.pg.few⟩
      · obtain ⟨q1, q2⟩ := hl'.pg.page i q hq
        refine ⟨q1, ?_⟩
        have e : pageA (memT mem' t') i = pageA (memT m.mem t') i := by
          have hi := (List.getElem?_eq_some_iff.1 hq).1
          have hfew := hl'.pg.few
          exact pageA_congr (fun k hk => ee _ (by omega))
        show _ = some (Obj.cells (pageA (memT mem' t') i) 101 (0, 0))
        rw [e]
        exact q2
      · show memT mem' t' a = 0
        rw [ee a ha]
        exact hl'.pg.zero a ha hq
  · show (m.ths.set t th').length ≤ 12
    rw [hlen]
    exact h.few
  · have ha' : (m.ths.length + 1) * 4194304 ≤ a := by
      have := ha
      simp only [hlen] at this
      exact this
    clear ha
    have hge : (t + 2) * 4194304 ≤ a := Nat.le_trans (Nat.mul_le_mul_right _ (show t + 2 ≤ m.ths.length + 1 by omega)) ha'
    exact (hm a (.inr hge)).trans (h.hz a ha')
end
end Go.Proofs.Ytflifialjdhenaa
namespace Go.Proofs.Ytflifialjdhenaa
open Go.RowKit
set_option linter.all false
/-- What stays as it is in a run. -/
structure Ct where
  w0 : World
  base : Nat
  mb : Nat
  hb : Nat
  co : Option Addr
  cc : Nat
  code : List Mi
/-- Picks that are left. -/
structure PK (w : World) (base : Nat) (pv : Value) (ps : List Int) : Prop where
  ex : ∃ o c, pv = .slice o ps.length c ∧ ps.length ≤ c ∧ c ≤ 9223372036854775807 ∧ ∀ (i : Nat) (x : Int), ps[i]? = some x → I64 x ∧ ∃ b f, o = some ⟨b, f, none⟩ ∧ b < base ∧ w.cell? ⟨b, f + i, none⟩ = some (.int .i64 x)
/-- The machine between two calls. -/
structure PS (C : Ct) (N : Nat) (K : Nat → Obj → Prop) (w : World) (ps : List Int) (tb : List Nat) (m : Mc) : Prop where
  pr : ∃ pv own L, PR w C.base C.mb C.hb (.slice C.co C.code.length C.cc) pv C.code K own L tb m ∧ PK w C.base pv ps
  cd : CD w C.base C.co C.code
  ok : OKM N m
  c64 : ∀ x ∈ C.code, x.ok
  bl : Below C.base C.w0 w
section
variable {C : Ct} {N N' : Nat} {K : Nat → Obj → Prop} {w w' : World} {ps : List Int} {tb tb' : List Nat} {m m' : Mc} {t b : Nat} {th th' : Th} {own own' : Nat → Option (Nat × Nat)} {G : Nat → Prop} {L L' : Pl} {pv : Value}
theorem PK.below {base : Nat} (h : PK w base pv ps) (k : Below base w w') : PK w' base pv ps := by
  obtain ⟨o, c, e, h1, h2, h3⟩ := h.ex
  refine ⟨o, c, e, h1, h2, fun i x hx => ?_⟩
  obtain ⟨hi, b, f, e1, hb, hc⟩ := h3 i x hx
  exact ⟨hi, b, f, e1, hb, (k.cell (p := ⟨b, f + i, none⟩) hb).trans hc⟩
theorem PS.next (h : PS C N K w ps tb m) (hp : PR w C.base C.mb C.hb (.slice C.co C.code.length C.cc) pv C.code K own L tb m) (hk : PK w C.base pv ps) (k : CG own own' G C.base w w') (hp' : PR w' C.base C.mb C.hb (.slice C.co C.code.length C.cc) pv C.code K own' L' tb' m') (ho : OKM N' m') : PS C N' K w' ps tb' m' :=
  have kb := k.bel hp.ow
  ⟨⟨pv, own', L', hp', hk.below kb⟩, h.cd.below kb, ho, h.c64, h.bl.trans kb⟩
theorem PS.below (h : PS C N K w ps tb m) (hb : Below w.heap.size w w') : PS C N K w' ps tb m := by
  obtain ⟨pv, own, L, hp, hk⟩ := h.pr
  have k : CG own own (fun _ => False) C.base w w' := CG.below hp.ow hb
  exact h.next hp hk k (hp.cg k) h.ok
theorem PS.drewN (h : PS C N K w ps tb m) (k : Nat) : PS C N K (w.drewN k) ps tb m := h.below ⟨rfl, rfl, rfl, Nat.le_refl _, fun _ _ => rfl⟩
theorem PS.drew (h : PS C N K w ps tb m) : PS C N K w.drew ps tb m := h.drewN 1
theorem PR.how {base mb hb : Nat} {cv : Value} {code : List Mi} (h : PR w base mb hb cv pv code K own L tb m) (k j : Int) : PR w base mb hb cv pv code K own L tb { m with how := k, left := j } := ⟨h.ow, h.blk, h.omb, h.hm, h.wd, h.tr, h.otr, h.tl, h.th, h.few, h.ou, h.or_, h.hz, h.kk⟩
theorem PS.how (h : PS C N K w ps tb m) (k j : Int) : PS C N K w ps tb { m with how := k, left := j } := by
  obtain ⟨pv, own, L, hp, hk⟩ := h.pr
  exact ⟨⟨pv, own, L, hp.how k j, hk⟩, h.cd, ⟨h.ok.mem, h.ok.th, h.ok.outs, h.ok.order, h.ok.steps, h.ok.big⟩, h.c64, h.bl⟩
theorem PS.fin (h : PS C N K w ps tb m) (k : Int) : PS C N K w ps tb (m.fin k) := by
  unfold Mc.fin
  split
  · exact h.how k m.left
  · exact h
theorem PS.few (h : PS C N K w ps tb m) : m.ths.length ≤ 12 := by
  obtain ⟨pv, own, L, hp, hk⟩ := h.pr
  exact hp.few
theorem PS.tl (h : PS C N K w ps tb m) : tb.length = m.ths.length := by
  obtain ⟨pv, own, L, hp, hk⟩ := h.pr
  exact hp.tl
theorem PS.size (h : PS C N K w ps tb m) : C.mb < w.heap.size := by
  obtain ⟨pv, own, L, hp, hk⟩ := h.pr
  exact hp.lt
/-- The machine's cells. -/
theorem PS.mch (h : PS C N K w ps tb m) : w.cell? ⟨C.mb, 0, none⟩ = some (.slice C.co C.code.length C.cc) ∧ w.cell? ⟨C.mb, 2, none⟩ = some (ptr C.hb) ∧ w.cell? ⟨C.mb, 5, none⟩ = some (.bool m.failed) ∧ w.cell? ⟨C.mb, 6, none⟩ = some (.int .i64 m.value) ∧ w.cell? ⟨C.mb, 7, none⟩ = some (.int .i64 m.steps) ∧ C.mb < w.heap.size ∧ ∀ o, w.frozen? ⟨C.mb, o, none⟩ = false := by
  obtain ⟨pv, own, L, hp, hk⟩ := h.pr
  have c := fun o => cell_of_row w _ o _ 57 (0, 0) hp.blk
  exact ⟨c 0, c 2, c 5, c 6, c 7, hp.lt, fun o => frozen_of_row w _ o _ 57 hp.blk⟩
/-- A thread's cells. -/
theorem PS.thr (h : PS C N K w ps tb m) (ht : m.ths[t]? = some th) (hb : tb[t]? = some b) : ∃ at_ : Int, (th.abo = false → at_ = th.pc) ∧ w.cell? ⟨b, 0, none⟩ = some (ptr C.mb) ∧ w.cell? ⟨b, 1, none⟩ = some (.int .i64 t) ∧ w.cell? ⟨b, 3, none⟩ = some (.int .i64 (th.frame - stk t)) ∧ w.cell? ⟨b, 5, none⟩ = some (.int .i64 at_) ∧ w.cell? ⟨b, 6, none⟩ = some (.bool th.unw) ∧ w.cell? ⟨b, 7, none⟩ = some (.bool th.abo) ∧ w.cell? ⟨b, 8, none⟩ = some (.bool th.over) ∧ b < w.heap.size ∧ (∀ o, w.frozen? ⟨b, o, none⟩ = false) ∧ 0 ≤ th.frame - stk t ∧ th.frame - stk t < 4194304 := by
  obtain ⟨pv, own, L, hp, hk⟩ := h.pr
  obtain ⟨l, T⟩ := hp.th t b th ht hb
  have c := fun o => cell_of_row w _ o _ 65 (0, 0) T.blk
  obtain ⟨f1, f2⟩ := T.fr
  unfold stk at f1 f2 ⊢
  exact ⟨l.at_, T.at_, c 0, c 1, c 3, c 5, c 6, c 7, c 8, (Array.getElem?_eq_some_iff.1 T.blk).1, fun o => frozen_of_row w _ o _ 65 T.blk, by omega, by omega⟩
/-- The row of threads. -/
theorem PS.row (h : PS C N K w ps tb m) : ∃ o c, w.cell? ⟨C.mb, 4, none⟩ = some (.slice o m.ths.length c) ∧ ∀ (t b : Nat), tb[t]? = some b → ∃ q, o = some ⟨q, 0, none⟩ ∧ q < w.heap.size ∧ w.cell? ⟨q, t, none⟩ = some (ptr b) := by
  obtain ⟨pv, own, L, hp, hk⟩ := h.pr
  refine ⟨L.to_, L.tc, cell_of_row w _ 4 _ 57 (0, 0) hp.blk, fun t b hb => ?_⟩
  have hl := (List.getElem?_eq_some_iff.1 hb).1
  have htl := hp.tl
  rcases hp.tr.2 with ⟨h1, h2⟩ | ⟨q, cap, cur, h1, hb', hg, hnc, hcm, hcs, htake⟩
  · omega
  · simp at h1
    refine ⟨q, h1.1, (Array.getElem?_eq_some_iff.1 hg).1, ?_⟩
    rw [cell_of_row w q t cur 59 (0, 0) hg]
    have e : (cur.toList.take (m.ths.length * 1))[t]? = some (ptr b) := by rw [htake, List.getElem?_map, hb]; rfl
    rw [List.getElem?_take, if_pos (by omega)] at e
    simpa using e
/-- A word of a thread's stack; of the heap. -/
theorem PS.getT (h : PS C N K w ps tb m) (ht : m.ths[t]? = some th) (hb : tb[t]? = some b) (a : Nat) (ha : a < 4194304) : Calls Try.prog 61 #[.pointer (some ⟨b, 2, none⟩), .int .i64 a] w (Gives w (.int .i64 (m.mem ((t + 1) * 4194304 + a)))) := by
  obtain ⟨pv, own, L, hp, hk⟩ := h.pr
  obtain ⟨l, T⟩ := hp.th t b th ht hb
  exact get61 T.pg (cell_of_row w _ 2 _ 65 (0, 0) T.blk) (Array.getElem?_eq_some_iff.1 T.blk).1 a ha
theorem PS.getH (h : PS C N K w ps tb m) (a : Nat) (ha : a < 4194304) : Calls Try.prog 61 #[.pointer (some ⟨C.mb, 3, none⟩), .int .i64 a] w (Gives w (.int .i64 (m.mem a))) := by
  obtain ⟨pv, own, L, hp, hk⟩ := h.pr
  exact get61 hp.wd (cell_of_row w _ 3 _ 57 (0, 0) hp.blk) hp.lt a ha
/-- What a call leaves. -/
def PP (C : Ct) (N : Nat) (K : Nat → Obj → Prop) (ps : List Int) (tb : List Nat) (v : Value) (m : Mc) (e : Ending) (w' : World) : Prop := e = .returned v ∧ PS C N K w' ps tb m
/-- What a call leaves that ends the run. -/
def PX (C : Ct) (N : Nat) (K : Nat → Obj → Prop) (ps : List Int) (tb : List Nat) (k : Int) (m : Mc) (e : Ending) (w' : World) : Prop := e = .panicked [{ v := .iface 32 (.int .i64 k), recovered := false }] ∧ PS C N K w' ps tb m
theorem memT_upd {mem : Nat → Int} {a : Nat} {n : Int} : memT (upd mem ((t + 1) * 4194304 + a) n) t = upd (memT mem t) a n := by
  funext x
  unfold memT upd
  by_cases e : x = a
  · rw [if_pos e, if_pos (by rw [e])]
  · rw [if_neg e, if_neg (fun h => e (Nat.add_left_cancel h))]
theorem ths_same (ht : m.ths[t]? = some th) : m.ths.set t th = m.ths := by
  obtain ⟨h1, h2⟩ := List.getElem?_eq_some_iff.1 ht
  rw [← h2, List.set_getElem_self]
/-- A word of a thread's stack is written. -/
theorem PS.setT (h : PS C N K w ps tb m) (ht : m.ths[t]? = some th) (hb : tb[t]? = some b) (a : Nat) (ha : a < 4194304) {n : Int} (hn : I64 n) : Calls Try.prog 38 #[.pointer (some ⟨b, 2, none⟩), .int .i64 a, .int .i64 n] w (PP C N K ps tb (.tuple #[]) { m with mem := upd m.mem ((t + 1) * 4194304 + a) n }) := by
  obtain ⟨pv, own, L, hp, hk⟩ := h.pr
  obtain ⟨l, T⟩ := hp.th t b th ht hb
  have W : WS C.base (3 * t + 11) b 2 (3 * t + 10, 0) (tdC C.mb t th l) 65 (memT m.mem t) own l.po l.pc l.pg w := ⟨hp.ow, T.pg, T.blk, T.otb, (by show 2 < 9; decide), by simp⟩
  refine (set38 W a ha n).mono ?_
  rintro e w' ⟨rfl, own', po', pc', pg', W', k⟩
  refine ⟨rfl, ?_⟩
  have T' : TD w' C.base own' C.code C.mb t b th { l with po := po', pc := pc', pg := pg' } (upd m.mem ((t + 1) * 4194304 + a) n) := by
    refine ⟨W'.blk, W'.ob, ?_, ownsRow_same T.row (fun b hb _ => k.same b _ (T.orow b hb) (by show ¬ (3 * t + 12 = 3 * t + 11 ∨ 3 * t + 12 = 3 * t + 10); omega)), fun b hb => k.kp b _ (T.orow b hb) (by show ¬ (3 * t + 12 = 3 * t + 11 ∨ 3 * t + 12 = 3 * t + 10); omega), T.cok, T.at_, T.fr⟩
    rw [memT_upd]
    exact W'.pz
  have hp' := hp.setTd ht hb k (fun x hx => by
    rcases hx with e | e
    · exact .inr (.inl e)
    · exact .inl e) T' (fun x hx => by unfold upd; rw [if_neg (by omega)])
  rw [ths_same ht] at hp'
  exact h.next hp hk k hp' (h.ok.mem' hn _)
theorem TD.mem {base mb : Nat} {code : List Mi} {l : Tl} {mem mem' : Nat → Int} (h : TD w base own code mb t b th l mem) (e : memT mem' t = memT mem t) : TD w base own code mb t b th l mem' := ⟨h.blk, h.otb, e ▸ h.pg, h.row, h.orow, h.cok, h.at_, h.fr⟩
/-- A word of the heap is written. -/
theorem PS.setH (h : PS C N K w ps tb m) (a : Nat) (ha : a < 4194304) {n : Int} (hn : I64 n) : Calls Try.prog 38 #[.pointer (some ⟨C.mb, 3, none⟩), .int .i64 a, .int .i64 n] w (PP C N K ps tb (.tuple #[]) { m with mem := upd m.mem a n }) := by
  obtain ⟨pv, own, L, hp, hk⟩ := h.pr
  have W : WS C.base 2 C.mb 3 (0, 0) (pmC (.slice C.co C.code.length C.cc) pv C.hb L m) 57 m.mem own L.po L.pc L.pg w := ⟨hp.ow, hp.wd, hp.blk, hp.omb, (by show 3 < 10; decide), by decide⟩
  refine (set38 W a ha n).mono ?_
  rintro e w' ⟨rfl, own', po', pc', pg', W', k⟩
  refine ⟨rfl, ?_⟩
  have k' : CG own own' (fun x => x = 2 ∨ x = 0) C.base w w' := k
  refine h.next (L' := { L with po := po', pc := pc', pg := pg' }) hp hk k ⟨k.ow, W'.blk, W'.ob, hp.hm.cg hp.ow k, W'.pz, ownsRow_same hp.tr (fun b hb _ => k'.same b _ (hp.otr b hb) (by decide)), fun b hb => k'.kp b _ (hp.otr b hb) (by decide), hp.tl, fun t b x hx hb => ?_, hp.few, hp.ou.cg k' (by decide), hp.or_.cg k' (by decide), fun x hx => ?_, kk_cg hp.kk k⟩ (h.ok.mem' hn _)
  · obtain ⟨l, T⟩ := hp.th t b x hx hb
    refine ⟨l, (T.cg k' (by show ¬ (3 * t + 10 = 2 ∨ 3 * t + 10 = 0); omega) (by show ¬ (3 * t + 11 = 2 ∨ 3 * t + 11 = 0); omega) (by show ¬ (3 * t + 12 = 2 ∨ 3 * t + 12 = 0); omega)).mem ?_⟩
    funext y
    unfold memT upd
    exact if_neg (by omega)
  · show upd m.mem a n x = 0
    have hx' : (m.ths.length + 1) * 4194304 ≤ x := hx
    clear hx
    unfold upd
    rw [if_neg (by omega)]
    exact hp.hz x hx'
end
end Go.Proofs.Ytflifialjdhenaa
