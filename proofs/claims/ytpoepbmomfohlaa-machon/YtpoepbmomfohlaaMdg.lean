/- The document's machine: which meeting is done. -/
import Derived.Test.YtpoepbmomfohlaaMdc
import Derived.Test.YtpoepbmomfohlaaPmd
namespace Go.Proofs.Ytpoepbmomfohlaa
open Go.RowKit
set_option linter.all false
/-- Among the threads from number i on that can go on the first one that is not below a pick, or else f, or the first one. -/
def chooseI (m : Mc) (code : List Mi) (pick : Int) : Nat → Int → List Th → Int
  | _, f, [] => f
  | i, f, th :: r => if th.over || !(meetB m code i th).2 then chooseI m code pick (i + 1) f r else if pick ≤ (i : Int) then (i : Int) else chooseI m code pick (i + 1) (if f < 0 then (i : Int) else f) r
section
variable {base mb : Nat} {co : Option Addr} {cc : Nat} {code : List Mi} {N ib : Nat} {x : Mi} {w w' : World} {L L' : Ly} {m m' : Mc} {t : Nat} {th th' : Th}
end
end Go.Proofs.Ytpoepbmomfohlaa
namespace Go.Proofs.Ytpoepbmomfohlaa
open Go.RowKit
set_option linter.all false
def Mc.finM (m : Mc) : Mc := if m.ths.all (fun th => th.over) then { m.fin (if m.failed then 2 else 1) with left := m.hp.length } else m.fin 3
section
variable {base mb : Nat} {co : Option Addr} {cc : Nat} {code : List Mi} {N ib : Nat} {x : Mi} {w w' : World} {L L' : Ly} {m m' : Mc} {t : Nat} {th th' : Th}
theorem fin_hp (m : Mc) (k : Int) : (m.fin k).hp = m.hp := by unfold Mc.fin; split <;> rfl
end
end Go.Proofs.Ytpoepbmomfohlaa
namespace Go.Proofs.Ytpoepbmomfohlaa
open Go.RowKit
set_option linter.all false
def Mc.zero : Mc := ⟨fun _ => 0, [], [Th.new 0 4194304], false, 0, 0, 0, [], [], 0⟩
def Mc.init (arg : Int) : Mc := { Mc.zero with mem := upd Mc.zero.mem 4194304 arg }
/-- The run: n bounds the rounds; k: how many picks have been used. -/
def runM (code : List Mi) (picks : List Int) (most : Int) : Nat → Nat → Mc → Mc
  | 0, _, m => m
  | n + 1, k, m => if m.how ≠ 0 then m else
    if 0 ≤ aloneI m code 0 m.ths then
      (if most ≤ m.steps then m else match m.ths[(aloneI m code 0 m.ths).toNat]? with
        | some th => runM code picks most n k (m.stepM code (aloneI m code 0 m.ths).toNat th)
        | none => m)
    else if chooseI m code ((picks[k]?).getD 0) 0 (-1) m.ths < 0 then m.finM
    else if most ≤ m.steps then m else match m.ths[(chooseI m code ((picks[k]?).getD 0) 0 (-1) m.ths).toNat]? with
      | some th => runM code picks most n (k + 1) (m.stepM code (chooseI m code ((picks[k]?).getD 0) 0 (-1) m.ths).toNat th)
      | none => m
def ownI (W : Nat) : Nat → Option (Nat × Nat) := fun b => if b = W + 2 then some (0, 0) else if b = W then some (1, 0) else if b = W + 1 then some (3, 0) else none
abbrev mcI (cv : Value) (W : Nat) : Array Value := #[cv, .slice none 0 0, .pointer (some ⟨W, 0, none⟩), .slice (some ⟨W + 1, 0, none⟩) 1 1, .bool false, .int .i64 0, .int .i64 0, .int .i64 0, .int .i64 0, .slice none 0 0, .slice none 0 0, .int .i64 0, .int .i64 0]
theorem MR.init (W : World) (cv : Value) : ∃ L, MR (((W.alloc (.cells #[.int .i64 4194303, .slice none 0 0] 68)).alloc (.cells (thN 0 4194304) 41)).alloc (.cells (mcI cv W.heap.size) 45)) W.heap.size (W.heap.size + 2) cv L Mc.zero ∧ (∀ b, b < W.heap.size → L.own b = none) := by
  have h3 := al3 W (.cells #[.int .i64 4194303, .slice none 0 0] 68) (.cells (thN 0 4194304) 41) (.cells (mcI cv W.heap.size) 45)
  generalize hw : ((W.alloc (.cells #[.int .i64 4194303, .slice none 0 0] 68)).alloc (.cells (thN 0 4194304) 41)).alloc (.cells (mcI cv W.heap.size) 45) = w at h3
  obtain ⟨hb, b0, b1, b2⟩ := h3
  have hsz : w.heap.size = W.heap.size + 3 := by rw [← hw]; simp
  have o2 : ownI W.heap.size (W.heap.size + 2) = some (0, 0) := by unfold ownI; rw [if_pos rfl]
  have o0 : ownI W.heap.size W.heap.size = some (1, 0) := by unfold ownI; rw [if_neg (by omega), if_pos rfl]
  have o1 : ownI W.heap.size (W.heap.size + 1) = some (3, 0) := by unfold ownI; rw [if_neg (by omega), if_neg (by omega), if_pos rfl]
  refine ⟨⟨ownI W.heap.size, none, 0, [], W.heap.size, some ⟨W.heap.size + 1, 0, none⟩, 1, [⟨none, 0⟩], none, 0, none, 0⟩, ⟨b2, o2, ⟨⟨none, 0, ⟨b0, World.ownsRow_nil _ _ _ _, Nat.le_refl _, by show (1 : Int) ≤ 4194303 + 1; decide, by decide⟩, fun b e => by simp [Value.ownBlock] at e⟩, o0⟩, ⟨World.ownsRow_nil _ _ _ _, fun b e => by simp [Value.ownBlock] at e, fun i g hg => by simp at hg, fun _ _ => rfl, Nat.zero_le _⟩, ⟨?_, ?_, rfl, ?_, by decide, ?_⟩, ⟨World.ownsRow_nil _ _ _ _, fun b e => by simp [Value.ownBlock] at e⟩, ⟨World.ownsRow_nil _ _ _ _, fun b e => by simp [Value.ownBlock] at e⟩, by omega, ?_, ?_⟩, ?_⟩
  · exact ⟨rfl, .inr ⟨W.heap.size + 1, 1, thN 0 4194304, rfl, by omega, b1, Nat.le_refl _, by decide, rfl, rfl⟩⟩
  · intro b e
    have e' : W.heap.size + 1 = b := by simpa [Value.ownBlock] using e
    rw [← e']
    exact o1
  · intro i t r ht hr
    have hi : i = 0 := by
      have := (List.getElem?_eq_some_iff.1 ht).1
      have h1 : i < 1 := this
      omega
    subst hi
    have ht' : Th.new 0 4194304 = t := by simpa [Mc.zero] using ht
    have hr' : (⟨none, 0⟩ : Rq) = r := by simpa using hr
    subst ht' hr'
    exact ⟨World.ownsRow_nil _ _ _ _, fun b e => by simp [Value.ownBlock, Th.new] at e⟩
  · intro i t ht
    have hi : i = 0 := by
      have := (List.getElem?_eq_some_iff.1 ht).1
      have h1 : i < 1 := this
      omega
    subst hi
    have ht' : Th.new 0 4194304 = t := by simpa [Mc.zero] using ht
    subst ht'
    unfold stk Th.new
    simp
  · intro b hn
    have hn' : ownI W.heap.size b ≠ none := hn
    unfold ownI at hn'
    split at hn'
    · omega
    · split at hn'
      · omega
      · split at hn'
        · omega
        · exact absurd rfl hn'
  · intro b s e
    have e' : ownI W.heap.size b = some (0, s) := e
    unfold ownI at e'
    split at e'
    · assumption
    · split at e'
      · simp at e'
      · split at e'
        · simp at e'
        · simp at e'
  · intro b hb2
    show ownI W.heap.size b = none
    unfold ownI
    rw [if_neg (by omega), if_neg (by omega), if_neg (by omega)]
theorem OKM.init : OKM 0 Mc.zero := ⟨fun _ => I64_0, fun i t ht => by
  have hi : i = 0 := by
    have := (List.getElem?_eq_some_iff.1 ht).1
    have h1 : i < 1 := this
    omega
  subst hi
  have ht' : Th.new 0 4194304 = t := by simpa [Mc.zero] using ht
  subst ht'
  exact ⟨I64_0, Nat.le_refl _, fun c hc => by simp [Th.new] at hc⟩, Nat.le_refl _, Nat.le_refl _, ⟨Int.le_refl _, Int.le_refl _⟩, by decide⟩
end Go.Proofs.Ytpoepbmomfohlaa
namespace Go.Proofs.Ytpoepbmomfohlaa
open Go.RowKit
set_option linter.all false
/-- Where a thread's things lie. -/
structure Tl where
  po : Option Addr
  pc : Nat
  pg : List (Option Nat)
  co : Option Addr
  cc : Nat
  at_ : Int
abbrev tdC (mb t : Nat) (th : Th) (l : Tl) : Array Value := #[.pointer (some ⟨mb, 0, none⟩), .int .i64 t, .slice l.po l.pg.length l.pc, .int .i64 (th.frame - stk t), .slice l.co th.calls.length l.cc, .int .i64 l.at_, .bool th.unw, .bool th.abo, .bool th.over]
def clC (t : Nat) (x : Int × Int × Int) : List Value := [.int .i64 (x.1 - 1), .int .i64 (x.2.2 - stk t)]
def memT (mem : Nat → Int) (t : Nat) : Nat → Int := fun a => mem ((t + 1) * 4194304 + a)
/-- A thread in memory. -/
structure TD (w : World) (base : Nat) (own : Nat → Option (Nat × Nat)) (code : List Mi) (mb t b : Nat) (th : Th) (l : Tl) (mem : Nat → Int) : Prop where
  blk : w.heap[b]? = some (.cells (tdC mb t th l) 50 (0, 0))
  otb : own b = some (3 * t + 10, 0)
  pg : PZ w base own (3 * t + 11) l.po l.pc l.pg (memT mem t)
  row : w.ownsRow base 85 2 (.slice l.co th.calls.length l.cc) th.calls.length (th.calls.map (clC t)).flatten
  orow : ∀ b, (Value.slice l.co th.calls.length l.cc).ownBlock = some b → own b = some (3 * t + 12, 0)
  cok : ∀ c ∈ th.calls, 1 ≤ c.1 ∧ c.1 ≤ code.length ∧ (insAt code (c.1 - 1)).1.e = c.2.1
  at_ : th.abo = false → l.at_ = th.pc
  fr : stk t ≤ th.frame ∧ th.frame < stk (t + 1)
/-- Where the machine's things lie. -/
structure Pl where
  po : Option Addr
  pc : Nat
  pg : List (Option Nat)
  to_ : Option Addr
  tc : Nat
  oo : Option Addr
  oc : Nat
  ro_ : Option Addr
  rc : Nat
abbrev pmC (cv pv : Value) (hb : Nat) (L : Pl) (m : Mc) : Array Value := #[cv, pv, .pointer (some ⟨hb, 0, none⟩), .slice L.po L.pg.length L.pc, .slice L.to_ m.ths.length L.tc, .bool m.failed, .int .i64 m.value, .int .i64 m.steps, .slice L.oo m.outs.length L.oc, .slice L.ro_ m.order.length L.rc]
abbrev ptr (b : Nat) : Value := .pointer (some ⟨b, 0, none⟩)
structure PR (w : World) (base mb hb : Nat) (cv pv : Value) (code : List Mi) (K : Nat → Obj → Prop) (own : Nat → Option (Nat × Nat)) (L : Pl) (tb : List Nat) (m : Mc) : Prop where
  ow : OW own base w
  blk : w.heap[mb]? = some (.cells (pmC cv pv hb L m) 41 (0, 0))
  omb : own mb = some (0, 0)
  hm : HM w base hb 4194303 m.hp
  wd : PZ w base own 2 L.po L.pc L.pg m.mem
  tr : w.ownsRow base 44 1 (.slice L.to_ m.ths.length L.tc) m.ths.length (tb.map ptr)
  otr : ∀ b, (Value.slice L.to_ m.ths.length L.tc).ownBlock = some b → own b = some (3, 0)
  tl : tb.length = m.ths.length
  th : ∀ (t b : Nat) (x : Th), m.ths[t]? = some x → tb[t]? = some b → ∃ l, TD w base own code mb t b x l m.mem
  few : m.ths.length ≤ 12
  ou : NRW w base own 4 L.oo L.oc m.outs
  or_ : NRW w base own 5 L.ro_ L.rc m.order
  hz : ∀ a, (m.ths.length + 1) * 4194304 ≤ a → m.mem a = 0
  kk : ∀ b o, K b o → own b = none ∧ w.heap[b]? = some o ∧ ∃ c t z, o = .cells c t z ∧ t ≠ 55 ∧ t ≠ 70
section
variable {w w' w1 : World} {base mb hb : Nat} {cv pv : Value} {code : List Mi} {K : Nat → Obj → Prop} {own own' : Nat → Option (Nat × Nat)} {L L' : Pl} {tb : List Nat} {m m' : Mc} {G : Nat → Prop} {t b : Nat} {th : Th} {l : Tl} {mem : Nat → Int}
theorem pageA_congr {mem mem' : Nat → Int} {i : Nat} (h : ∀ k, k < 1024 → mem' (i * 1024 + k) = mem (i * 1024 + k)) : pageA mem' i = pageA mem i := by
  have e : ∀ k ∈ List.range 1024, Value.int .i64 (mem' (i * 1024 + k)) = Value.int .i64 (mem (i * 1024 + k)) := fun k hk => by rw [h k (List.mem_range.1 hk)]
  unfold pageA
  rw [List.map_congr_left e]
theorem CG.bel (o : OW own base w) (c : CG own own' G base w w') : Below base w w' := ⟨c.kx.os, c.kx.tape, c.kx.output, c.kx.size, fun b hb => c.kx.block b (by have := o.bs; omega) (fun hn => by have := (o.olt b hn).1; omega)⟩
theorem NRW.cg {g : Nat} {o : Option Addr} {c : Nat} {ns : List Int} (h : NRW w base own g o c ns) (k : CG own own' G base w w') (hg : ¬ G g) : NRW w' base own' g o c ns := ⟨ownsRow_same h.row (fun b hb _ => k.same b _ (h.orow b hb) hg), fun b hb => k.kp b _ (h.orow b hb) hg⟩
theorem TD.cg (h : TD w base own code mb t b th l mem) (k : CG own own' G base w w') (h0 : ¬ G (3 * t + 10)) (h1 : ¬ G (3 * t + 11)) (h2 : ¬ G (3 * t + 12)) : TD w' base own' code mb t b th l mem :=
  ⟨(k.same b _ h.otb h0).trans h.blk, k.kp b _ h.otb h0, h.pg.cg k h1, ownsRow_same h.row (fun b hb _ => k.same b _ (h.orow b hb) h2), fun b hb => k.kp b _ (h.orow b hb) h2, h.cok, h.at_, h.fr⟩
theorem kk_cg (h : ∀ b o, K b o → own b = none ∧ w.heap[b]? = some o ∧ ∃ c t z, o = .cells c t z ∧ t ≠ 55 ∧ t ≠ 70) (k : CG own own' G base w w') : ∀ b o, K b o → own' b = none ∧ w'.heap[b]? = some o ∧ ∃ c t z, o = .cells c t z ∧ t ≠ 55 ∧ t ≠ 70 := fun b o hk => by
  obtain ⟨h1, h2, h3⟩ := h b o hk
  have hl := (Array.getElem?_eq_some_iff.1 h2).1
  exact ⟨k.on b hl h1, (k.kx.block b hl (fun hn => hn h1)).trans h2, h3⟩
theorem PR.lt (h : PR w base mb hb cv pv code K own L tb m) : mb < w.heap.size := (h.ow.olt mb (by rw [h.omb]; simp)).2
/-- Nothing of the machine has changed. -/
theorem PR.cg (h : PR w base mb hb cv pv code K own L tb m) (k : CG own own' (fun _ => False) base w w') : PR w' base mb hb cv pv code K own' L tb m :=
  ⟨k.ow, (k.same mb _ h.omb (fun x => x)).trans h.blk, k.kp mb _ h.omb (fun x => x), h.hm.cg h.ow k, h.wd.cg k (fun x => x), ownsRow_same h.tr (fun b hb _ => k.same b _ (h.otr b hb) (fun x => x)), fun b hb => k.kp b _ (h.otr b hb) (fun x => x), h.tl, fun t b x hx hb => by
    obtain ⟨l, hl⟩ := h.th t b x hx hb
    exact ⟨l, hl.cg k (fun x => x) (fun x => x) (fun x => x)⟩, h.few, h.ou.cg k (fun x => x), h.or_.cg k (fun x => x), h.hz, kk_cg h.kk k⟩
/-- Its own block has changed. -/
theorem PR.set (h : PR w base mb hb cv pv code K own L tb m) {pv' : Value} (o : Nat) (u : Value) (he : (pmC cv pv hb L m).setIfInBounds o u = pmC cv pv' hb L m') (h1 : m'.hp = m.hp) (h2 : m'.mem = m.mem) (h3 : m'.ths = m.ths) (h4 : m'.outs = m.outs) (h5 : m'.order = m.order) : PR (w.setCell ⟨mb, o, none⟩ u) base mb hb cv pv' code K own L tb m' ∧ CG own own (fun x => x = 0) base w (w.setCell ⟨mb, o, none⟩ u) := by
  have k := CG.set (G := fun x => x = 0) h.ow h.omb rfl o u
  refine ⟨⟨k.ow, ?_, h.omb, h1 ▸ h.hm.cg h.ow k, h2 ▸ h.wd.cg k (by decide), h3 ▸ ownsRow_same h.tr (fun b hb _ => k.same b _ (h.otr b hb) (by decide)), h3 ▸ h.otr, h3 ▸ h.tl, fun t b x hx hb => ?_, h3 ▸ h.few, h4 ▸ h.ou.cg k (by decide), h5 ▸ h.or_.cg k (by decide), h3 ▸ h2 ▸ h.hz, kk_cg h.kk k⟩, k⟩
  · rw [heap_setCell_same w mb o _ 41 u h.blk, he]
  · rw [h3] at hx
    obtain ⟨l, hl⟩ := h.th t b x hx hb
    exact ⟨l, h2 ▸ hl.cg k (by show ¬ (3 * t + 10 = 0); omega) (by show ¬ (3 * t + 11 = 0); omega) (by show ¬ (3 * t + 12 = 0); omega)⟩
/-- A thread has changed. -/
theorem PR.setTd (h : PR w base mb hb cv pv code K own L tb m) (ht : m.ths[t]? = some th) (htb : tb[t]? = some b) (k : CG own own' G base w w') (hG : ∀ x, G x → x = 3 * t + 10 ∨ x = 3 * t + 11 ∨ x = 3 * t + 12) {th' : Th} {l' : Tl} {mem' : Nat → Int} (hT : TD w' base own' code mb t b th' l' mem') (hm : ∀ a, a < (t + 1) * 4194304 ∨ (t + 2) * 4194304 ≤ a → mem' a = m.mem a) : PR w' base mb hb cv pv code K own' L tb { m with ths := m.ths.set t th', mem := mem' } := by
  have htl := (List.getElem?_eq_some_iff.1 ht).1
  have hn : ∀ x, x < 10 → ¬ G x := fun x hx hg => by rcases hG x hg with e | e | e <;> omega
  have hlen : (m.ths.set t th').length = m.ths.length := List.length_set ..
  refine ⟨k.ow, ?_, k.kp mb _ h.omb (hn 0 (by decide)), h.hm.cg h.ow k, ?_, ?_, ?_, h.tl.trans hlen.symm, fun t' b' x hx hb' => ?_, ?_, h.ou.cg k (hn 4 (by decide)), h.or_.cg k (hn 5 (by decide)), fun a ha => ?_, kk_cg h.kk k⟩
  · rw [k.same mb _ h.omb (hn 0 (by decide)), h.blk]
    simp
  · have hp := h.wd.cg k (hn 2 (by decide))
    refine ⟨hp.row, hp.orow, fun i q hq => ?_, fun a ha hq => ?_, hp.few⟩
    · obtain ⟨q1, q2⟩ := hp.page i q hq
      refine ⟨q1, ?_⟩
      have e : pageA mem' i = pageA m.mem i := by
        have hi := (List.getElem?_eq_some_iff.1 hq).1
        have hfew := hp.few
        exact pageA_congr (fun k hk => hm _ (.inl (by omega)))
      show _ = some (Obj.cells (pageA mem' i) 73 (0, 0))
      rw [e]
      exact q2
    · show mem' a = 0
      rw [hm a (.inl (by omega))]
      exact hp.zero a ha hq
  · show World.ownsRow _ _ _ _ (.slice L.to_ (m.ths.set t th').length L.tc) (m.ths.set t th').length _
    rw [hlen]
    exact ownsRow_same h.tr (fun b hb _ => k.same b _ (h.otr b hb) (hn 3 (by decide)))
  · show ∀ b, (Value.slice L.to_ (m.ths.set t th').length L.tc).ownBlock = some b → _
    rw [hlen]
    exact fun b hb => k.kp b _ (h.otr b hb) (hn 3 (by decide))
  · by_cases e : t' = t
    · subst e
      have hx' : some th' = some x := by
        have := hx
        simp only [List.getElem?_set_self htl] at this
        exact this
      obtain rfl := Option.some.inj hx'
      rw [htb] at hb'
      obtain rfl := Option.some.inj hb'
      exact ⟨l', hT⟩
    · have hx' : m.ths[t']? = some x := by
        have := hx
        simp only [List.getElem?_set_ne (fun e2 => e (e2.symm))] at this
        exact this
      obtain ⟨l, hl⟩ := h.th t' b' x hx' hb'
      have hl' := hl.cg k (fun hg => by rcases hG _ hg with e | e | e <;> omega) (fun hg => by rcases hG _ hg with e | e | e <;> omega) (fun hg => by rcases hG _ hg with e | e | e <;> omega)
      refine ⟨l, hl'.blk, hl'.otb, ?_, hl'.row, hl'.orow, hl'.cok, hl'.at_, hl'.fr⟩
      have ee : ∀ a, a < 4194304 → memT mem' t' a = memT m.mem t' a := fun a ha => hm _ (by omega)
      refine ⟨hl'.pg.row, hl'.pg.orow, fun i q hq => ?_, fun a ha hq => ?_, hl'.pg.few⟩
      · obtain ⟨q1, q2⟩ := hl'.pg.page i q hq
        refine ⟨q1, ?_⟩
        have e : pageA (memT mem' t') i = pageA (memT m.mem t') i := by
          have hi := (List.getElem?_eq_some_iff.1 hq).1
          have hfew := hl'.pg.few
          exact pageA_congr (fun k hk => ee _ (by omega))
        show _ = some (Obj.cells (pageA (memT mem' t') i) 73 (0, 0))
        rw [e]
        exact q2
      · show memT mem' t' a = 0
        rw [ee a ha]
        exact hl'.pg.zero a ha hq
  · show (m.ths.set t th').length ≤ 12
    rw [hlen]
    exact h.few
  · have ha' : (m.ths.length + 1) * 4194304 ≤ a := by
      have := ha
      simp only [hlen] at this
      exact this
    clear ha
    have hge : (t + 2) * 4194304 ≤ a := Nat.le_trans (Nat.mul_le_mul_right _ (show t + 2 ≤ m.ths.length + 1 by omega)) ha'
    exact (hm a (.inr hge)).trans (h.hz a ha')
end
end Go.Proofs.Ytpoepbmomfohlaa
