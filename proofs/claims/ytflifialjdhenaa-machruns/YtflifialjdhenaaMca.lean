/- A machine of words: its state, and the document's machine in memory. -/
import Derived.Test.YtflifialjdhenaaHpc
namespace Go.Proofs.Ytflifialjdhenaa
open Go.RowKit
set_option linter.all false
structure Th where
  pc : Int
  frame : Int
  calls : List (Int × Int × Int)
  unw : Bool
  abo : Bool
  over : Bool
structure Mc where
  mem : Nat → Int
  hp : List (Int × Int)
  ths : List Th
  failed : Bool
  how : Int
  value : Int
  steps : Int
  outs : List Int
  order : List Int
  left : Int
structure Mi where
  op : Int
  a : Int
  b : Int
  c : Int
  d : Int
  e : Int
def Mc.fin (m : Mc) (h : Int) : Mc := if m.how = 0 then { m with how := h } else m
def stk (t : Int) : Int := (t + 1) * 4194304
/-- The address of a slot and true, or how the run ends and false. -/
def slotR (fr : Int) (t : Nat) (k : Int) : Int × Bool := if k < 0 then (9, false) else if stk (t + 1) - fr ≤ k then (8, false) else (fr + k, true)
/-- Whether there is a word at a + c. -/
def Mc.wordB (m : Mc) (a c : Int) : Bool := decide (-9223372036854775808 ≤ a + c ∧ a + c ≤ 9223372036854775807) && decide (1 ≤ a + c) && decide (a + c < stk m.ths.length) && (decide (4194304 ≤ a + c) || decide (0 ≤ hfindI m.hp (a + c)))
def ziC (x : Int × Int × Int) : List Value := [.int .i64 x.1, .int .i64 x.2.1, .int .i64 x.2.2]
/-- Where a row lies. -/
structure Rq where
  o : Option Addr
  c : Nat
def thC (x : Th × Rq) : List Value := [.int .i64 x.1.pc, .int .i64 x.1.frame, .slice x.2.o x.1.calls.length x.2.c, .bool x.1.unw, .bool x.1.abo, .bool x.1.over]
def pgV : Option Nat → Value
  | some g => .slice (some ⟨g, 0, none⟩) 1024 1024
  | none => .slice none 0 0
def pageA (mem : Nat → Int) (i : Nat) : Array Value := ((List.range 1024).map (fun k => Value.int .i64 (mem (i * 1024 + k)))).toArray
/-- Blocks of one group are as they were. -/
def sameG (own : Nat → Option (Nat × Nat)) (g : Nat) (w w' : World) : Prop := ∀ b s, own b = some (g, s) → w'.heap[b]? = w.heap[b]?
def keepG (own own' : Nat → Option (Nat × Nat)) (g : Nat) : Prop := ∀ b s, own b = some (g, s) → own' b = some (g, s)
/-- The pages. -/
structure PGS (w : World) (base : Nat) (own : Nat → Option (Nat × Nat)) (po : Option Addr) (pc : Nat) (pg : List (Option Nat)) (mem : Nat → Int) : Prop where
  row : w.ownsRow base 23 1 (.slice po pg.length pc) pg.length (pg.map pgV)
  orow : ∀ b, (Value.slice po pg.length pc).ownBlock = some b → own b = some (2, 0)
  page : ∀ (i g : Nat), pg[i]? = some (some g) → own g = some (2, i + 1) ∧ base ≤ g ∧ w.heap[g]? = some (.cells (pageA mem i) 3 (0, 0))
  zero : ∀ a, (∀ g, pg[a / 1024]? ≠ some (some g)) → mem a = 0
  few : pg.length ≤ 60000
/-- The threads. -/
structure THS (w : World) (base : Nat) (own : Nat → Option (Nat × Nat)) (to_ : Option Addr) (tc : Nat) (cr : List Rq) (ths : List Th) : Prop where
  row : w.ownsRow base 41 6 (.slice to_ ths.length tc) ths.length ((ths.zip cr).map thC).flatten
  orow : ∀ b, (Value.slice to_ ths.length tc).ownBlock = some b → own b = some (3, 0)
  crl : cr.length = ths.length
  calls : ∀ (i : Nat) (t : Th) (r : Rq), ths[i]? = some t → cr[i]? = some r → w.ownsRow base 96 3 (.slice r.o t.calls.length r.c) t.calls.length (t.calls.map ziC).flatten ∧ ∀ b, (Value.slice r.o t.calls.length r.c).ownBlock = some b → own b = some (3, i + 1)
  few : ths.length ≤ 12
  fr : ∀ (i : Nat) (t : Th), ths[i]? = some t → stk i ≤ t.frame ∧ t.frame < stk (i + 1)
/-- A row of numbers. -/
structure NRW (w : World) (base : Nat) (own : Nat → Option (Nat × Nat)) (g : Nat) (o : Option Addr) (c : Nat) (ns : List Int) : Prop where
  row : w.ownsRow base 3 1 (.slice o ns.length c) ns.length (ns.map (Value.int .i64))
  orow : ∀ b, (Value.slice o ns.length c).ownBlock = some b → own b = some (g, 0)
/-- The heap. -/
structure HPS (w : World) (base : Nat) (own : Nat → Option (Nat × Nat)) (hb : Nat) (hp : List (Int × Int)) : Prop where
  ex : ∃ bo cp, HP w base hb 4194303 bo cp hp ∧ ∀ b, (Value.slice bo hp.length cp).ownBlock = some b → own b = some (1, 1)
  ob : own hb = some (1, 0)
section
variable {w w' : World} {base : Nat} {own own' : Nat → Option (Nat × Nat)}
theorem PGS.frame {po : Option Addr} {pc : Nat} {pg : List (Option Nat)} {mem : Nat → Int} (h : PGS w base own po pc pg mem) (hs : sameG own 2 w w') (ho : keepG own own' 2) : PGS w' base own' po pc pg mem :=
  ⟨ownsRow_same h.row (fun b hb _ => hs b 0 (h.orow b hb)), fun b hb => ho b 0 (h.orow b hb), fun i g hg => ⟨ho g _ (h.page i g hg).1, (h.page i g hg).2.1, (hs g _ (h.page i g hg).1).trans (h.page i g hg).2.2⟩, h.zero, h.few⟩
theorem THS.frame {to_ : Option Addr} {tc : Nat} {cr : List Rq} {ths : List Th} (h : THS w base own to_ tc cr ths) (hs : sameG own 3 w w') (ho : keepG own own' 3) : THS w' base own' to_ tc cr ths :=
  ⟨ownsRow_same h.row (fun b hb _ => hs b 0 (h.orow b hb)), fun b hb => ho b 0 (h.orow b hb), h.crl, fun i t r ht hr => ⟨ownsRow_same (h.calls i t r ht hr).1 (fun b hb _ => hs b _ ((h.calls i t r ht hr).2 b hb)), fun b hb => ho b _ ((h.calls i t r ht hr).2 b hb)⟩, h.few, h.fr⟩
theorem NRW.frame {g : Nat} {o : Option Addr} {c : Nat} {ns : List Int} (h : NRW w base own g o c ns) (hs : sameG own g w w') (ho : keepG own own' g) : NRW w' base own' g o c ns :=
  ⟨ownsRow_same h.row (fun b hb _ => hs b 0 (h.orow b hb)), fun b hb => ho b 0 (h.orow b hb)⟩
theorem HPS.frame {hb : Nat} {hp : List (Int × Int)} (h : HPS w base own hb hp) (hs : sameG own 1 w w') (ho : keepG own own' 1) : HPS w' base own' hb hp := by
  obtain ⟨⟨bo, cp, h1, h2⟩, h3⟩ := h
  exact ⟨⟨bo, cp, ⟨(hs hb 0 h3).trans h1.blk, ownsRow_same h1.row (fun b hb _ => hs b 1 (h2 b hb)), h1.hb, h1.ok, h1.sz⟩, fun b hb => ho b 1 (h2 b hb)⟩, ho hb 0 h3⟩
end
/-- Where all lies. -/
structure Ly where
  own : Nat → Option (Nat × Nat)
  po : Option Addr
  pc : Nat
  pg : List (Option Nat)
  hb : Nat
  to_ : Option Addr
  tc : Nat
  cr : List Rq
  oo : Option Addr
  oc : Nat
  ro_ : Option Addr
  rc : Nat
abbrev mcC (cv : Value) (L : Ly) (m : Mc) : Array Value := #[cv, .slice L.po L.pg.length L.pc, .pointer (some ⟨L.hb, 0, none⟩), .slice L.to_ m.ths.length L.tc, .bool m.failed, .int .i64 m.how, .int .i64 0, .int .i64 m.value, .int .i64 m.steps, .slice L.oo m.outs.length L.oc, .slice L.ro_ m.order.length L.rc, .int .i64 m.left, .int .i64 0]
/-- The document's machine in memory. -/
structure MR (w : World) (base mb : Nat) (cv : Value) (L : Ly) (m : Mc) : Prop where
  blk : w.heap[mb]? = some (.cells (mcC cv L m) 45 (0, 0))
  omb : L.own mb = some (0, 0)
  hp : HPS w base L.own L.hb m.hp
  pg : PGS w base L.own L.po L.pc L.pg m.mem
  th : THS w base L.own L.to_ L.tc L.cr m.ths
  ou : NRW w base L.own 4 L.oo L.oc m.outs
  or_ : NRW w base L.own 5 L.ro_ L.rc m.order
  hbase : base ≤ mb
  olt : ∀ b, L.own b ≠ none → base ≤ b ∧ b < w.heap.size
  o0 : ∀ b s, L.own b = some (0, s) → b = mb
/-- What a call may change. -/
structure Kf (L L' : Ly) (w w' : World) : Prop where
  kx : KX (fun b => L.own b ≠ none) w.heap.size w w'
  on : ∀ b, b < w.heap.size → L.own b = none → L'.own b = none
  hb : L'.hb = L.hb
def MP (w : World) (base mb : Nat) (cv : Value) (L : Ly) (v : Value) (m' : Mc) (e : Ending) (w' : World) : Prop := e = .returned v ∧ ∃ L', MR w' base mb cv L' m' ∧ Kf L L' w w'
theorem Kf.refl (L : Ly) (w : World) : Kf L L w w := ⟨KX.refl _ _ _, fun _ _ h => h, rfl⟩
theorem Kf.trans {L L' L'' : Ly} {w w' w'' : World} (h : Kf L L' w w') (k : Kf L' L'' w' w'') : Kf L L'' w w'' :=
  ⟨⟨k.kx.os.trans h.kx.os, k.kx.tape.trans h.kx.tape, k.kx.output.trans h.kx.output, Nat.le_trans h.kx.size k.kx.size, fun b hb hn => (k.kx.block b (Nat.lt_of_lt_of_le hb h.kx.size) (fun hx => hx (h.on b hb (Classical.byContradiction hn)))).trans (h.kx.block b hb hn)⟩, fun b hb hn => k.on b (Nat.lt_of_lt_of_le hb h.kx.size) (h.on b hb hn), k.hb.trans h.hb⟩
theorem Kf.drewN {L L' : Ly} {w w' : World} (h : Kf L L' w w') (m : Nat) : Kf L L' w (w'.drewN m) := ⟨h.kx.drewN m, h.on, h.hb⟩
theorem MR.drewN {w : World} {base mb : Nat} {cv : Value} {L : Ly} {m : Mc} (h : MR w base mb cv L m) (k : Nat) : MR (w.drewN k) base mb cv L m := by
  have hs : ∀ g, sameG L.own g w (w.drewN k) := fun g b s _ => rfl
  exact ⟨h.blk, h.omb, h.hp.frame (hs 1) (fun _ _ h => h), h.pg.frame (hs 2) (fun _ _ h => h), h.th.frame (hs 3) (fun _ _ h => h), h.ou.frame (hs 4) (fun _ _ h => h), h.or_.frame (hs 5) (fun _ _ h => h), h.hbase, h.olt, h.o0⟩
/-- The blocks that are nobody's may change, and others be added. -/
theorem MR.below {w w' : World} {base mb : Nat} {cv : Value} {L : Ly} {m : Mc} (h : MR w base mb cv L m) (hb : Below w.heap.size w w') : MR w' base mb cv L m := by
  have hs : ∀ g, sameG L.own g w w' := fun g b s e => hb.block b (h.olt b (by rw [e]; simp)).2
  exact ⟨(hb.block _ (h.olt mb (by rw [h.omb]; simp)).2).trans h.blk, h.omb, h.hp.frame (hs 1) (fun _ _ h => h), h.pg.frame (hs 2) (fun _ _ h => h), h.th.frame (hs 3) (fun _ _ h => h), h.ou.frame (hs 4) (fun _ _ h => h), h.or_.frame (hs 5) (fun _ _ h => h), h.hbase, fun b hn => ⟨(h.olt b hn).1, Nat.lt_of_lt_of_le (h.olt b hn).2 hb.size⟩, h.o0⟩
/-- A cell of the machine itself is written. -/
theorem MR.set {w : World} {base mb : Nat} {cv : Value} {L : Ly} {m m' : Mc} (h : MR w base mb cv L m) (o : Nat) (u : Value) (he : (mcC cv L m).setIfInBounds o u = mcC cv L m') (h1 : m'.hp = m.hp) (h2 : m'.mem = m.mem) (h3 : m'.ths = m.ths) (h4 : m'.outs = m.outs) (h5 : m'.order = m.order) : MR (w.setCell ⟨mb, o, none⟩ u) base mb cv L m' ∧ Kf L L w (w.setCell ⟨mb, o, none⟩ u) := by
  have hs : ∀ g, g ≠ 0 → sameG L.own g w (w.setCell ⟨mb, o, none⟩ u) := fun g hg b s e => Below.heap_setCell _ _ _ _ (fun e2 => by
    have e3 : b = mb := e2
    subst e3
    rw [h.omb] at e
    simp at e
    omega)
  refine ⟨⟨?_, h.omb, h1 ▸ h.hp.frame (hs 1 (by decide)) (fun _ _ h => h), h2 ▸ h.pg.frame (hs 2 (by decide)) (fun _ _ h => h), h3 ▸ h.th.frame (hs 3 (by decide)) (fun _ _ h => h), h4 ▸ h.ou.frame (hs 4 (by decide)) (fun _ _ h => h), h5 ▸ h.or_.frame (hs 5 (by decide)) (fun _ _ h => h), h.hbase, fun b hn => ⟨(h.olt b hn).1, by simpa using (h.olt b hn).2⟩, h.o0⟩, ⟨(KX.refl _ _ _).setCell (p := ⟨mb, o, none⟩) (.inr (by rw [h.omb]; simp)) u, fun _ _ h => h, rfl⟩⟩
  rw [heap_setCell_same w mb o _ 45 u h.blk, he]
end Go.Proofs.Ytflifialjdhenaa
namespace Go.Proofs.Ytflifialjdhenaa
open Go.RowKit
set_option linter.all false
set_option maxRecDepth 100000 in
theorem stack17 {w : World} (t : Int) (h0 : 0 ≤ t) (h1 : t ≤ 100) : Calls Try.prog 12 #[.int .i64 t] w (fun e w' => e = .returned (.int .i64 (stk t)) ∧ w' = w) := by
  have hw : wrap64 (t + 1) = t + 1 := by unfold wrap64; omega
  have hw2 : wrap64 ((t + 1) * 4194304) = (t + 1) * 4194304 := by unfold wrap64; omega
  go_enter Try.func12, Try.ntmps12
  go_wp2_with fail
  go_ret
  exact ⟨rfl, rfl⟩
section
variable {w : World} {base mb : Nat} {cv : Value} {L : Ly} {m : Mc}
set_option maxRecDepth 100000 in
theorem going19 (h : MR w base mb cv L m) : Calls Try.prog 14 #[.pointer (some ⟨mb, 0, none⟩)] w (fun e w' => e = .returned (.bool (m.how == 0)) ∧ w' = w) := by
  have c_m := fun o => cell_of_row w _ o _ 45 (0, 0) h.blk
  have l_m : mb < w.heap.size := (Array.getElem?_eq_some_iff.1 h.blk).1
  clear h
  go_enter Try.func14, Try.ntmps14
  go_wp2_with fail
  go_ret
  exact ⟨rfl, rfl⟩
set_option maxRecDepth 100000 in
theorem end36 (h : MR w base mb cv L m) (k : Int) : Calls Try.prog 27 #[.pointer (some ⟨mb, 0, none⟩), .int .i64 k] w (fun e w' => e = .returned (.tuple #[]) ∧ MR w' base mb cv L (m.fin k) ∧ Kf L L w w') := by
  have HS := h.set (m' := { m with how := k }) 5 (.int .i64 k) rfl rfl rfl rfl rfl rfl
  have HH : Hid (MR w base mb cv L m) := h
  have c_m := fun o => cell_of_row w _ o _ 45 (0, 0) h.blk
  have f_m := fun o => frozen_of_row w _ o _ 45 h.blk
  have l_m : mb < w.heap.size := (Array.getElem?_eq_some_iff.1 h.blk).1
  clear h
  by_cases hk : m.how = 0
  · have hkb : (m.how == 0) = true := by simpa using hk
    have HF : Hid (m.fin k = { m with how := k }) := by unfold Mc.fin; rw [if_pos hk]; rfl
    clear hk
    go_enter Try.func27, Try.ntmps27
    go_wp2_with fail
    go_end0
    exact ⟨rfl, HF.out ▸ HS.1, HS.2⟩
  · have hkb : (m.how == 0) = false := by simpa using hk
    have HF : Hid (m.fin k = m) := by unfold Mc.fin; rw [if_neg hk]; rfl
    clear hk
    go_enter Try.func27, Try.ntmps27
    go_wp2_with fail
    go_end0
    exact ⟨rfl, by rw [HF.out]; exact HH.out, Kf.refl _ _⟩
end
end Go.Proofs.Ytflifialjdhenaa
namespace Go.Proofs.Ytflifialjdhenaa
open Go.RowKit
set_option linter.all false
theorem pageA_at {mem : Nat → Int} {i k : Nat} (hk : k < 1024) : (pageA mem i)[k]? = some (.int .i64 (mem (i * 1024 + k))) := by
  unfold pageA
  rw [List.getElem?_toArray, List.getElem?_map, List.getElem?_range hk]
  rfl
theorem pageA_size {mem : Nat → Int} {i : Nat} : (pageA mem i).size = 1024 := by
  unfold pageA
  simp
section
variable {w : World} {base : Nat} {own : Nat → Option (Nat × Nat)} {po : Option Addr} {pc : Nat} {pg : List (Option Nat)} {mem : Nat → Int}
/-- The cell of a page. -/
theorem PGS.nth (h : PGS w base own po pc pg mem) {i : Nat} {x : Option Nat} (hx : pg[i]? = some x) : ∃ g, po = some ⟨g, 0, none⟩ ∧ g < w.heap.size ∧ w.cell? ⟨g, i, none⟩ = some (pgV x) := by
  have hl := (List.getElem?_eq_some_iff.1 hx).1
  rcases h.row.2 with ⟨h1, h2⟩ | ⟨g, cap, cur, h1, hb, hg, hnc, hcm, hcs, htake⟩
  · omega
  · simp at h1
    refine ⟨g, h1.1, (Array.getElem?_eq_some_iff.1 hg).1, ?_⟩
    rw [cell_of_row w g i cur 23 (0, 0) hg]
    have e : (cur.toList.take (pg.length * 1))[i]? = some (pgV x) := by rw [htake, List.getElem?_map, hx]; rfl
    rw [List.getElem?_take, if_pos (by omega)] at e
    simpa using e
theorem PGS.word (h : PGS w base own po pc pg mem) {a g : Nat} (hx : pg[a / 1024]? = some (some g)) : g < w.heap.size ∧ w.cell? ⟨g, a % 1024, none⟩ = some (.int .i64 (mem a)) := by
  obtain ⟨h1, h2, h3⟩ := h.page _ _ hx
  refine ⟨(Array.getElem?_eq_some_iff.1 h3).1, ?_⟩
  rw [cell_of_row w g _ _ 3 (0, 0) h3, pageA_at (by omega)]
  congr 3
  omega
end
section
variable {w : World} {base mb : Nat} {cv : Value} {L : Ly} {m : Mc}
set_option maxRecDepth 100000 in
set_option maxHeartbeats 1000000 in
theorem get52 (h : MR w base mb cv L m) (a : Nat) (ha : a ≤ 1152921504606846976) : Calls Try.prog 53 #[.pointer (some ⟨mb, 0, none⟩), .int .i64 a] w (Gives w (.int .i64 (m.mem a))) := by
  have HH : Hid (MR w base mb cv L m) := h
  have c_m := fun o => cell_of_row w _ o _ 45 (0, 0) h.blk
  have l_m : mb < w.heap.size := (Array.getElem?_eq_some_iff.1 h.blk).1
  have hfew := h.pg.few
  clear h
  obtain ⟨own, po, pc, pg, hb, to_, tc, cr, oo, oc, ro_, rc⟩ := L
  replace hfew : pg.length ≤ 60000 := hfew
  obtain ⟨p, hp⟩ : ∃ p, p = a / 1024 := ⟨_, rfl⟩
  have hdiv : (a : Int).tdiv 1024 = (p : Int) := by rw [hp, Int.tdiv_eq_ediv_of_nonneg (by omega)]; omega
  obtain ⟨q, hq⟩ : ∃ q, q = a % 1024 := ⟨_, rfl⟩
  have hmod : (a : Int).tmod 1024 = (q : Int) := by rw [hq, Int.tmod_eq_emod_of_nonneg (by omega)]; omega
  have hp0 : (0 : Int) ≤ (p : Int) := by omega
  by_cases hlt : p < pg.length
  · have hltI : (p : Int) < (pg.length : Int) := by omega
    have hlt0 : ¬ (pg.length : Int) ≤ (p : Int) := by omega
    obtain ⟨x, hx⟩ : ∃ x, pg[p]? = some x := ⟨_, List.getElem?_eq_getElem hlt⟩
    obtain ⟨g0, e0, hg0, c0⟩ := HH.out.pg.nth hx
    replace e0 : po = some ⟨g0, 0, none⟩ := e0
    subst e0
    cases x with
    | none =>
      have HZ : Hid (m.mem a = 0) := HH.out.pg.zero a (fun g hg => by rw [← hp, hx] at hg; simp at hg)
      have c0' : w.cell? ⟨g0, p, none⟩ = some (.slice none 0 0) := c0
      clear hx c0 hp hq
      go_enter Try.func53, Try.ntmps53
      go_wp2_with fail
      go_ret
      exact ⟨by rw [HZ.out]; rfl, 0, rfl⟩
    | some g =>
      have hgw := HH.out.pg.word (a := a) (by rw [← hp]; exact hx)
      have c0' : w.cell? ⟨g0, p, none⟩ = some (.slice (some ⟨g, 0, none⟩) 1024 1024) := c0
      have c1 : w.cell? ⟨g, q, none⟩ = some (.int .i64 (m.mem a)) := by rw [hq]; exact hgw.2
      have l1 := hgw.1
      have hq1 : (q : Int) < 1024 := by omega
      have hq0 : (0 : Int) ≤ (q : Int) := by omega
      clear hx c0 hp hq hgw
      go_enter Try.func53, Try.ntmps53
      go_wp2_with fail
      go_ret
      exact ⟨rfl, 0, rfl⟩
  · have HZ : Hid (m.mem a = 0) := HH.out.pg.zero a (fun g hg => by
      have : a / 1024 < pg.length := (List.getElem?_eq_some_iff.1 hg).1
      omega)
    have hltI : (pg.length : Int) ≤ (p : Int) := by omega
    have hpB : (p : Int) ≤ 1125899906842624 := by omega
    clear hp hq hlt
    go_enter Try.func53, Try.ntmps53
    go_wp2_with fail
    go_ret
    exact ⟨by rw [HZ.out]; rfl, 0, rfl⟩
end
end Go.Proofs.Ytflifialjdhenaa
namespace Go.Proofs.Ytflifialjdhenaa
open Go.RowKit
set_option linter.all false
def upd (mem : Nat → Int) (a : Nat) (n : Int) : Nat → Int := fun x => if x = a then n else mem x
/-- A block more that is somebody's. -/
def own1 (own : Nat → Option (Nat × Nat)) (b : Nat) (t : Nat × Nat) : Nat → Option (Nat × Nat) := fun x => if x = b then some t else own x
theorem own1_at {own : Nat → Option (Nat × Nat)} {b : Nat} {t : Nat × Nat} : own1 own b t b = some t := by unfold own1; rw [if_pos rfl]
theorem own1_ne {own : Nat → Option (Nat × Nat)} {b x : Nat} {t : Nat × Nat} (h : x ≠ b) : own1 own b t x = own x := by unfold own1; rw [if_neg h]
theorem own1_keep {own : Nat → Option (Nat × Nat)} {b : Nat} {t : Nat × Nat} (h : own b = none) (g : Nat) : keepG own (own1 own b t) g := fun x s e => by
  rw [own1_ne (fun e2 => by subst e2; rw [h] at e; cases e)]
  exact e
theorem MR.lt {w : World} {base mb : Nat} {cv : Value} {L : Ly} {m : Mc} (h : MR w base mb cv L m) : mb < w.heap.size := (h.olt mb (by rw [h.omb]; simp)).2
theorem MR.free {w : World} {base mb : Nat} {cv : Value} {L : Ly} {m : Mc} (h : MR w base mb cv L m) {b : Nat} (hb : w.heap.size ≤ b) : L.own b = none := Classical.byContradiction fun hn => by
  have := (h.olt b hn).2
  omega
section
variable {w w1 : World} {base mb : Nat} {cv : Value} {L : Ly} {m : Mc}
/-- A row has grown; w1: behind that. What is not of its group is as it was. -/
theorem grown_same {W : World} {v : Value} {g : Nat} (h : MR w base mb cv L m) (hW : Below w.heap.size w W) (hg : W.grownBy w1 v.ownBlock) (ho : ∀ b, v.ownBlock = some b → L.own b = some (g, 0)) (g' : Nat) (hne : g' ≠ g) : sameG L.own g' w w1 := fun b s e => by
  have hl := (h.olt b (by rw [e]; simp)).2
  refine (hg.block b (Nat.lt_of_lt_of_le hl hW.size) (fun e2 => ?_)).trans (hW.block b hl)
  have := ho b e2.symm
  rw [e] at this
  simp at this
  exact hne this.1
/-- Whose the blocks are behind that. -/
theorem grow_own (h : MR w base mb cv L m) {W : World} (hW : Below w.heap.size w W) {el size n k : Nat} {v v' : Value} {xs ys : List Value} (A : App W base el size v n xs ys k v' w1) (t : Nat × Nat) (ht : t.1 ≠ 0) (ho : ∀ b, v.ownBlock = some b → L.own b = some t) : ∃ own', (∀ g, keepG L.own own' g) ∧ (∀ b, own' b ≠ none → base ≤ b ∧ b < w1.heap.size) ∧ (∀ b s, own' b = some (0, s) → b = mb) ∧ (∀ b, b < w.heap.size → L.own b = none → own' b = none) ∧ ∀ b, v'.ownBlock = some b → own' b = some t := by
  have hz := A.grown.size
  have hz2 := hW.size
  rcases A.own with e | e
  · exact ⟨L.own, fun g b s h => h, fun b hn => ⟨(h.olt b hn).1, by have := (h.olt b hn).2; omega⟩, h.o0, fun b _ hn => hn, fun b hb => ho b (e ▸ hb)⟩
  · have hfr : L.own W.heap.size = none := h.free hz2
    refine ⟨own1 L.own W.heap.size t, own1_keep hfr, fun b hn => ?_, fun b s hs => ?_, fun b hb hn => by rw [own1_ne (by omega)]; exact hn, fun b hb => ?_⟩
    · by_cases hb : b = W.heap.size
      · subst hb
        exact A.row.lt _ e
      · rw [own1_ne hb] at hn
        have := h.olt b hn
        omega
    · by_cases hb : b = W.heap.size
      · subst hb
        rw [own1_at] at hs
        have := Option.some.inj hs
        rw [this] at ht
        exact absurd rfl ht
      · rw [own1_ne hb] at hs
        exact h.o0 b s hs
    · rw [e] at hb
      rw [← Option.some.inj hb]
      exact own1_at
theorem MR.growPg (h : MR w base mb cv L m) (hf : L.pg.length + 1 ≤ 60000) {v' : Value} (A : App (w.alloc (.cells #[.slice none 0 0] 23)) base 23 1 (.slice L.po L.pg.length L.pc) L.pg.length (L.pg.map pgV) [.slice none 0 0] 1 v' w1) : ∃ L', v' = .slice L'.po (L.pg.length + 1) L'.pc ∧ L'.pg = L.pg ++ [none] ∧ MR (w1.setCell ⟨mb, 1, none⟩ v') base mb cv L' m ∧ Kf L L' w (w1.setCell ⟨mb, 1, none⟩ v') := by
  have hW : Below w.heap.size w (w.alloc (.cells #[.slice none 0 0] 23)) := (al1 w _).1
  obtain ⟨own', hkp, holt, ho0, hon, hrw⟩ := grow_own h hW A (2, 0) (by decide) h.pg.orow
  obtain ⟨po', pc', rfl⟩ := A.shape
  have hWs : (w.alloc (.cells #[.slice none 0 0] 23)).heap.size = w.heap.size + 1 := by simp
  have hmb : w1.heap[mb]? = some (.cells (mcC cv L m) 45 (0, 0)) := (grown_same h hW A.grown h.pg.orow 0 (by decide) mb 0 h.omb).trans h.blk
  have hs : ∀ g, g ≠ 0 → sameG own' g w1 (w1.setCell ⟨mb, 1, none⟩ (.slice po' (L.pg.length + 1) pc')) := fun g hg b s e => Below.heap_setCell _ _ _ _ (fun e2 => by
    have e3 : b = mb := e2
    subst e3
    rw [hkp 0 b 0 h.omb] at e
    simp at e
    omega)
  have hid : ∀ g, keepG own' own' g := fun g b s e => e
  refine ⟨{ L with po := po', pc := pc', pg := L.pg ++ [none], own := own' }, rfl, rfl, ⟨?_, hkp 0 mb 0 h.omb, ?_, ?_, ?_, ?_, ?_, h.hbase, fun b hn => by simpa using holt b hn, ho0⟩, ⟨?_, hon, rfl⟩⟩
  · rw [heap_setCell_same w1 mb 1 _ 45 _ hmb]
    show some (Obj.cells _ 45 (0, 0)) = some (Obj.cells _ 45 (0, 0))
    simp [mcC]
  · exact (h.hp.frame (grown_same h hW A.grown h.pg.orow 1 (by decide)) (hkp 1)).frame (hs 1 (by decide)) (hid 1)
  · have hrow : w1.ownsRow base 23 1 (.slice po' (L.pg ++ [none]).length pc') (L.pg ++ [none]).length ((L.pg ++ [none]).map pgV) := by
      rw [List.map_append, List.length_append]
      exact A.row
    have hP : PGS w1 base own' po' pc' (L.pg ++ [none]) m.mem := by
      refine ⟨hrow, fun b e => hrw b (by simpa using e), fun i g hg => ?_, fun a ha => h.pg.zero a (fun g hg => ha g ?_), by simpa using hf⟩
      · have hg' : L.pg[i]? = some (some g) := by
          rcases Nat.lt_or_ge i L.pg.length with hl | hl
          · rwa [List.getElem?_append_left hl] at hg
          · rw [List.getElem?_append_right hl] at hg
            cases hi : i - L.pg.length with
            | zero => rw [hi] at hg; simp at hg
            | succ n => rw [hi] at hg; simp at hg
        obtain ⟨q1, q2, q3⟩ := h.pg.page i g hg'
        refine ⟨hkp 2 g _ q1, q2, ?_⟩
        have hl := (h.olt g (by rw [q1]; simp)).2
        refine (A.grown.block g (by omega) (fun e2 => ?_)).trans ((hW.block g hl).trans q3)
        have := h.pg.orow g e2.symm
        rw [q1] at this
        simp at this
      · rw [List.getElem?_append_left (List.getElem?_eq_some_iff.1 hg).1]
        exact hg
    exact hP.frame (hs 2 (by decide)) (hid 2)
  · exact (h.th.frame (grown_same h hW A.grown h.pg.orow 3 (by decide)) (hkp 3)).frame (hs 3 (by decide)) (hid 3)
  · exact (h.ou.frame (grown_same h hW A.grown h.pg.orow 4 (by decide)) (hkp 4)).frame (hs 4 (by decide)) (hid 4)
  · exact (h.or_.frame (grown_same h hW A.grown h.pg.orow 5 (by decide)) (hkp 5)).frame (hs 5 (by decide)) (hid 5)
  · refine KX.setCell (p := ⟨mb, 1, none⟩) ?_ (.inr (by rw [h.omb]; simp)) _
    exact KX.grown (KX.of_below hW) A.grown (by omega) (fun k e => .inr (by rw [h.pg.orow k e]; simp))
/-- A page is made. -/
theorem MR.newPg (h : MR w base mb cv L m) {i g0 : Nat} (hi : L.pg[i]? = some none) (hg0 : L.po = some ⟨g0, 0, none⟩) : ∃ L', L'.pg = L.pg.set i (some w.heap.size) ∧ L'.po = L.po ∧ L'.pc = L.pc ∧ MR ((w.alloc (.cells (pageA m.mem i) 3)).setCell ⟨g0, i, none⟩ (.slice (some ⟨w.heap.size, 0, none⟩) 1024 1024)) base mb cv L' m ∧ Kf L L' w ((w.alloc (.cells (pageA m.mem i) 3)).setCell ⟨g0, i, none⟩ (.slice (some ⟨w.heap.size, 0, none⟩) 1024 1024)) := by
  have hW := al1 w (.cells (pageA m.mem i) 3)
  have hf : L.own w.heap.size = none := h.free (Nat.le_refl _)
  have hkp := own1_keep (t := (2, i + 1)) hf
  have hil := (List.getElem?_eq_some_iff.1 hi).1
  have hob : (Value.slice L.po L.pg.length L.pc).ownBlock = some g0 := by rw [hg0]; rfl
  have hog := h.pg.orow g0 hob
  have hgl := (h.olt g0 (by rw [hog]; simp)).2
  have hs : ∀ g b s, L.own b = some (g, s) → b ≠ g0 → ((w.alloc (.cells (pageA m.mem i) 3)).setCell ⟨g0, i, none⟩ (.slice (some ⟨w.heap.size, 0, none⟩) 1024 1024)).heap[b]? = w.heap[b]? := fun g b s e hne => (Below.heap_setCell _ _ _ _ hne).trans (hW.1.block b (h.olt b (by rw [e]; simp)).2)
  have hsg : ∀ g, g ≠ 2 → sameG L.own g w ((w.alloc (.cells (pageA m.mem i) 3)).setCell ⟨g0, i, none⟩ (.slice (some ⟨w.heap.size, 0, none⟩) 1024 1024)) := fun g hg b s e => hs g b s e (fun e2 => by
    subst e2
    rw [hog] at e
    simp at e
    omega)
  refine ⟨{ L with pg := L.pg.set i (some w.heap.size), own := own1 L.own w.heap.size (2, i + 1) }, rfl, rfl, rfl, ⟨?_, hkp 0 mb 0 h.omb, h.hp.frame (hsg 1 (by decide)) (hkp 1), ?_, h.th.frame (hsg 3 (by decide)) (hkp 3), h.ou.frame (hsg 4 (by decide)) (hkp 4), h.or_.frame (hsg 5 (by decide)) (hkp 5), h.hbase, ?_, ?_⟩, ⟨?_, ?_, rfl⟩⟩
  · rw [hsg 0 (by decide) mb 0 h.omb, h.blk]
    simp [mcC]
  · have hrow := ownsRow_put (ownsRow_same h.pg.row (w' := w.alloc (.cells (pageA m.mem i) 3)) (fun b _ hl => hW.1.block b hl)) hob i (.slice (some ⟨w.heap.size, 0, none⟩) 1024 1024)
    refine ⟨?_, fun b e => hkp 2 b 0 (h.pg.orow b (by simpa using e)), fun j g hg => ?_, fun a ha => h.pg.zero a (fun g hg => ?_), by simpa using h.pg.few⟩
    · have e : (L.pg.set i (some w.heap.size)).map pgV = (L.pg.map pgV).set i (.slice (some ⟨w.heap.size, 0, none⟩) 1024 1024) := by rw [List.map_set]; rfl
      show World.ownsRow _ _ _ _ (.slice L.po (L.pg.set i (some w.heap.size)).length L.pc) (L.pg.set i (some w.heap.size)).length ((L.pg.set i (some w.heap.size)).map pgV)
      rw [e, List.length_set]
      exact hrow
    · have hg1 : (L.pg.set i (some w.heap.size))[j]? = some (some g) := hg
      by_cases hji : j = i
      · subst hji
        rw [List.getElem?_set_self hil] at hg1
        obtain rfl : w.heap.size = g := by simpa using hg1
        refine ⟨own1_at, Nat.le_trans h.hbase (Nat.le_of_lt h.lt), ?_⟩
        rw [Below.heap_setCell _ _ _ _ (by show w.heap.size ≠ g0; omega)]
        exact hW.2
      · rw [List.getElem?_set_ne (fun e => hji e.symm)] at hg1
        obtain ⟨q1, q2, q3⟩ := h.pg.page j g hg1
        exact ⟨hkp 2 g _ q1, q2, (hs 2 g _ q1 (fun e2 => by subst e2; rw [hog] at q1; simp at q1)).trans q3⟩
    · by_cases hai : a / 1024 = i
      · rw [hai, hi] at hg
        simp at hg
      · exact ha g (by show (L.pg.set i (some w.heap.size))[a / 1024]? = _; rw [List.getElem?_set_ne (fun e => hai e.symm)]; exact hg)
  · intro b hn
    have hz : ((w.alloc (.cells (pageA m.mem i) 3)).setCell ⟨g0, i, none⟩ (.slice (some ⟨w.heap.size, 0, none⟩) 1024 1024)).heap.size = w.heap.size + 1 := by simp
    rw [hz]
    by_cases hb : b = w.heap.size
    · have := h.hbase
      have := h.lt
      omega
    · have := h.olt b (fun e => hn (by show own1 _ _ _ b = none; rw [own1_ne hb]; exact e))
      omega
  · intro b s e
    have e' : own1 L.own w.heap.size (2, i + 1) b = some (0, s) := e
    by_cases hb : b = w.heap.size
    · subst hb
      rw [own1_at] at e'
      simp at e'
    · rw [own1_ne hb] at e'
      exact h.o0 b s e'
  · exact KX.setCell (p := ⟨g0, i, none⟩) (KX.of_below hW.1) (.inr (by rw [hog]; simp)) _
  · intro b hb hn
    show own1 _ _ _ b = none
    rw [own1_ne (by omega)]
    exact hn
theorem pageA_set {mem : Nat → Int} {a : Nat} {n : Int} : (pageA mem (a / 1024)).setIfInBounds (a % 1024) (.int .i64 n) = pageA (upd mem a n) (a / 1024) := by
  apply Array.ext'
  unfold pageA
  rw [Array.toList_setIfInBounds]
  apply List.ext_getElem?
  intro k
  by_cases hk : k < 1024
  · by_cases hka : k = a % 1024
    · subst hka
      rw [List.getElem?_set_self (by simpa using hk), List.getElem?_map, List.getElem?_range hk]
      simp [upd]
      omega
    · rw [List.getElem?_set_ne (fun e => hka e.symm), List.getElem?_map, List.getElem?_map, List.getElem?_range hk]
      simp [upd]
      intro e
      omega
  · rw [List.getElem?_eq_none (by simp; omega), List.getElem?_eq_none (by simp; omega)]
theorem pageA_else {mem : Nat → Int} {a i : Nat} {n : Int} (h : i ≠ a / 1024) : pageA (upd mem a n) i = pageA mem i := by
  have e : ∀ k ∈ List.range 1024, Value.int .i64 (upd mem a n (i * 1024 + k)) = Value.int .i64 (mem (i * 1024 + k)) := fun k hk => by
    have hk2 : k < 1024 := List.mem_range.1 hk
    unfold upd
    rw [if_neg (by omega)]
  unfold pageA
  rw [List.map_congr_left e]
/-- A word is written. -/
theorem MR.word (h : MR w base mb cv L m) {a g : Nat} (hg : L.pg[a / 1024]? = some (some g)) (n : Int) : MR (w.setCell ⟨g, a % 1024, none⟩ (.int .i64 n)) base mb cv L { m with mem := upd m.mem a n } ∧ Kf L L w (w.setCell ⟨g, a % 1024, none⟩ (.int .i64 n)) := by
  obtain ⟨q1, q2, q3⟩ := h.pg.page _ _ hg
  have hs : ∀ b t, L.own b = some t → t ≠ (2, a / 1024 + 1) → (w.setCell ⟨g, a % 1024, none⟩ (.int .i64 n)).heap[b]? = w.heap[b]? := fun b t e hne => Below.heap_setCell _ _ _ _ (fun e2 => by
    have e3 : b = g := e2
    subst e3
    rw [q1] at e
    exact hne (Option.some.inj e).symm)
  have hsg : ∀ k, k ≠ 2 → sameG L.own k w (w.setCell ⟨g, a % 1024, none⟩ (.int .i64 n)) := fun k hk b s e => hs b _ e (by simp; omega)
  have hid : ∀ k, keepG L.own L.own k := fun _ _ _ h => h
  refine ⟨⟨(hsg 0 (by decide) mb 0 h.omb).trans h.blk, h.omb, h.hp.frame (hsg 1 (by decide)) (hid 1), ?_, h.th.frame (hsg 3 (by decide)) (hid 3), h.ou.frame (hsg 4 (by decide)) (hid 4), h.or_.frame (hsg 5 (by decide)) (hid 5), h.hbase, fun b hn => ⟨(h.olt b hn).1, by simpa using (h.olt b hn).2⟩, h.o0⟩, ⟨(KX.refl _ _ _).setCell (p := ⟨g, a % 1024, none⟩) (.inr (by rw [q1]; simp)) _, fun _ _ h => h, rfl⟩⟩
  refine ⟨ownsRow_same h.pg.row (fun b hb _ => hs b _ (h.pg.orow b hb) (by simp)), h.pg.orow, fun i g' hg' => ?_, fun x hx => ?_, h.pg.few⟩
  · obtain ⟨r1, r2, r3⟩ := h.pg.page i g' hg'
    refine ⟨r1, r2, ?_⟩
    by_cases hi : i = a / 1024
    · subst hi
      obtain rfl : g = g' := by rw [hg] at hg'; simpa using hg'
      rw [heap_setCell_same w g _ _ 3 _ q3, pageA_set]
    · show _ = some (Obj.cells (pageA (upd m.mem a n) i) 3 (0, 0))
      rw [pageA_else hi, hs g' _ r1 (by simp; omega)]
      exact r3
  · show upd m.mem a n x = 0
    unfold upd
    rw [if_neg (fun e => by subst e; exact hx g hg)]
    exact h.pg.zero x hx
end
end Go.Proofs.Ytflifialjdhenaa
