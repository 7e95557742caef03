/- The document's heap: Alloc. -/
import Derived.Test.YtpoepbmomfohlaaMba
namespace Go.Proofs.Ytpoepbmomfohlaa
open Go.RowKit
set_option linter.all false
def allocV (size : Int) (bs : List (Int × Int)) (n : Int) : Value := match halloc size bs n with
  | some x => .tuple #[.int .i64 x.1, .bool true]
  | none => .tuple #[.int .i64 0, .bool false]
def allocB (size : Int) (bs : List (Int × Int)) (n : Int) : List (Int × Int) := match halloc size bs n with
  | some x => x.2
  | none => bs
section
variable {sl el size bytes : Nat} {z : Value}
end
end Go.Proofs.Ytpoepbmomfohlaa
namespace Go.Proofs.Ytpoepbmomfohlaa
open Go.RowKit
set_option linter.all false
def freeB (bs : List (Int × Int)) (at_ : Int) : List (Int × Int) := (hfree bs at_).getD bs
end Go.Proofs.Ytpoepbmomfohlaa
namespace Go.Proofs.Ytpoepbmomfohlaa
open Go.RowKit
set_option linter.all false
structure Th where
  pc : Int
  frame : Int
  calls : List (Int × Int × Int)
  unw : Bool
  abo : Bool
  over : Bool
structure Mc where
  mem : Nat → Int
  hp : List (Int × Int)
  ths : List Th
  failed : Bool
  how : Int
  value : Int
  steps : Int
  outs : List Int
  order : List Int
  left : Int
structure Mi where
  op : Int
  a : Int
  b : Int
  c : Int
  d : Int
  e : Int
def Mc.fin (m : Mc) (h : Int) : Mc := if m.how = 0 then { m with how := h } else m
def stk (t : Int) : Int := (t + 1) * 4194304
/-- The address of a slot and true, or how the run ends and false. -/
def slotR (fr : Int) (t : Nat) (k : Int) : Int × Bool := if k < 0 then (9, false) else if stk (t + 1) - fr ≤ k then (8, false) else (fr + k, true)
/-- Whether there is a word at a + c. -/
def Mc.wordB (m : Mc) (a c : Int) : Bool := decide (-9223372036854775808 ≤ a + c ∧ a + c ≤ 9223372036854775807) && decide (1 ≤ a + c) && decide (a + c < stk m.ths.length) && (decide (4194304 ≤ a + c) || decide (0 ≤ hfindI m.hp (a + c)))
def ziC (x : Int × Int × Int) : List Value := [.int .i64 x.1, .int .i64 x.2.1, .int .i64 x.2.2]
/-- Where a row lies. -/
structure Rq where
  o : Option Addr
  c : Nat
def thC (x : Th × Rq) : List Value := [.int .i64 x.1.pc, .int .i64 x.1.frame, .slice x.2.o x.1.calls.length x.2.c, .bool x.1.unw, .bool x.1.abo, .bool x.1.over]
def pgV : Option Nat → Value
  | some g => .slice (some ⟨g, 0, none⟩) 1024 1024
  | none => .slice none 0 0
def pageA (mem : Nat → Int) (i : Nat) : Array Value := ((List.range 1024).map (fun k => Value.int .i64 (mem (i * 1024 + k)))).toArray
/-- Blocks of one group are as they were. -/
def sameG (own : Nat → Option (Nat × Nat)) (g : Nat) (w w' : World) : Prop := ∀ b s, own b = some (g, s) → w'.heap[b]? = w.heap[b]?
def keepG (own own' : Nat → Option (Nat × Nat)) (g : Nat) : Prop := ∀ b s, own b = some (g, s) → own' b = some (g, s)
/-- The pages. -/
structure PGS (w : World) (base : Nat) (own : Nat → Option (Nat × Nat)) (po : Option Addr) (pc : Nat) (pg : List (Option Nat)) (mem : Nat → Int) : Prop where
  row : w.ownsRow base 23 1 (.slice po pg.length pc) pg.length (pg.map pgV)
  orow : ∀ b, (Value.slice po pg.length pc).ownBlock = some b → own b = some (2, 0)
  page : ∀ (i g : Nat), pg[i]? = some (some g) → own g = some (2, i + 1) ∧ base ≤ g ∧ w.heap[g]? = some (.cells (pageA mem i) 3 (0, 0))
  zero : ∀ a, (∀ g, pg[a / 1024]? ≠ some (some g)) → mem a = 0
  few : pg.length ≤ 60000
/-- The threads. -/
structure THS (w : World) (base : Nat) (own : Nat → Option (Nat × Nat)) (to_ : Option Addr) (tc : Nat) (cr : List Rq) (ths : List Th) : Prop where
  row : w.ownsRow base 41 6 (.slice to_ ths.length tc) ths.length ((ths.zip cr).map thC).flatten
  orow : ∀ b, (Value.slice to_ ths.length tc).ownBlock = some b → own b = some (3, 0)
  crl : cr.length = ths.length
  calls : ∀ (i : Nat) (t : Th) (r : Rq), ths[i]? = some t → cr[i]? = some r → w.ownsRow base 96 3 (.slice r.o t.calls.length r.c) t.calls.length (t.calls.map ziC).flatten ∧ ∀ b, (Value.slice r.o t.calls.length r.c).ownBlock = some b → own b = some (3, i + 1)
  few : ths.length ≤ 12
  fr : ∀ (i : Nat) (t : Th), ths[i]? = some t → stk i ≤ t.frame ∧ t.frame < stk (i + 1)
/-- A row of numbers. -/
structure NRW (w : World) (base : Nat) (own : Nat → Option (Nat × Nat)) (g : Nat) (o : Option Addr) (c : Nat) (ns : List Int) : Prop where
  row : w.ownsRow base 3 1 (.slice o ns.length c) ns.length (ns.map (Value.int .i64))
  orow : ∀ b, (Value.slice o ns.length c).ownBlock = some b → own b = some (g, 0)
/-- The heap. -/
structure HPS (w : World) (base : Nat) (own : Nat → Option (Nat × Nat)) (hb : Nat) (hp : List (Int × Int)) : Prop where
  ex : ∃ bo cp, HP w base hb 4194303 bo cp hp ∧ ∀ b, (Value.slice bo hp.length cp).ownBlock = some b → own b = some (1, 1)
  ob : own hb = some (1, 0)
section
variable {w w' : World} {base : Nat} {own own' : Nat → Option (Nat × Nat)}
theorem PGS.frame {po : Option Addr} {pc : Nat} {pg : List (Option Nat)} {mem : Nat → Int} (h : PGS w base own po pc pg mem) (hs : sameG own 2 w w') (ho : keepG own own' 2) : PGS w' base own' po pc pg mem :=
  ⟨ownsRow_same h.row (fun b hb _ => hs b 0 (h.orow b hb)), fun b hb => ho b 0 (h.orow b hb), fun i g hg => ⟨ho g _ (h.page i g hg).1, (h.page i g hg).2.1, (hs g _ (h.page i g hg).1).trans (h.page i g hg).2.2⟩, h.zero, h.few⟩
theorem THS.frame {to_ : Option Addr} {tc : Nat} {cr : List Rq} {ths : List Th} (h : THS w base own to_ tc cr ths) (hs : sameG own 3 w w') (ho : keepG own own' 3) : THS w' base own' to_ tc cr ths :=
  ⟨ownsRow_same h.row (fun b hb _ => hs b 0 (h.orow b hb)), fun b hb => ho b 0 (h.orow b hb), h.crl, fun i t r ht hr => ⟨ownsRow_same (h.calls i t r ht hr).1 (fun b hb _ => hs b _ ((h.calls i t r ht hr).2 b hb)), fun b hb => ho b _ ((h.calls i t r ht hr).2 b hb)⟩, h.few, h.fr⟩
theorem NRW.frame {g : Nat} {o : Option Addr} {c : Nat} {ns : List Int} (h : NRW w base own g o c ns) (hs : sameG own g w w') (ho : keepG own own' g) : NRW w' base own' g o c ns :=
  ⟨ownsRow_same h.row (fun b hb _ => hs b 0 (h.orow b hb)), fun b hb => ho b 0 (h.orow b hb)⟩
theorem HPS.frame {hb : Nat} {hp : List (Int × Int)} (h : HPS w base own hb hp) (hs : sameG own 1 w w') (ho : keepG own own' 1) : HPS w' base own' hb hp := by
  obtain ⟨⟨bo, cp, h1, h2⟩, h3⟩ := h
  exact ⟨⟨bo, cp, ⟨(hs hb 0 h3).trans h1.blk, ownsRow_same h1.row (fun b hb _ => hs b 1 (h2 b hb)), h1.hb, h1.ok, h1.sz⟩, fun b hb => ho b 1 (h2 b hb)⟩, ho hb 0 h3⟩
end
/-- Where all lies. -/
structure Ly where
  own : Nat → Option (Nat × Nat)
  po : Option Addr
  pc : Nat
  pg : List (Option Nat)
  hb : Nat
  to_ : Option Addr
  tc : Nat
  cr : List Rq
  oo : Option Addr
  oc : Nat
  ro_ : Option Addr
  rc : Nat
abbrev mcC (cv : Value) (L : Ly) (m : Mc) : Array Value := #[cv, .slice L.po L.pg.length L.pc, .pointer (some ⟨L.hb, 0, none⟩), .slice L.to_ m.ths.length L.tc, .bool m.failed, .int .i64 m.how, .int .i64 0, .int .i64 m.value, .int .i64 m.steps, .slice L.oo m.outs.length L.oc, .slice L.ro_ m.order.length L.rc, .int .i64 m.left, .int .i64 0]
/-- The document's machine in memory. -/
structure MR (w : World) (base mb : Nat) (cv : Value) (L : Ly) (m : Mc) : Prop where
  blk : w.heap[mb]? = some (.cells (mcC cv L m) 45 (0, 0))
  omb : L.own mb = some (0, 0)
  hp : HPS w base L.own L.hb m.hp
  pg : PGS w base L.own L.po L.pc L.pg m.mem
  th : THS w base L.own L.to_ L.tc L.cr m.ths
  ou : NRW w base L.own 4 L.oo L.oc m.outs
  or_ : NRW w base L.own 5 L.ro_ L.rc m.order
  hbase : base ≤ mb
  olt : ∀ b, L.own b ≠ none → base ≤ b ∧ b < w.heap.size
  o0 : ∀ b s, L.own b = some (0, s) → b = mb
/-- What a call may change. -/
structure Kf (L L' : Ly) (w w' : World) : Prop where
  kx : KX (fun b => L.own b ≠ none) w.heap.size w w'
  on : ∀ b, b < w.heap.size → L.own b = none → L'.own b = none
  hb : L'.hb = L.hb
theorem Kf.refl (L : Ly) (w : World) : Kf L L w w := ⟨KX.refl _ _ _, fun _ _ h => h, rfl⟩
theorem Kf.trans {L L' L'' : Ly} {w w' w'' : World} (h : Kf L L' w w') (k : Kf L' L'' w' w'') : Kf L L'' w w'' :=
  ⟨⟨k.kx.os.trans h.kx.os, k.kx.tape.trans h.kx.tape, k.kx.output.trans h.kx.output, Nat.le_trans h.kx.size k.kx.size, fun b hb hn => (k.kx.block b (Nat.lt_of_lt_of_le hb h.kx.size) (fun hx => hx (h.on b hb (Classical.byContradiction hn)))).trans (h.kx.block b hb hn)⟩, fun b hb hn => k.on b (Nat.lt_of_lt_of_le hb h.kx.size) (h.on b hb hn), k.hb.trans h.hb⟩
theorem Kf.drewN {L L' : Ly} {w w' : World} (h : Kf L L' w w') (m : Nat) : Kf L L' w (w'.drewN m) := ⟨h.kx.drewN m, h.on, h.hb⟩
theorem MR.drewN {w : World} {base mb : Nat} {cv : Value} {L : Ly} {m : Mc} (h : MR w base mb cv L m) (k : Nat) : MR (w.drewN k) base mb cv L m := by
  have hs : ∀ g, sameG L.own g w (w.drewN k) := fun g b s _ => rfl
  exact ⟨h.blk, h.omb, h.hp.frame (hs 1) (fun _ _ h => h), h.pg.frame (hs 2) (fun _ _ h => h), h.th.frame (hs 3) (fun _ _ h => h), h.ou.frame (hs 4) (fun _ _ h => h), h.or_.frame (hs 5) (fun _ _ h => h), h.hbase, h.olt, h.o0⟩
/-- The blocks that are nobody's may change, and others be added. -/
theorem MR.below {w w' : World} {base mb : Nat} {cv : Value} {L : Ly} {m : Mc} (h : MR w base mb cv L m) (hb : Below w.heap.size w w') : MR w' base mb cv L m := by
  have hs : ∀ g, sameG L.own g w w' := fun g b s e => hb.block b (h.olt b (by rw [e]; simp)).2
  exact ⟨(hb.block _ (h.olt mb (by rw [h.omb]; simp)).2).trans h.blk, h.omb, h.hp.frame (hs 1) (fun _ _ h => h), h.pg.frame (hs 2) (fun _ _ h => h), h.th.frame (hs 3) (fun _ _ h => h), h.ou.frame (hs 4) (fun _ _ h => h), h.or_.frame (hs 5) (fun _ _ h => h), h.hbase, fun b hn => ⟨(h.olt b hn).1, Nat.lt_of_lt_of_le (h.olt b hn).2 hb.size⟩, h.o0⟩
/-- A cell of the machine itself is written. -/
theorem MR.set {w : World} {base mb : Nat} {cv : Value} {L : Ly} {m m' : Mc} (h : MR w base mb cv L m) (o : Nat) (u : Value) (he : (mcC cv L m).setIfInBounds o u = mcC cv L m') (h1 : m'.hp = m.hp) (h2 : m'.mem = m.mem) (h3 : m'.ths = m.ths) (h4 : m'.outs = m.outs) (h5 : m'.order = m.order) : MR (w.setCell ⟨mb, o, none⟩ u) base mb cv L m' ∧ Kf L L w (w.setCell ⟨mb, o, none⟩ u) := by
  have hs : ∀ g, g ≠ 0 → sameG L.own g w (w.setCell ⟨mb, o, none⟩ u) := fun g hg b s e => Below.heap_setCell _ _ _ _ (fun e2 => by
    have e3 : b = mb := e2
    subst e3
    rw [h.omb] at e
    simp at e
    omega)
  refine ⟨⟨?_, h.omb, h1 ▸ h.hp.frame (hs 1 (by decide)) (fun _ _ h => h), h2 ▸ h.pg.frame (hs 2 (by decide)) (fun _ _ h => h), h3 ▸ h.th.frame (hs 3 (by decide)) (fun _ _ h => h), h4 ▸ h.ou.frame (hs 4 (by decide)) (fun _ _ h => h), h5 ▸ h.or_.frame (hs 5 (by decide)) (fun _ _ h => h), h.hbase, fun b hn => ⟨(h.olt b hn).1, by simpa using (h.olt b hn).2⟩, h.o0⟩, ⟨(KX.refl _ _ _).setCell (p := ⟨mb, o, none⟩) (.inr (by rw [h.omb]; simp)) u, fun _ _ h => h, rfl⟩⟩
  rw [heap_setCell_same w mb o _ 45 u h.blk, he]
end Go.Proofs.Ytpoepbmomfohlaa
namespace Go.Proofs.Ytpoepbmomfohlaa
open Go.RowKit
set_option linter.all false
section
variable {w : World} {base mb : Nat} {cv : Value} {L : Ly} {m : Mc}
end
end Go.Proofs.Ytpoepbmomfohlaa
