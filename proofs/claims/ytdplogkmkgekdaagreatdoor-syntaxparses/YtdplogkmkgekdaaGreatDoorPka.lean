/- The project's parser in memory: its block, its tables, the row of tokens. -/
import Derived.Test.YtdplogkmkgekdaaGreatDoorPath
import Derived.Test.YtdplogkmkgekdaaGreatDoorMid
set_option linter.all false
set_option maxRecDepth 100000
set_option maxHeartbeats 4000000
namespace Go.Proofs.YtdplogkmkgekdaaGreatDoor.Pj
open Go.RowKit
structure Ent where
 txt:ByteArray
 fn:Nat
 bk:Int
 bn:Int
def esItems:List Ent:=[⟨⟨#[115,116,114,117,99,116]⟩,61,0,0⟩,⟨⟨#[101,110,117,109]⟩,62,0,0⟩,⟨⟨#[116,114,97,105,116]⟩,63,0,0⟩,⟨⟨#[102,110]⟩,64,0,0⟩]
def esTypes:List Ent:=[⟨⟨#[105,110,116]⟩,144,13,0⟩,⟨⟨#[98,111,111,108]⟩,144,14,0⟩,⟨⟨#[102,110]⟩,66,0,0⟩,⟨⟨#[38]⟩,67,0,0⟩,⟨⟨#[38,38]⟩,67,0,0⟩,⟨⟨#[40]⟩,68,0,0⟩]
def esAlone:List Ent:=[⟨⟨#[105,102]⟩,71,0,0⟩,⟨⟨#[109,97,116,99,104]⟩,72,0,0⟩,⟨⟨#[119,104,105,108,101]⟩,73,0,0⟩,⟨⟨#[108,111,111,112]⟩,74,0,0⟩,⟨⟨#[123]⟩,75,0,0⟩]
def esOthers:List Ent:=[⟨⟨#[116,114,117,101]⟩,144,21,1⟩,⟨⟨#[102,97,108,115,101]⟩,144,21,0⟩,⟨⟨#[98,114,101,97,107]⟩,144,38,0⟩,⟨⟨#[110,101,120,116]⟩,144,39,0⟩,⟨⟨#[112,97,110,105,99]⟩,144,41,0⟩,⟨⟨#[114,101,116,117,114,110]⟩,76,0,0⟩,⟨⟨#[109,97,107,101]⟩,77,0,0⟩,⟨⟨#[102,110]⟩,78,0,0⟩,⟨⟨#[115,112,97,119,110]⟩,79,0,0⟩,⟨⟨#[40]⟩,80,0,0⟩]
def esPats:List Ent:=[⟨⟨#[95]⟩,144,49,0⟩,⟨⟨#[116,114,117,101]⟩,144,52,1⟩,⟨⟨#[102,97,108,115,101]⟩,144,52,0⟩,⟨⟨#[45]⟩,82,0,0⟩,⟨⟨#[114,101,102]⟩,83,0,0⟩,⟨⟨#[109,117,116]⟩,84,0,0⟩,⟨⟨#[40]⟩,85,0,0⟩]
def askS:List ByteArray:=[⟨#[109,111,100]⟩,⟨#[117,115,101]⟩,⟨#[112,117,98]⟩,⟨#[99,111,112,121]⟩,⟨#[115,116,114,117,99,116]⟩,⟨#[101,110,117,109]⟩,⟨#[116,114,97,105,116]⟩,⟨#[105,109,112,108]⟩,⟨#[102,111,114]⟩,⟨#[102,110]⟩,⟨#[108,101,116]⟩,⟨#[109,117,116]⟩,⟨#[105,102]⟩,⟨#[101,108,115,101]⟩,⟨#[109,97,116,99,104]⟩,⟨#[119,104,105,108,101]⟩,⟨#[108,111,111,112]⟩,⟨#[98,114,101,97,107]⟩,⟨#[110,101,120,116]⟩,⟨#[114,101,116,117,114,110]⟩,⟨#[112,97,110,105,99]⟩,⟨#[109,97,107,101]⟩,⟨#[114,101,102]⟩,⟨#[111,110,99,101]⟩,⟨#[115,112,97,119,110]⟩,⟨#[116,114,117,101]⟩,⟨#[102,97,108,115,101]⟩,⟨#[105,110,116]⟩,⟨#[98,111,111,108]⟩,⟨#[58]⟩,⟨#[58,58]⟩,⟨#[45,62]⟩,⟨#[61,62]⟩,⟨#[61,61]⟩,⟨#[33,61]⟩,⟨#[60,61]⟩,⟨#[62,61]⟩,⟨#[38,38]⟩,⟨#[124,124]⟩,⟨#[40]⟩,⟨#[41]⟩,⟨#[123]⟩,⟨#[125]⟩,⟨#[91]⟩,⟨#[93]⟩,⟨#[60]⟩,⟨#[62]⟩,⟨#[44]⟩,⟨#[59]⟩,⟨#[46]⟩,⟨#[61]⟩,⟨#[43]⟩,⟨#[45]⟩,⟨#[42]⟩,⟨#[47]⟩,⟨#[37]⟩,⟨#[38]⟩,⟨#[33]⟩,⟨#[95]⟩]
def askW:List ByteArray:=[⟨#[116,114,117,101]⟩,⟨#[102,97,108,115,101]⟩,⟨#[98,114,101,97,107]⟩,⟨#[110,101,120,116]⟩,⟨#[112,97,110,105,99]⟩,⟨#[114,101,116,117,114,110]⟩,⟨#[105,102]⟩,⟨#[109,97,116,99,104]⟩,⟨#[119,104,105,108,101]⟩,⟨#[108,111,111,112]⟩,⟨#[109,97,107,101]⟩,⟨#[102,110]⟩,⟨#[115,112,97,119,110]⟩]
def Clean (t:Tk):Prop:=∀j,((t.kind j=5∧∀s∈askW,(t.text j).toList≠s.toList)∨t.kind j=3)∨∀s∈askS,(t.text j).toList≠s.toList
structure Cp where
 cap:Nat
 a1:Nat
 a2:Nat
 a3:Nat
 a4:Nat
 a5:Nat
 bd:Nat
def EntV (w:World) (bd:Nat) (e:Ent) (v:Value):Prop:=if e.fn=144 then ∃b1 b2,b1<bd∧b2<bd∧v=.func (.func 144) #[] #[.pointer (some ⟨b1,0,none⟩),.pointer (some ⟨b2,0,none⟩)]∧w.heap[b1]? =some (.cells #[.int .i64 e.bk] 3 (0,0))∧w.heap[b2]? =some (.cells #[.int .i64 e.bn] 3 (0,0)) else v=.func (.func e.fn) #[] #[]
def TabW (w:World) (bd a:Nat) (es:List Ent):Prop:=a<bd∧∃cs:Array Value,w.heap[a]? =some (.cells cs 94 (0,0))∧∀j e,es[j]? =some e→cs[j*2]? =some (.string e.txt)∧∃v,cs[j*2+1]? =some v∧EntV w bd e v
theorem EntV.of {w w':World} {bd:Nat} {e:Ent} {v:Value} (h:EntV w bd e v) (hb:∀k,k<bd→w'.heap[k]? =w.heap[k]?):EntV w' bd e v:=by
 unfold EntV at h⊢
 split
 ·rename_i hf
  rw[if_pos hf] at h
  obtain⟨b1,b2,h1,h2,h3,h4,h5⟩:=h
  exact⟨b1,b2,h1,h2,h3,by rw[hb b1 h1];exact h4,by rw[hb b2 h2];exact h5⟩
 ·rename_i hf
  rwa [if_neg hf] at h
theorem TabW.of {w w':World} {bd a:Nat} {es:List Ent} (h:TabW w bd a es) (hb:∀k,k<bd→w'.heap[k]? =w.heap[k]?):TabW w' bd a es:=by
 obtain⟨h1,cs,h2,h3⟩:=h
 refine⟨h1,cs,by rw[hb a h1];exact h2,fun j e he=>?_⟩
 obtain⟨x1,v,x2,x3⟩:=h3 j e he
 exact⟨x1,v,x2,x3.of hb⟩
def opsC:Array Value:=#[.string ⟨#[124,124]⟩,.int .i64 2,.int .i64 31,.string ⟨#[38,38]⟩,.int .i64 3,.int .i64 30,.string ⟨#[61,61]⟩,.int .i64 4,.int .i64 29,.string ⟨#[33,61]⟩,.int .i64 4,.int .i64 29,.string ⟨#[60,61]⟩,.int .i64 4,.int .i64 29,.string ⟨#[62,61]⟩,.int .i64 4,.int .i64 29,.string ⟨#[60]⟩,.int .i64 4,.int .i64 29,.string ⟨#[62]⟩,.int .i64 4,.int .i64 29,.string ⟨#[43]⟩,.int .i64 5,.int .i64 29,.string ⟨#[45]⟩,.int .i64 5,.int .i64 29,.string ⟨#[42]⟩,.int .i64 6,.int .i64 29,.string ⟨#[47]⟩,.int .i64 6,.int .i64 29,.string ⟨#[37]⟩,.int .i64 6,.int .i64 29]
structure Glob (bd:Nat) (w:World):Prop where
 lt:3<bd
 ml:∃m:Int,w.cell? ⟨2,0,none⟩=some (.int .i64 m)
 op:∃tg fg,w.heap[3]? =some (.cells opsC tg fg)
theorem Glob.of {bd:Nat} {w w':World} (h:Glob bd w) (hb:∀k,k<bd→w'.heap[k]? =w.heap[k]?):Glob bd w':=
 ⟨h.lt,h.ml.imp fun m hm=>(World.cell?_of_block (w:=w) (a:=⟨2,0,none⟩) (hb 2 (by have:=h.lt;omega))).trans hm,by rw[hb 3 h.lt];exact h.op⟩
structure Rd (w:World) (rb tb:Nat) (cap:Cp) (t:Tk) (i:Nat) (k a:Int):Prop where
 blk:w.heap[rb]? =some (.cells #[.slice (some ⟨tb,0,none⟩) t.len cap.cap,.int .i64 i,.slice (some ⟨cap.a1,0,none⟩) 4 4,.slice (some ⟨cap.a2,0,none⟩) 6 6,.slice (some ⟨cap.a3,0,none⟩) 5 5,.slice (some ⟨cap.a4,0,none⟩) 10 10,.slice (some ⟨cap.a5,0,none⟩) 7 7] 75 (0,0))
 row:Row w tb t
 t1:TabW w cap.bd cap.a1 esItems
 t2:TabW w cap.bd cap.a2 esTypes
 t3:TabW w cap.bd cap.a3 esAlone
 t4:TabW w cap.bd cap.a4 esOthers
 t5:TabW w cap.bd cap.a5 esPats
 bl:cap.bd≤rb
 tl:tb<cap.bd
 good:t.Good
 lt:i<t.len
 cl:Clean t
 z:k=0
 za:a=0
 g0:Glob cap.bd w
section
variable {w w':World} {rb tb i:Nat} {cap:Cp} {t:Tk} {k a:Int}
theorem Rd.l (h:Rd w rb tb cap t i k a):rb<w.heap.size:=(Array.getElem?_eq_some_iff.1 h.blk).1
theorem Rd.ne (h:Rd w rb tb cap t i k a):rb≠tb:=by have:=h.bl;have:=h.tl;omega
theorem Rd.r0 (h:Rd w rb tb cap t i k a):w.cell? ⟨rb,0,none⟩=some (.slice (some ⟨tb,0,none⟩) t.len cap.cap):=by rw[cell_of_row w rb 0 _ 75 (0,0) h.blk];rfl
theorem Rd.r1 (h:Rd w rb tb cap t i k a):w.cell? ⟨rb,1,none⟩=some (.int .i64 i):=by rw[cell_of_row w rb 1 _ 75 (0,0) h.blk];rfl
theorem Rd.r2 (h:Rd w rb tb cap t i k a):w.cell? ⟨rb,2,none⟩=some (.slice (some ⟨cap.a1,0,none⟩) 4 4):=by rw[cell_of_row w rb 2 _ 75 (0,0) h.blk];rfl
theorem Rd.r3 (h:Rd w rb tb cap t i k a):w.cell? ⟨rb,3,none⟩=some (.slice (some ⟨cap.a2,0,none⟩) 6 6):=by rw[cell_of_row w rb 3 _ 75 (0,0) h.blk];rfl
theorem Rd.r4 (h:Rd w rb tb cap t i k a):w.cell? ⟨rb,4,none⟩=some (.slice (some ⟨cap.a3,0,none⟩) 5 5):=by rw[cell_of_row w rb 4 _ 75 (0,0) h.blk];rfl
theorem Rd.r5 (h:Rd w rb tb cap t i k a):w.cell? ⟨rb,5,none⟩=some (.slice (some ⟨cap.a4,0,none⟩) 10 10):=by rw[cell_of_row w rb 5 _ 75 (0,0) h.blk];rfl
theorem Rd.r6 (h:Rd w rb tb cap t i k a):w.cell? ⟨rb,6,none⟩=some (.slice (some ⟨cap.a5,0,none⟩) 7 7):=by rw[cell_of_row w rb 6 _ 75 (0,0) h.blk];rfl
theorem Rd.fz (h:Rd w rb tb cap t i k a) (j:Nat):w.frozen? ⟨rb,j,none⟩=false:=frozen_of_row w rb j _ 75 h.blk
theorem Rd.same (h:Rd w rb tb cap t i k a) (h1:w'.heap[rb]? =w.heap[rb]?) (h2:∀j,j<cap.bd→w'.heap[j]? =w.heap[j]?):Rd w' rb tb cap t i k a:=
 ⟨by rw[h1];exact h.blk,h.row.of_cells (h2 tb h.tl),h.t1.of h2,h.t2.of h2,h.t3.of h2,h.t4.of h2,h.t5.of h2,h.bl,h.tl,h.good,h.lt,h.cl,h.z,h.za,h.g0.of h2⟩
theorem Rd.below (h:Rd w rb tb cap t i k a) (hb:Below w.heap.size w w'):Rd w' rb tb cap t i k a:=
 h.same (hb.block rb h.l) (fun j hj=>hb.block j (by have:=h.bl;have:=h.l;omega))
theorem Rd.alloc (h:Rd w rb tb cap t i k a) (o:Obj):Rd (w.alloc o) rb tb cap t i k a:=h.below ((Below.refl _ _).alloc (Nat.le_refl _) o)
theorem Rd.drew (h:Rd w rb tb cap t i k a):Rd w.drew rb tb cap t i k a:=h.below (Below.refl _ _).drew
theorem Rd.setCell (h:Rd w rb tb cap t i k a) {p:Addr} (h1:rb<p.block) (u:Value):Rd (w.setCell p u) rb tb cap t i k a:=
 h.same (Below.heap_setCell _ _ _ _ (by omega)) (fun j hj=>Below.heap_setCell _ _ _ _ (by have:=h.bl;omega))
theorem Rd.grown (h:Rd w rb tb cap t i k a) {row:Option Nat} (hg:w.grownBy w' row) (h1:∀b,row=some b→rb<b):Rd w' rb tb cap t i k a:=
 h.same (hg.block rb h.l (fun e=>by have:=h1 rb e.symm;omega)) (fun j hj=>hg.block j (by have:=h.bl;have:=h.l;omega) (fun e=>by have:=h1 j e.symm;have:=h.bl;omega))
theorem Rd.setI (h:Rd w rb tb cap t i k a) {i':Nat} (hi:i'<t.len):Rd (w.setCell ⟨rb,1,none⟩ (.int .i64 i')) rb tb cap t i' k a:=by
 have hs:∀j,j<cap.bd→(w.setCell ⟨rb,1,none⟩ (.int .i64 i')).heap[j]? =w.heap[j]? :=fun j hj=>Below.heap_setCell _ _ _ _ (by have:=h.bl;show j≠rb;omega)
 exact⟨by rw[heap_setCell_same _ rb 1 _ 75 _ h.blk];rfl,h.row.of_cells (hs tb h.tl),h.t1.of hs,h.t2.of hs,h.t3.of hs,h.t4.of hs,h.t5.of hs,h.bl,h.tl,h.good,hi,h.cl,h.z,h.za,h.g0.of hs⟩
end
structure Nx (w:World) (rb tb:Nat) (cap:Cp) (t:Tk) (i:Nat) (k:Int) (must:Prop) (w':World) (i':Nat) (k' a':Int):Prop where
 rd:Rd w' rb tb cap t i' k' a'
 kp:Kp w.heap.size rb w w'
 le:i≤i'
 ok:k'=0→k=0
 go:must→k'=0→i<i'
theorem Nx.below {w w':World} {rb tb i:Nat} {cap:Cp} {t:Tk} {k a:Int} (h:Rd w rb tb cap t i k a) (hb:Below w.heap.size w w'):Nx w rb tb cap t i k False w' i k a:=
 ⟨h.below hb,Kp.of_below hb,Nat.le_refl _,fun e=>e,fun x=>x.elim⟩
structure St (w:World) (rb tb:Nat) (cap:Cp) (t:Tk) (W:World) (j:Nat) (kj aj:Int):Prop where
 rd:Rd W rb tb cap t j kj aj
 kp:Kp w.heap.size rb w W
 lb:rb<w.heap.size
theorem Rd.st {w:World} {rb tb i:Nat} {cap:Cp} {t:Tk} {k a:Int} (h:Rd w rb tb cap t i k a):St w rb tb cap t w i k a:=⟨h,Kp.refl _ _ _,h.l⟩
section
variable {w W:World} {rb tb j:Nat} {cap:Cp} {t:Tk} {kj aj:Int}
theorem St.lt (h:St w rb tb cap t W j kj aj):tb<w.heap.size:=by have:=h.rd.tl;have:=h.rd.bl;have:=h.lb;omega
theorem St.size (h:St w rb tb cap t W j kj aj):w.heap.size≤W.heap.size:=h.kp.size
theorem St.alloc (h:St w rb tb cap t W j kj aj) (o:Obj):St w rb tb cap t (W.alloc o) j kj aj:=⟨h.rd.alloc o,h.kp.alloc h.size o,h.lb⟩
theorem St.drew (h:St w rb tb cap t W j kj aj):St w rb tb cap t W.drew j kj aj:=⟨h.rd.drew,h.kp.drew,h.lb⟩
theorem St.below (h:St w rb tb cap t W j kj aj) {w':World} (hb:Below W.heap.size W w'):St w rb tb cap t w' j kj aj:=⟨h.rd.below hb,h.kp.trans ((Kp.of_below hb).mono h.size),h.lb⟩
theorem St.nx (h:St w rb tb cap t W j kj aj) {must:Prop} {w':World} {i':Nat} {k' a':Int} (hx:Nx W rb tb cap t j kj must w' i' k' a'):St w rb tb cap t w' i' k' a':=⟨hx.rd,h.kp.trans (hx.kp.mono h.size),h.lb⟩
theorem St.rk (h:St w rb tb cap t W j kj aj) {w':World} {i':Nat} {k' a':Int} (h1:Rd w' rb tb cap t i' k' a') (h2:Kp W.heap.size rb W w'):St w rb tb cap t w' i' k' a':=⟨h1,h.kp.trans (h2.mono h.size),h.lb⟩
theorem St.put (h:St w rb tb cap t W j kj aj) {b:Nat} (hb:w.heap.size≤b) (o:Nat) (u:Value):St w rb tb cap t (W.setCell ⟨b,o,none⟩ u) j kj aj:=⟨h.rd.setCell (p:=⟨b,o,none⟩) (by have:=h.lb;show rb<b;omega) u,h.kp.setCell (p:=⟨b,o,none⟩) (.inl hb) u,h.lb⟩
theorem St.go (h:St w rb tb cap t W j kj aj) {j':Nat} (hj:j'<t.len):St w rb tb cap t (W.setCell ⟨rb,1,none⟩ (.int .i64 j')) j' kj aj:=⟨h.rd.setI hj,h.kp.setCell (p:=⟨rb,1,none⟩) (.inr rfl) _,h.lb⟩
theorem St.grown (h:St w rb tb cap t W j kj aj) {w':World} {row:Option Nat} (hg:W.grownBy w' row) (hr:∀b,row=some b→w.heap.size≤b):St w rb tb cap t w' j kj aj:=
 ⟨h.rd.grown hg (fun b e=>by have:=hr _ e;have:=h.lb;omega),h.kp.grown hg h.size hr,h.lb⟩
theorem St.set11 (h:St w rb tb cap t W j kj aj) {b:Nat} (hb:w.heap.size≤b) (c0 c1 c2 c3 c4 c5 c6 c7 c8 c9 c10:Value):St w rb tb cap t (Go.Proofs.YtdplogkmkgekdaaGreatDoor.set11 W b c0 c1 c2 c3 c4 c5 c6 c7 c8 c9 c10) j kj aj:=
 ((((((((((h.put hb 0 c0).put hb 1 c1).put hb 2 c2).put hb 3 c3).put hb 4 c4).put hb 5 c5).put hb 6 c6).put hb 7 c7).put hb 8 c8).put hb 9 c9).put hb 10 c10
end
end Go.Proofs.YtdplogkmkgekdaaGreatDoor.Pj
