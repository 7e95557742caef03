/- A path is put: its names and the colons between. -/
import Derived.Test.YtagdihffmjopaaaGreatDoorApp
namespace Go.Proofs.YtagdihffmjopaaaGreatDoor
set_option linter.all false
open Go.RowKit
theorem al1 (w:World) (a:Obj):Below w.heap.size w (w.alloc a)∧(w.alloc a).heap[w.heap.size]? =some a:=⟨(Below.refl _ _).alloc (Nat.le_refl _) _,heap_alloc_new _ _⟩
def u8 (b:UInt8):Value:=.int .u8 b.toNat
structure Wr (B:Nat) (w0 w:World) (wb:Nat) (bs:List UInt8):Prop where
 bel:Below B w0 w
 lo:B≤wb
 ex:∃ov,w.heap[wb]? =some (.cells #[ov] 56 (0,0))∧w.ownsRow B 5 1 ov bs.length (bs.map u8)
 few:bs.length≤1099511627776
structure Fr (T:Nat) (w:World) (wb:Nat) (w':World):Prop where
 size:w.heap.size≤w'.heap.size
 block:∀b c t z,w.heap[b]? =some (.cells c t z)→t≠T→b≠wb→w'.heap[b]? =w.heap[b]?
def WP (B:Nat) (w0 w:World) (wb:Nat) (bs:List UInt8) (ts:List (List UInt8)) (e:Ending) (w':World):Prop:=e=.returned (.tuple #[])∧Wr B w0 w' wb (bs++glue ts)∧Fr 5 w wb w'
section
variable{B T:Nat} {w0 w w' w'' W:World} {wb:Nat} {ov ov':Value} {bs:List UInt8}
theorem Fr.refl (w:World) (wb:Nat):Fr T w wb w:=⟨Nat.le_refl _,fun _ _ _ _ _ _ _=>rfl⟩
theorem Fr.trans (h:Fr T w wb w') (h':Fr T w' wb w''):Fr T w wb w'':=
 ⟨Nat.le_trans h.size h'.size,fun b c t z e h1 h2=>(h'.block b c t z ((h.block b c t z e h1 h2).trans e) h1 h2).trans (h.block b c t z e h1 h2)⟩
theorem Fr.below (hb:Below w.heap.size w W):Fr T w wb W:=⟨hb.size,fun b _ _ _ e _ _=>hb.block b (Array.getElem?_eq_some_iff.1 e).1⟩
theorem Fr.cells (h:Fr T w wb w') {b t:Nat} {c:Array Value} {z:Nat × Nat} (e:w.heap[b]? =some (.cells c t z)) (ht:t≠T) (hb:b≠wb):w'.heap[b]? =some (.cells c t z):=(h.block b c t z e ht hb).trans e
theorem Wr.lt (h:Wr B w0 w wb bs):wb<w.heap.size:=by
 obtain⟨ov,hb,-⟩:=h.ex
 exact(Array.getElem?_eq_some_iff.1 hb).1
theorem Wr.base (h:Wr B w0 w wb bs):B≤w.heap.size:=Nat.le_trans h.lo (Nat.le_of_lt h.lt)
theorem Wr.below (h:Wr B w0 w wb bs) (hb:Below w.heap.size w W):Wr B w0 W wb bs:=by
 obtain⟨ov,h1,h2⟩:=h.ex
 exact⟨h.bel.trans (hb.mono h.base),h.lo,⟨ov,(hb.block wb h.lt).trans h1,ownsRow_same h2 (fun b _ hl=>hb.block b hl)⟩,h.few⟩
theorem row_tag {base el size n:Nat} {v:Value} {xs:List Value} (h:w.ownsRow base el size v n xs) {b:Nat} (e:v.ownBlock=some b):∃c,w.heap[b]? =some (.cells c el (0,0)):=by
 rcases h.2 with⟨h1,-⟩|⟨g,cap,cur,h1,-,hg,-⟩
 ·rw[h1] at e;cases e
 ·rw[h1] at e
  obtain rfl:g=b:=by simpa[Value.ownBlock] using e
  exact⟨_,hg⟩
theorem Wr.grow (h:Wr B w0 w wb bs) (hov:w.heap[wb]? =some (.cells #[ov] 56 (0,0))) (hrow:w.ownsRow B 5 1 ov bs.length (bs.map u8)) (hg:w.grownBy W ov.ownBlock) {s:List UInt8} (hr:W.ownsRow B 5 1 ov' (bs.length+s.length) (bs.map u8++s.map u8)) (hf:(bs++s).length≤1099511627776):
 (W.setCell ⟨wb,0,none⟩ ov').heap[wb]? =some (.cells #[ov'] 56 (0,0))∧(W.setCell ⟨wb,0,none⟩ ov').ownsRow B 5 1 ov' (bs++s).length ((bs++s).map u8)∧Wr B w0 (W.setCell ⟨wb,0,none⟩ ov') wb (bs++s)∧Fr 5 w wb (W.setCell ⟨wb,0,none⟩ ov'):=by
 have hlt:wb<W.heap.size:=Nat.lt_of_lt_of_le h.lt hg.size
 have hne0:ov.ownBlock≠some wb:=fun e=>by
  obtain⟨c,h1⟩:=row_tag hrow e
  rw[hov] at h1
  simp at h1
 have hB:W.heap[wb]? =some (.cells #[ov] 56 (0,0)):=(hg.block wb h.lt (fun e=>hne0 e.symm)).trans hov
 have hne:ov'.ownBlock≠some wb:=fun e=>by
  obtain⟨c,h1⟩:=row_tag hr e
  rw[hB] at h1
  simp at h1
 have e1:(W.setCell ⟨wb,0,none⟩ ov').heap[wb]? =some (.cells #[ov'] 56 (0,0)):=by
  have:=heap_setCell_same W wb 0 #[ov] 56 ov' hB
  simpa using this
 have e2:(W.setCell ⟨wb,0,none⟩ ov').ownsRow B 5 1 ov' (bs++s).length ((bs++s).map u8):=by
  rw[List.length_append,List.map_append]
  refine ownsRow_same hr (fun b hb hl=>?_)
  exact Below.heap_setCell _ _ _ _ (fun e=>hne ((show b=wb from e)▸hb))
 refine⟨e1,e2,⟨?_,h.lo,⟨ov',e1,e2⟩,hf⟩,?_,?_⟩
 ·refine Below.setCell ?_ (p:=⟨wb,0,none⟩) h.lo ov'
  exact⟨hg.os.trans h.bel.os,hg.tape.trans h.bel.tape,hg.output.trans h.bel.output,Nat.le_trans h.bel.size hg.size,fun j hj=>(hg.block j (by have:=h.base;omega) (fun e=>by have:=(hrow.lt j e.symm).1;omega)).trans (h.bel.block j hj)⟩
 ·have:=hg.size
  simpa using this
 ·intro b c t z e h1 h2
  rw[Below.heap_setCell _ _ _ _ h2]
  refine hg.block b (Array.getElem?_eq_some_iff.1 e).1 (fun e2=>?_)
  obtain⟨c2,h3⟩:=row_tag hrow e2.symm
  rw[e] at h3
  simp at h3
  exact h1 h3.2.1
theorem row_shape {base el size n:Nat} {v:Value} {xs:List Value} (h:w.ownsRow base el size v n xs):∃ao cp,v=.slice ao n cp:=by
 rcases h.2 with⟨h1,h2⟩|⟨g,cap,cur,h1,-⟩
 ·exact⟨none,0,by rw[h1,h2]⟩
 ·exact⟨_,_,h1⟩
theorem Wr.apart (hov:w.heap[wb]? =some (.cells #[ov] 56 (0,0))) (hrow:w.ownsRow B 5 1 ov bs.length (bs.map u8)):ov.ownBlock≠some wb:=fun e=>by
 obtain⟨c,h1⟩:=row_tag hrow e
 rw[hov] at h1
 simp at h1
theorem Wr.one (h:Wr B w0 w wb bs) (hov:w.heap[wb]? =some (.cells #[ov] 56 (0,0))) (hrow:w.ownsRow B 5 1 ov bs.length (bs.map u8)) (hf:bs.length+1≤1099511627776) (ty:TypeId) {ad:Nat} (had:ad=w.heap.size) {cs:List UInt8} (hcs:cs=bs++[32]):∃v' w',(Builtin.append_ #[54,54] ty #[ov,.slice (some ⟨ad,0,none⟩) 1 1]).run Tryz.prog (w.alloc (.cells #[.int .u8 32] 5))=.ok v' w'∧((∃ao cp,v'=.slice ao cs.length cp)∧(w'.setCell ⟨wb,0,none⟩ v').heap[wb]? =some (.cells #[v'] 56 (0,0))∧(w'.setCell ⟨wb,0,none⟩ v').ownsRow B 5 1 v' cs.length (cs.map u8)∧Wr B w0 (w'.setCell ⟨wb,0,none⟩ v') wb cs∧Fr 5 w wb (w'.setCell ⟨wb,0,none⟩ v')∧w'.cell? ⟨wb,0,none⟩=some ov∧w'.frozen? ⟨wb,0,none⟩=false∧wb<w'.heap.size):=by
 subst hcs
 have hal:=(al1 w (.cells #[.int .u8 32] 5)).1
 have hov1:(w.alloc (.cells #[.int .u8 32] 5)).heap[wb]? =some (.cells #[ov] 56 (0,0)):=(hal.block wb h.lt).trans hov
 have hrow1:(w.alloc (.cells #[.int .u8 32] 5)).ownsRow B 5 1 ov bs.length (bs.map u8):=ownsRow_same hrow (fun b _ hl=>hal.block b hl)
 obtain⟨v',w',e,A⟩:=app1 (sl:=54) (el:=5) (size:=1) (bytes:=1) (z:=.int .u8 0) Tryz.underlying54 (by kernel_rfl) rfl (by decide) hrow h.base #[.int .u8 32] rfl (by simp[Value.oneCell']) (by unfold maxLen;omega) (by omega) ty had
 have key:=(h.below hal).grow (ov':=v') hov1 hrow1 A.grown (s:=[32]) A.row (by rw[List.length_append];exact hf)
 have hB:w'.heap[wb]? =some (.cells #[ov] 56 (0,0)):=(A.grown.block wb (h.below hal).lt (fun e=>Wr.apart hov hrow e.symm)).trans hov1
 exact⟨v',w',e,row_shape key.2.1,key.1,key.2.1,key.2.2.1,(Fr.below hal).trans key.2.2.2,cell_of_row w' wb 0 _ 56 (0,0) hB,frozen_of_row w' wb 0 _ 56 hB,Nat.lt_of_lt_of_le (h.below hal).lt A.grown.size⟩
theorem Wr.str (h:Wr B w0 w wb bs) (hov:w.heap[wb]? =some (.cells #[ov] 56 (0,0))) (hrow:w.ownsRow B 5 1 ov bs.length (bs.map u8)) (s:ByteArray) (hf:bs.length+s.size≤1099511627776) (ty:TypeId) {cs:List UInt8} (hcs:cs=bs++s.data.toList):∃v' w',(Builtin.append_ #[54,9] ty #[ov,.string s]).run Tryz.prog w=.ok v' w'∧((∃ao cp,v'=.slice ao cs.length cp)∧(w'.setCell ⟨wb,0,none⟩ v').heap[wb]? =some (.cells #[v'] 56 (0,0))∧(w'.setCell ⟨wb,0,none⟩ v').ownsRow B 5 1 v' cs.length (cs.map u8)∧Wr B w0 (w'.setCell ⟨wb,0,none⟩ v') wb cs∧Fr 5 w wb (w'.setCell ⟨wb,0,none⟩ v')∧w'.cell? ⟨wb,0,none⟩=some ov∧w'.frozen? ⟨wb,0,none⟩=false∧wb<w'.heap.size):=by
 subst hcs
 obtain⟨i0,hi0,hz0,hz1,hz2⟩:=info_parts (show(Tryz.prog.info? 5).map (fun i=>(i.zero,i.size,i.bytes))=some (some (.int .u8 0),1,1) by kernel_rfl)
 obtain⟨v',w',e,hr,hg,-⟩:=Lib.run_append_own_string (P:=Tryz.prog) w B 54 9 ty 5 i0 Tryz.underlying54 Tryz.underlying9 hi0 hz0 hz1 hz2 ov bs.length (bs.map u8) hrow s (by unfold maxLen;omega) (by omega) h.base
 have hl:s.size=s.data.toList.length:=by rw[Array.length_toList];rfl
 have key:=h.grow (ov':=v') hov hrow hg (s:=s.data.toList) (by rw[←hl];exact hr) (by rw[List.length_append,←hl];exact hf)
 have hne0:ov.ownBlock≠some wb:=fun e=>by
  obtain⟨c,h1⟩:=row_tag hrow e
  rw[hov] at h1
  simp at h1
 have hB:w'.heap[wb]? =some (.cells #[ov] 56 (0,0)):=(hg.block wb h.lt (fun e=>hne0 e.symm)).trans hov
 exact⟨v',w',e,row_shape key.2.1,key.1,key.2.1,key.2.2.1,key.2.2.2,cell_of_row w' wb 0 _ 56 (0,0) hB,frozen_of_row w' wb 0 _ 56 hB,Nat.lt_of_lt_of_le h.lt hg.size⟩
end
end Go.Proofs.YtagdihffmjopaaaGreatDoor
namespace Go.Proofs.YtagdihffmjopaaaGreatDoor
set_option linter.all false
open Go.RowKit
theorem wp_runT {W:World} {ops:Array Oper} {rest:List Oper} {o:Oper} {a:Act} {Q:Exit→Act→World→Prop} (sl sx:Nat) (hgd:o.guard=none) {s x:Operand} (ho:o.op=.call {callee:=.builtin .append,args:=#[s,x],argTypes:=#[sl,sx]}) {v xv:Value} (hs:a.eval s=v) (hx:a.eval x=xv) {R:Value→World→Prop}
 (hr:∃v' w',(Builtin.append_ #[sl,sx] o.type #[v,xv]).run Tryz.prog W=.ok v' w'∧R v' w') (h:∀v' w',R v' w'→wpList Tryz.prog ops Q rest (a.put o.dst v') w'):wpList Tryz.prog ops Q (o::rest) a W:=by
 refine wpList_plain hgd fun K hK=>?_
 obtain⟨v',w',hr,h2⟩:=hr
 unfold Oper.wp execOp
 simp only[ho,resolve,invoke,builtin,Sem.run_bind,Sem.run_pure,Result.andThen_ok,List.map_toArray,List.map_cons,List.map_nil,hs,hx,hr]
 exact hK _ _ (h v' w' h2)
section
variable{B:Nat} {w0 w:World} {wb:Nat} {bs:List UInt8}
set_option maxRecDepth 100000 in
set_option maxHeartbeats 1000000 in
theorem put33 (h:Wr B w0 w wb bs) (hne:bs≠[]) (s:ByteArray) (hf:(bs++glue [s.data.toList]).length≤1099511627776):Calls Tryz.prog 33 #[.pointer (some ⟨wb,0,none⟩),.string s] w (WP B w0 w wb bs [s.data.toList]):=by
 have hl:s.size=s.data.toList.length:=by rw[Array.length_toList];rfl
 have hf1:bs.length+(s.size+1)≤1099511627776:=by
  rw[glue_cons,glue_nil] at hf
  simp only[List.length_append,List.length_cons,List.length_nil] at hf
  omega
 obtain⟨ov,hov,hrow⟩:=h.ex
 obtain⟨ao,cp,rfl⟩:∃ao cp,ov=.slice ao bs.length cp:=by
  rcases hrow.2 with⟨h1,h2⟩|⟨g,cap,cur,h1,-⟩
  ·exact⟨none,0,by rw[h1,h2]⟩
  ·exact⟨_,_,h1⟩
 obtain⟨cs,hcs⟩:∃cs,cs=bs++[32]:=⟨_,rfl⟩
 have HCS:Hid (cs=bs++[32]):=hcs
 have hcl:cs.length+s.size≤1099511627776:=by rw[hcs];simp;omega
 obtain⟨ds,hds⟩:∃ds,ds=cs++s.data.toList:=⟨_,rfl⟩
 have HDS:Hid (ds=cs++s.data.toList):=hds
 have HCL:Hid (cs.length+s.size≤1099511627776):=hcl
 clear hcs hds hcl
 have H1:Hid _:=And.intro h (And.intro hov hrow)
 have c0:=cell_of_row w wb 0 _ 56 (0,0) hov
 have hlt:=h.lt
 have hpos:(0:Int)<(bs.length:Int):=by
  cases bs with
  |nil=>exact absurd rfl hne
  |cons a b=>simp
 clear hov hrow h hne
 go_enter Tryz.func33,Tryz.ntmps33
 go_wp2_with (at_builtin;first
  |(refine wp_runT 54 9 rfl rfl rfl rfl (Wr.str H2.out.2.2.1 H2.out.1 H2.out.2.1 s HCL.out _ HDS.out) ?_;rintro v2 w2 ⟨⟨a2,c2,rfl⟩,-,-,q1,q2,q3,q4,q5⟩;have H3:Hid _:=And.intro q1 q2;clear q1 q2)
  |(refine wp_runG 54 rfl rfl rfl rfl (Wr.one H1.out.1 H1.out.2.1 H1.out.2.2 (by omega) _ rfl HCS.out) ?_;rintro v1 w1 ⟨⟨a1,d1,rfl⟩,p1,p2,p3,p4,p5,p6,p7⟩;have c1:=cell_of_row _ wb 0 _ 56 (0,0) p1;have l1:=p3.lt;have H2:Hid _:=And.intro p1 (And.intro p2 (And.intro p3 p4));clear p1 p2 p3 p4))
 go_end0
 refine⟨rfl,?_,H2.out.2.2.2.trans H3.out.2⟩
 have e:bs++glue [s.data.toList]=ds:=by rw[HDS.out,HCS.out,glue_cons,glue_nil];simp
 rw[e]
 exact H3.out.1
set_option maxRecDepth 100000 in
set_option maxHeartbeats 1000000 in
theorem put33_nil (h:Wr B w0 w wb []) (s:ByteArray) (hf:s.size≤1099511627776):Calls Tryz.prog 33 #[.pointer (some ⟨wb,0,none⟩),.string s] w (fun e w'=>e=.returned (.tuple #[])∧Wr B w0 w' wb s.data.toList∧Fr 5 w wb w'):=by
 obtain⟨ov,hov,hrow⟩:=h.ex
 obtain⟨ao,cp,rfl⟩:=row_shape hrow
 obtain⟨ds,hds⟩:∃ds,ds=[]++s.data.toList:=⟨_,rfl⟩
 have HDS:Hid (ds=[]++s.data.toList):=hds
 have H1:Hid _:=And.intro h (And.intro hov hrow)
 have c0:=cell_of_row w wb 0 _ 56 (0,0) hov
 have hlt:=h.lt
 clear hov hrow h hds
 go_enter Tryz.func33,Tryz.ntmps33
 go_wp2_with (at_builtin;refine wp_runT 54 9 rfl rfl rfl rfl (Wr.str H1.out.1 H1.out.2.1 H1.out.2.2 s (by simpa using hf) _ HDS.out) ?_;rintro v2 w2 ⟨⟨a2,c2,rfl⟩,-,-,q1,q2,q3,q4,q5⟩;have H3:Hid _:=And.intro q1 q2;clear q1 q2)
 go_end0
 refine⟨rfl,?_,H3.out.2⟩
 have e:s.data.toList=ds:=by rw[HDS.out];rfl
 rw[e]
 exact H3.out.1
end
end Go.Proofs.YtagdihffmjopaaaGreatDoor
namespace Go.Proofs.YtagdihffmjopaaaGreatDoor
set_option linter.all false
open Go.RowKit
def tl (s:ByteArray):List UInt8:=s.data.toList
structure Pw (B:Nat) (w0 w:World) (wb:Nat) (ts:List (List UInt8)):Prop where
 bel:Below B w0 w
 lo:B≤wb
 ex:∃(ov:Value) (ss:List ByteArray),ss.map tl=ts∧w.heap[wb]? =some (.cells #[ov] 50 (0,0))∧w.ownsRow B 9 1 ov ss.length (ss.map Value.string)
 few:ts.length≤1099511627776
def PP (B:Nat) (w0 w:World) (wb:Nat) (ts X:List (List UInt8)) (e:Ending) (w':World):Prop:=e=.returned (.tuple #[])∧Pw B w0 w' wb (ts++X)∧Fr 9 w wb w'
section
variable{B:Nat} {w0 w w' W:World} {wb:Nat} {ov ov':Value} {ts X:List (List UInt8)} {ss xs:List ByteArray}
theorem Pw.lt (h:Pw B w0 w wb ts):wb<w.heap.size:=by
 obtain⟨ov,ss,-,hb,-⟩:=h.ex
 exact(Array.getElem?_eq_some_iff.1 hb).1
theorem Pw.base (h:Pw B w0 w wb ts):B≤w.heap.size:=Nat.le_trans h.lo (Nat.le_of_lt h.lt)
theorem Pw.below (h:Pw B w0 w wb ts) (hb:Below w.heap.size w W):Pw B w0 W wb ts:=by
 obtain⟨ov,ss,h0,h1,h2⟩:=h.ex
 exact⟨h.bel.trans (hb.mono h.base),h.lo,⟨ov,ss,h0,(hb.block wb h.lt).trans h1,ownsRow_same h2 (fun b _ hl=>hb.block b hl)⟩,h.few⟩
theorem Pw.apart (hov:w.heap[wb]? =some (.cells #[ov] 50 (0,0))) (hrow:w.ownsRow B 9 1 ov ss.length (ss.map Value.string)):ov.ownBlock≠some wb:=fun e=>by
 obtain⟨c,h1⟩:=row_tag hrow e
 rw[hov] at h1
 simp at h1
theorem Pw.grow (h:Pw B w0 w wb ts) (hss:ss.map tl=ts) (hov:w.heap[wb]? =some (.cells #[ov] 50 (0,0))) (hrow:w.ownsRow B 9 1 ov ss.length (ss.map Value.string)) (hg:w.grownBy W ov.ownBlock) (hr:W.ownsRow B 9 1 ov' (ss.length+xs.length) (ss.map Value.string++xs.map Value.string)) (hf:(ts++xs.map tl).length≤1099511627776):
 Pw B w0 (W.setCell ⟨wb,0,none⟩ ov') wb (ts++xs.map tl)∧Fr 9 w wb (W.setCell ⟨wb,0,none⟩ ov'):=by
 have hlt:wb<W.heap.size:=Nat.lt_of_lt_of_le h.lt hg.size
 have hne0:ov.ownBlock≠some wb:=Pw.apart hov hrow
 have hB:W.heap[wb]? =some (.cells #[ov] 50 (0,0)):=(hg.block wb h.lt (fun e=>hne0 e.symm)).trans hov
 have hne:ov'.ownBlock≠some wb:=fun e=>by
  obtain⟨c,h1⟩:=row_tag hr e
  rw[hB] at h1
  simp at h1
 have e1:(W.setCell ⟨wb,0,none⟩ ov').heap[wb]? =some (.cells #[ov'] 50 (0,0)):=by
  have:=heap_setCell_same W wb 0 #[ov] 50 ov' hB
  simpa using this
 have e2:(W.setCell ⟨wb,0,none⟩ ov').ownsRow B 9 1 ov' (ss++xs).length ((ss++xs).map Value.string):=by
  rw[List.length_append,List.map_append]
  refine ownsRow_same hr (fun b hb hl=>?_)
  exact Below.heap_setCell _ _ _ _ (fun e=>hne ((show b=wb from e)▸hb))
 refine⟨⟨?_,h.lo,⟨ov',ss++xs,by rw[List.map_append,hss],e1,e2⟩,hf⟩,?_,?_⟩
 ·refine Below.setCell ?_ (p:=⟨wb,0,none⟩) h.lo ov'
  exact⟨hg.os.trans h.bel.os,hg.tape.trans h.bel.tape,hg.output.trans h.bel.output,Nat.le_trans h.bel.size hg.size,fun j hj=>(hg.block j (by have:=h.base;omega) (fun e=>by have:=(hrow.lt j e.symm).1;omega)).trans (h.bel.block j hj)⟩
 ·have:=hg.size
  simpa using this
 ·intro b c t z e h1 h2
  rw[Below.heap_setCell _ _ _ _ h2]
  refine hg.block b (Array.getElem?_eq_some_iff.1 e).1 (fun e2=>?_)
  obtain⟨c2,h3⟩:=row_tag hrow e2.symm
  rw[e] at h3
  simp at h3
  exact h1 h3.2.1
theorem Pw.more (h:Pw B w0 w wb ts) (hss:ss.map tl=ts) (hov:w.heap[wb]? =some (.cells #[ov] 50 (0,0))) (hrow:w.ownsRow B 9 1 ov ss.length (ss.map Value.string)) {x:Value} {n b':Nat} (hn:xs.length=n) (hx:w.ownsRow b' 9 1 x n (xs.map Value.string)) (hf:(ts++xs.map tl).length≤1099511627776) (ty:TypeId):∃v' w',(Builtin.append_ #[48,48] ty #[ov,x]).run Tryz.prog w=.ok v' w'∧(Pw B w0 (w'.setCell ⟨wb,0,none⟩ v') wb (ts++xs.map tl)∧Fr 9 w wb (w'.setCell ⟨wb,0,none⟩ v')∧w'.cell? ⟨wb,0,none⟩=some ov∧w'.frozen? ⟨wb,0,none⟩=false∧wb<w'.heap.size∧∃ao l cp,v'=.slice ao l cp):=by
 subst hn hss
 have hl:ss.length+xs.length≤1099511627776:=by simpa using hf
 obtain⟨v',w',e,A⟩:=appN (sl:=48) (el:=9) (size:=1) (bytes:=16) (z:=.string ⟨#[]⟩) Tryz.underlying48 infS rfl (by decide) hrow h.base hx (by intro u hu;obtain⟨s,-,rfl⟩:=List.mem_map.1 hu;rfl) (by unfold maxLen;omega) (by omega) ty
 have key:=h.grow (ov':=v') rfl hov hrow A.grown (xs:=xs) A.row hf
 have hB:w'.heap[wb]? =some (.cells #[ov] 50 (0,0)):=(A.grown.block wb h.lt (fun e=>Pw.apart hov hrow e.symm)).trans hov
 obtain⟨ao,cp,hs⟩:=A.shape
 exact⟨v',w',e,key.1,key.2,cell_of_row w' wb 0 _ 50 (0,0) hB,frozen_of_row w' wb 0 _ 50 hB,Nat.lt_of_lt_of_le h.lt A.grown.size,_,_,_,hs⟩
set_option maxRecDepth 100000 in
set_option maxHeartbeats 1000000 in
theorem put47 (h:Pw B w0 w wb ts) {a:Option Addr} {n c b':Nat} (hn:xs.length=n) (hx:w.ownsRow b' 9 1 (.slice a n c) n (xs.map Value.string)) (hf:(ts++xs.map tl).length≤1099511627776):Calls Tryz.prog 47 #[.pointer (some ⟨wb,0,none⟩),.slice a n c] w (PP B w0 w wb ts (xs.map tl)):=by
 obtain⟨ov,ss,hss,hov,hrow⟩:=h.ex
 obtain⟨ao,cp,rfl⟩:=row_shape hrow
 have H1:Hid (Pw B w0 w wb ts∧ss.map tl=ts∧w.heap[wb]? =some (.cells #[.slice ao ss.length cp] 50 (0,0))∧w.ownsRow B 9 1 (.slice ao ss.length cp) ss.length (ss.map Value.string)∧xs.length=n∧w.ownsRow b' 9 1 (.slice a n c) n (xs.map Value.string)∧(ts++xs.map tl).length≤1099511627776):=⟨h,hss,hov,hrow,hn,hx,hf⟩
 have c0:=cell_of_row w wb 0 _ 50 (0,0) hov
 have hlt:=h.lt
 clear hov hrow h hss hn hx hf
 go_enter Tryz.func47,Tryz.ntmps47
 go_wp2_with (at_builtin;refine wp_runG 48 rfl rfl rfl rfl (Pw.more H1.out.1 H1.out.2.1 H1.out.2.2.1 H1.out.2.2.2.1 H1.out.2.2.2.2.1 H1.out.2.2.2.2.2.1 H1.out.2.2.2.2.2.2 _) ?_;rintro v2 w2 ⟨q1,q2,q3,q4,q5,a2,l2,c2,rfl⟩;have H3:Hid _:=And.intro q1 q2;clear q1 q2)
 go_end0
 exact⟨rfl,H3.out.1,H3.out.2⟩
set_option maxRecDepth 100000 in
set_option maxHeartbeats 1000000 in
theorem when56 (b:Bool) (h:Pw B w0 w wb ts) {a:Option Addr} {n c b':Nat} (hn:xs.length=n) (hx:w.ownsRow b' 9 1 (.slice a n c) n (xs.map Value.string)) (hf:(ts++pWhen b (xs.map tl)).length≤1099511627776):Calls Tryz.prog 56 #[.pointer (some ⟨wb,0,none⟩),.bool b,.slice a n c] w (PP B w0 w wb ts (pWhen b (xs.map tl))):=by
 cases b
 ·have H:Hid (Pw B w0 w wb ts):=h
  clear h hx hf
  go_enter Tryz.func56,Tryz.ntmps56
  go_wp2_with fail
  go_end0
  exact⟨rfl,by simpa[pWhen] using H.out,Fr.refl _ _⟩
 ·have H:Hid (Pw B w0 w wb ts∧xs.length=n∧w.ownsRow b' 9 1 (.slice a n c) n (xs.map Value.string)∧(ts++xs.map tl).length≤1099511627776):=⟨h,hn,hx,hf⟩
  clear h hx hf hn
  go_enter Tryz.func56,Tryz.ntmps56
  go_wp2_with (go_at_call 47;refine(put47 H.out.1 H.out.2.1 H.out.2.2.1 H.out.2.2.2).mono ?_;rintro e w1 ⟨rfl,h1,h2⟩;have H1:Hid _:=And.intro h1 h2;clear h1 h2)
  go_end0
  exact⟨rfl,H1.out.1,H1.out.2⟩
end
end Go.Proofs.YtagdihffmjopaaaGreatDoor
namespace Go.Proofs.YtagdihffmjopaaaGreatDoor
set_option linter.all false
open Go.RowKit
def putL:List UInt8→List (List UInt8)→List UInt8
 |bs,[]=>bs
 |bs,t::r=>putL (if bs=[] then t else bs++32::t) r
theorem putL_glue {bs:List UInt8} (h:bs≠[]) (ts:List (List UInt8)):putL bs ts=bs++glue ts:=by
 induction ts generalizing bs with
 |nil=>simp[putL,glue]
 |cons t r ih=>
  unfold putL
  rw[if_neg h,ih (by simp[h]),glue_cons]
  simp
theorem putL_append (bs:List UInt8) (a b:List (List UInt8)):putL bs (a++b)=putL (putL bs a) b:=by
 induction a generalizing bs with
 |nil=>rfl
 |cons t r ih=>
  show putL (if bs=[] then t else bs++32::t) (r++b)=_
  rw[ih]
  rfl
theorem putL_len (bs:List UInt8) (ts:List (List UInt8)):bs.length≤(putL bs ts).length:=by
 induction ts generalizing bs with
 |nil=>exact Nat.le_refl _
 |cons t r ih=>
  unfold putL
  refine Nat.le_trans ?_ (ih _)
  split
  ·rename_i h;rw[h];simp
  ·simp
section
variable{B:Nat} {w0 w:World} {wb:Nat} {bs:List UInt8}
theorem put33g (h:Wr B w0 w wb bs) (s:ByteArray) (hf:(putL bs [s.data.toList]).length≤1099511627776):Calls Tryz.prog 33 #[.pointer (some ⟨wb,0,none⟩),.string s] w (fun e w'=>e=.returned (.tuple #[])∧Wr B w0 w' wb (putL bs [s.data.toList])∧Fr 5 w wb w'):=by
 by_cases hb:bs=[]
 ·subst hb
  have e:putL [] [s.data.toList]=s.data.toList:=rfl
  rw[e] at hf⊢
  exact put33_nil h s (by rw[Array.length_toList] at hf;exact hf)
 ·rw[putL_glue hb] at hf⊢
  exact put33 h hb s hf
set_option maxRecDepth 100000 in
set_option maxHeartbeats 1000000 in
theorem puts31g (h:Wr B w0 w wb bs) {g c n:Nat} {ss:List ByteArray} (hn:ss.length=n) (hl:n≤100) (hg:w.heap[g]? =some (.cells (ss.map Value.string).toArray 9 (0,0))) (hgb:g≠wb) (hf:(putL bs (ss.map (·.data.toList))).length≤1099511627776):Calls Tryz.prog 31 #[.pointer (some ⟨wb,0,none⟩),.slice (some ⟨g,0,none⟩) n c] w (fun e w'=>e=.returned (.tuple #[])∧Wr B w0 w' wb (putL bs (ss.map (·.data.toList)))∧Fr 5 w wb w'):=by
 have H:Hid (Wr B w0 w wb bs∧w.heap[g]? =some (.cells (ss.map Value.string).toArray 9 (0,0))∧ss.length=n∧(putL bs (ss.map (·.data.toList))).length≤1099511627776):=⟨h,hg,hn,hf⟩
 clear h hg hf hn
 go_enter Tryz.func31,Tryz.ntmps31
 go_wp2_with fail
 go_loopg [8] n (fun gg u wr=>∃idx:Nat,gg=n - idx∧u=.int .i64 (idx:Int)∧idx≤n∧Hid (Wr B w0 wr wb (putL bs ((ss.map (·.data.toList)).take idx))∧Fr 5 w wb wr))
 case atStart=>exact⟨0,rfl,rfl,Nat.zero_le _,H.out.1,Fr.refl _ _⟩
 case round=>
  obtain⟨idx,hgk,rfl,hidx,HW⟩:=hrel
  have HG:Hid (gk=n - idx):=hgk
  clear hgk
  by_cases hlt:idx<n
  ·have hltI:(idx:Int)<(n:Int):=by omega
   obtain⟨s,hs⟩:∃s,ss[idx]? =some s:=⟨_,List.getElem?_eq_getElem (by rw[H.out.2.2.1];exact hlt)⟩
   have hB:=HW.out.2.cells H.out.2.1 (by decide) hgb
   have k1:wr.cell? ⟨g,idx,none⟩=some (.string s):=by
    rw[cell_of_row wr g idx _ 9 (0,0) hB]
    simp[hs]
   have lg:g<wr.heap.size:=(Array.getElem?_eq_some_iff.1 hB).1
   have hsm:(ss.map (·.data.toList))[idx]? =some s.data.toList:=by rw[List.getElem?_map,hs];rfl
   have et:(ss.map (·.data.toList)).take (idx+1)=(ss.map (·.data.toList)).take idx++[s.data.toList]:=by rw[List.take_succ,hsm];rfl
   have HE:Hid (putL bs ((ss.map (·.data.toList)).take (idx+1))=putL (putL bs ((ss.map (·.data.toList)).take idx)) [s.data.toList]):=by show _=_;rw[et,putL_append]
   have HF:Hid ((putL (putL bs ((ss.map (·.data.toList)).take idx)) [s.data.toList]).length≤1099511627776):=by
    show _≤_
    rw[←putL_append,←et]
    refine Nat.le_trans ?_ H.out.2.2.2
    have e2:=List.take_append_drop (idx+1) (ss.map (·.data.toList))
    have e3:=putL_append bs ((ss.map (·.data.toList)).take (idx+1)) ((ss.map (·.data.toList)).drop (idx+1))
    rw[e2] at e3
    rw[e3]
    exact putL_len _ _
   clear hs hB hsm et
   go_wp2_with (go_at_call 33;refine(put33g HW.out.1 s HF.out).mono ?_;rintro e w1 ⟨rfl,hw1,hf1⟩;have H1:Hid _:=And.intro hw1 hf1;clear hw1 hf1)
   go_roundg (n - (idx+1))
   case measure=>rw[HG.out];omega
   case rel=>exact⟨idx+1,rfl,by go_num,hlt,by rw[HE.out];exact H1.out.1,HW.out.2.trans H1.out.2⟩
  ·have hltI:¬(idx:Int)<(n:Int):=by omega
   go_wp2_with fail
   go_end0
   have e:(ss.map (·.data.toList)).take idx=ss.map (·.data.toList):=List.take_of_length_le (by have:=H.out.2.2.1;rw[List.length_map];omega)
   have hw:=HW.out.1
   rw[e] at hw
   exact⟨rfl,hw,HW.out.2⟩
end
end Go.Proofs.YtagdihffmjopaaaGreatDoor
namespace Go.Proofs.YtagdihffmjopaaaGreatDoor
set_option linter.all false
open Go.RowKit
def pzF (l:List UInt8):Nat→Nat→Nat→List (List UInt8)
 |0,_,fr=>[l.drop fr]
 |n+1,i,fr=>if l[i]? =some 58∧l[i+1]? =some 58 then(l.drop fr).take (i - fr)::[58,58]::pzF l n (i+1) (i+2) else pzF l n (i+1) fr
theorem pz_shift (l:List UInt8) (d:Nat):∀n i fr,pzF (l.drop d) n i fr=pzF l n (d+i) (d+fr):=by
 intro n
 induction n with
 |zero=>intro i fr;simp[pzF,List.drop_drop]
 |succ n ih=>
  intro i fr
  unfold pzF
  rw[List.getElem?_drop,List.getElem?_drop,ih,ih,List.drop_drop]
  have e:d+i - (d+fr)=i - fr:=by omega
  rw[e]
  rfl
theorem pz_skip (l:List UInt8) (n fr:Nat):∀(k i:Nat),(∀j,i≤j→j<i+k→¬(l[j]? =some 58∧l[j+1]? =some 58))→pzF l (n+k) i fr=pzF l n (i+k) fr:=by
 intro k
 induction k with
 |zero=>intro i _;rfl
 |succ k ih=>
  intro i h
  show(if l[i]? =some 58∧l[i+1]? =some 58 then _ else pzF l (n+k) (i+1) fr)=_
  rw[if_neg (h i (Nat.le_refl _) (by omega)),ih (i+1) (fun j h1 h2=>h j (by omega) (by omega))]
  rw[show i+1+k=i+(k+1) by omega]
theorem occ2 (l:List UInt8) (j:Nat):Lib.occAt l [58,58] j=true↔l[j]? =some 58∧l[j+1]? =some 58:=by
 have e0:(l.drop j)[0]? =l[j]? :=by rw[List.getElem?_drop];rfl
 have e1:(l.drop j)[1]? =l[j+1]? :=by rw[List.getElem?_drop]
 rw[←e0,←e1]
 unfold Lib.occAt
 match l.drop j with
 |[]=>simp
 |[a]=>simp[List.isPrefixOf]
 |a::b::r=>
  simp[List.isPrefixOf]
  constructor
  ·rintro⟨h1,h2⟩;exact⟨h1.symm,h2.symm⟩
  ·rintro⟨h1,h2⟩;exact⟨h1.symm,h2.symm⟩
def NTl (l:List UInt8):Prop:=∀i:Nat,l[i]? =some (58:UInt8)→l[i+1]? =some (58:UInt8)→l[i+2]? ≠some (58:UInt8)
theorem pz_main:∀(m:Nat) (l:List UInt8),l.length≤m→NTl l→glue (pzF l (l.length - 1) 0 0)=32::Lib.replaceK [58,58] [32,58,58,32] (Lib.count l [58,58]) l:=by
 intro m
 induction m with
 |zero=>
  intro l hl _
  obtain rfl:l=[]:=List.eq_nil_of_length_eq_zero (by omega)
  rfl
 |succ m ih=>
  intro l hl hnt
  rcases Lib.index_spec l [58,58] with⟨h1,h2⟩|⟨i,h1,h2,h3,h4⟩
  ·rw[Lib.count_miss h1]
   have e:=pz_skip l 0 0 (l.length - 1) 0 (fun j _ hj hc=>by
    have:=h2 j (by omega)
    rw[(occ2 l j).2 hc] at this
    cases this)
   rw[Nat.zero_add] at e
   rw[e]
   simp[pzF,glue,Lib.replaceK]
  ·obtain⟨c1,c2⟩:=(occ2 l i).1 h3
   have hl2:i+1<l.length:=(List.getElem?_eq_some_iff.1 c2).1
   have e:=pz_skip l (l.length - 1 - i) 0 i 0 (fun j _ hj hc=>by
    have:=h4 j (by omega)
    rw[(occ2 l j).2 hc] at this
    cases this)
   rw[show l.length - 1 - i+i=l.length - 1 by omega,Nat.zero_add] at e
   rw[e]
   obtain⟨n1,hn1⟩:∃n1,l.length - 1 - i=n1+1:=⟨l.length - 2 - i,by omega⟩
   rw[hn1]
   unfold pzF
   rw[if_pos ⟨c1,c2⟩]
   have key:pzF l n1 (i+1) (i+2)=pzF (l.drop (i+2)) ((l.drop (i+2)).length - 1) 0 0:=by
    rw[pz_shift,List.length_drop]
    cases n1 with
    |zero=>
     rw[show l.length - (i+2) - 1=0 by omega]
     simp[pzF]
    |succ n2=>
     rw[show l.length - (i+2) - 1=n2 by omega]
     show(if l[i+1]? =some 58∧l[i+1+1]? =some 58 then _ else _)=_
     rw[if_neg (fun h=>hnt i c1 c2 h.2)]
   have ihd:=ih (l.drop (i+2)) (by rw[List.length_drop];omega) (fun j a b c=>hnt (i+2+j) (by rw[List.getElem?_drop] at a;exact a) (by rw[List.getElem?_drop] at b;exact b) (by rw[List.getElem?_drop] at c;exact c))
   rw[key,glue_cons,glue_cons,ihd,Lib.count_hit (by decide) h1,Nat.add_comm 1,Lib.replaceK_hit _ _ _ _ _ h1]
   simp
theorem pz_pth {l:List UInt8} (h:NTl l):glue (pzF l (l.length - 1) 0 0)=glue [pth l]:=by
 rw[pz_main l.length l (Nat.le_refl _) h]
 simp[glue,pth,Lib.replaceAll,Lib.replace,Lib.replaceNum]
end Go.Proofs.YtagdihffmjopaaaGreatDoor
