/- What the middle of a printing still finds of the elder blocks. -/
import Derived.Test.YtdplogkmkgekdaaGreatDoorPpa
import Derived.Test.YtdplogkmkgekdaaGreatDoorTypes
set_option linter.all false
set_option maxRecDepth 100000
set_option maxHeartbeats 4000000
namespace Go.Proofs.YtdplogkmkgekdaaGreatDoor
open Go.RowKit
def tl (s:ByteArray):List UInt8:=s.data.toList
structure Pw (B:Nat) (w0 w:World) (wb:Nat) (ts:List (List UInt8)):Prop where
 uZ:Below B w0 w
 lo:B≤wb
 ex:∃(ov:Value) (ss:List ByteArray),ss.map tl=ts∧w.heap[wb]? =some (.cells #[ov] 61 (0,0))∧w.ownsRow B 9 1 ov ss.length (ss.map Value.string)
 few:ts.length≤1099511627776
def PP (B:Nat) (w0 w:World) (wb:Nat) (ts X:List (List UInt8)) (e:Ending) (w':World):Prop:=e=.returned (.tuple #[])∧Pw B w0 w' wb (ts++X)∧Fr 9 w wb w'
section
variable {B:Nat} {w0 w w' W:World} {wb:Nat} {ov yc:Value} {ts X:List (List UInt8)} {ss xs:List ByteArray}
theorem Pw.lt (h:Pw B w0 w wb ts):wb<w.heap.size:=by
 obtain⟨ov,ss,-,hb,-⟩:=h.ex
 exact(Array.getElem?_eq_some_iff.1 hb).1
theorem Pw.base (h:Pw B w0 w wb ts):B≤w.heap.size:=Nat.le_trans h.lo (Nat.le_of_lt h.lt)
theorem Pw.below (h:Pw B w0 w wb ts) (hb:Below w.heap.size w W):Pw B w0 W wb ts:=by
 obtain⟨ov,ss,h0,h1,h2⟩:=h.ex
 exact⟨h.uZ.trans (hb.mono h.base),h.lo,⟨ov,ss,h0,(hb.block wb h.lt).trans h1,jY h2 (fun b _ hl=>hb.block b hl)⟩,h.few⟩
theorem Pw.apart (hov:w.heap[wb]? =some (.cells #[ov] 61 (0,0))) (hrow:w.ownsRow B 9 1 ov ss.length (ss.map Value.string)):ov.ownBlock≠some wb:=fun e=>by
 obtain⟨c,h1⟩:=EX hrow e
 rw[hov] at h1
 simp at h1
theorem Pw.grow (h:Pw B w0 w wb ts) (hss:ss.map tl=ts) (hov:w.heap[wb]? =some (.cells #[ov] 61 (0,0))) (hrow:w.ownsRow B 9 1 ov ss.length (ss.map Value.string)) (hg:w.grownBy W ov.ownBlock) (hr:W.ownsRow B 9 1 yc (ss.length+xs.length) (ss.map Value.string++xs.map Value.string)) (hf:(ts++xs.map tl).length≤1099511627776):
 Pw B w0 (W.setCell ⟨wb,0,none⟩ yc) wb (ts++xs.map tl)∧Fr 9 w wb (W.setCell ⟨wb,0,none⟩ yc):=by
 have hlt:wb<W.heap.size:=Nat.lt_of_lt_of_le h.lt hg.size
 have hne0:ov.ownBlock≠some wb:=Pw.apart hov hrow
 have hB:W.heap[wb]? =some (.cells #[ov] 61 (0,0)):=(hg.block wb h.lt (fun e=>hne0 e.symm)).trans hov
 have hne:yc.ownBlock≠some wb:=fun e=>by
  obtain⟨c,h1⟩:=EX hr e
  rw[hB] at h1
  simp at h1
 have e1:(W.setCell ⟨wb,0,none⟩ yc).heap[wb]? =some (.cells #[yc] 61 (0,0)):=by
  have:=heap_setCell_same W wb 0 #[ov] 61 yc hB
  simpa using this
 have e2:(W.setCell ⟨wb,0,none⟩ yc).ownsRow B 9 1 yc (ss++xs).length ((ss++xs).map Value.string):=by
  rw[List.length_append,List.map_append]
  refine jY hr (fun b hb hl=>?_)
  exact Below.heap_setCell _ _ _ _ (fun e=>hne ((show b=wb from e)▸hb))
 refine⟨⟨?_,h.lo,⟨yc,ss++xs,by rw[List.map_append,hss],e1,e2⟩,hf⟩,?_,?_⟩
 ·refine Below.setCell ?_ (p:=⟨wb,0,none⟩) h.lo yc
  exact⟨hg.os.trans h.uZ.os,hg.tape.trans h.uZ.tape,hg.output.trans h.uZ.output,Nat.le_trans h.uZ.size hg.size,fun j hj=>(hg.block j (by have:=h.base;omega) (fun e=>by have:=(hrow.lt j e.symm).1;omega)).trans (h.uZ.block j hj)⟩
 ·have:=hg.size
  simpa using this
 ·intro b c t z e h1 h2
  rw[Below.heap_setCell _ _ _ _ h2]
  refine hg.block b (Array.getElem?_eq_some_iff.1 e).1 (fun e2=>?_)
  obtain⟨c2,h3⟩:=EX hrow e2.symm
  rw[e] at h3
  simp at h3
  exact h1 h3.2.1
theorem Pw.more (h:Pw B w0 w wb ts) (hss:ss.map tl=ts) (hov:w.heap[wb]? =some (.cells #[ov] 61 (0,0))) (hrow:w.ownsRow B 9 1 ov ss.length (ss.map Value.string)) {x:Value} {n b':Nat} (hn:xs.length=n) (hx:w.ownsRow b' 9 1 x n (xs.map Value.string)) (hf:(ts++xs.map tl).length≤1099511627776) (ty:TypeId):∃v' w',(Builtin.append_ #[59,59] ty #[ov,x]).run Tryz.prog w=.ok v' w'∧(Pw B w0 (w'.setCell ⟨wb,0,none⟩ v') wb (ts++xs.map tl)∧Fr 9 w wb (w'.setCell ⟨wb,0,none⟩ v')∧w'.cell? ⟨wb,0,none⟩=some ov∧w'.frozen? ⟨wb,0,none⟩=false∧wb<w'.heap.size∧∃ao l cp,v'=.slice ao l cp):=by
 subst hn hss
 have hl:ss.length+xs.length≤1099511627776:=by simpa using hf
 obtain⟨v',w',e,A⟩:=aeJ (sl:=59) (el:=9) (size:=1) (bytes:=16) (z:=.string ⟨#[]⟩) Tryz.underlying59 aeK rfl (by decide) hrow h.base hx (by intro u hu;obtain⟨s,-,rfl⟩:=List.mem_map.1 hu;rfl) (by unfold maxLen;omega) (by omega) ty
 have key:=h.grow (yc:=v') rfl hov hrow A.grown (xs:=xs) A.row hf
 have hB:w'.heap[wb]? =some (.cells #[ov] 61 (0,0)):=(A.grown.block wb h.lt (fun e=>Pw.apart hov hrow e.symm)).trans hov
 obtain⟨ao,cp,hs⟩:=A.shape
 exact⟨v',w',e,key.1,key.2,cell_of_row w' wb 0 _ 61 (0,0) hB,frozen_of_row w' wb 0 _ 61 hB,Nat.lt_of_lt_of_le h.lt A.grown.size,_,_,_,hs⟩
theorem Uj (h:Pw B w0 w wb ts) {a:Option Addr} {n c b':Nat} (hn:xs.length=n) (hx:w.ownsRow b' 9 1 (.slice a n c) n (xs.map Value.string)) (hf:(ts++xs.map tl).length≤1099511627776):Calls Tryz.prog 106 #[.pointer (some ⟨wb,0,none⟩),.slice a n c] w (PP B w0 w wb ts (xs.map tl)):=by
 obtain⟨ov,ss,hss,hov,hrow⟩:=h.ex
 obtain⟨ao,cp,rfl⟩:=xg hrow
 have H1:Hid (Pw B w0 w wb ts∧ss.map tl=ts∧w.heap[wb]? =some (.cells #[.slice ao ss.length cp] 61 (0,0))∧w.ownsRow B 9 1 (.slice ao ss.length cp) ss.length (ss.map Value.string)∧xs.length=n∧w.ownsRow b' 9 1 (.slice a n c) n (xs.map Value.string)∧(ts++xs.map tl).length≤1099511627776):=⟨h,hss,hov,hrow,hn,hx,hf⟩
 have c0:=cell_of_row w wb 0 _ 61 (0,0) hov
 have hlt:=h.lt
 clear hov hrow h hss hn hx hf
 go_enter Tryz.func106,Tryz.ntmps106
 go_wp2_with (at_builtin;refine WG 59 rfl rfl rfl rfl (Pw.more H1.out.1 H1.out.2.1 H1.out.2.2.1 H1.out.2.2.2.1 H1.out.2.2.2.2.1 H1.out.2.2.2.2.2.1 H1.out.2.2.2.2.2.2 _) ?_;rintro v2 w2 ⟨q1,q2,q3,q4,q5,a2,l2,c2,rfl⟩;have H3:Hid _:=And.intro q1 q2;clear q1 q2)
 go_end0
 exact⟨rfl,H3.out.1,H3.out.2⟩
theorem Zn (b:Bool) (h:Pw B w0 w wb ts) {a:Option Addr} {n c b':Nat} (hn:xs.length=n) (hx:w.ownsRow b' 9 1 (.slice a n c) n (xs.map Value.string)) (hf:(ts++aC b (xs.map tl)).length≤1099511627776):Calls Tryz.prog 115 #[.pointer (some ⟨wb,0,none⟩),.bool b,.slice a n c] w (PP B w0 w wb ts (aC b (xs.map tl))):=by
 cases b
 ·have H:=@aG _ @h
  clear h hx hf
  go_enter Tryz.func115,Tryz.ntmps115
  go_wp2_with fail
  go_end0
  exact⟨rfl,by simpa[aC] using H.out,Fr.refl _ _⟩
 ·have H:Hid (Pw B w0 w wb ts∧xs.length=n∧w.ownsRow b' 9 1 (.slice a n c) n (xs.map Value.string)∧(ts++xs.map tl).length≤1099511627776):=⟨h,hn,hx,hf⟩
  clear h hx hf hn
  go_enter Tryz.func115,Tryz.ntmps115
  go_wp2_with (go_at_call 106;refine(Uj H.out.1 H.out.2.1 H.out.2.2.1 H.out.2.2.2).mono ?_;rintro e w1 ⟨rfl,h1,h2⟩;have H1:Hid _:=And.intro h1 h2;clear h1 h2)
  go_end0
  exact⟨rfl,H1.out.1,H1.out.2⟩
end
structure Sp (B:Nat) (w0 w:World) (wb:Nat) (aT ts rest:List (List UInt8)) (wi:World) (L:List (Nat × Array Value)):Prop where
 wr:Pw B w0 wi wb (aT++ts)
 fr:Fr 9 w wb wi
 few:(aT++(ts++rest)).length≤1099511627776
 own:∀p∈L,wi.heap[p.1]? =some (.cells p.2 28 (0,0))∧p.1≠wb
section
variable {B:Nat} {w0 w wi W:World} {wb:Nat} {aT ts rest X:List (List UInt8)} {L:List (Nat × Array Value)} {f:Nat} {args:Array Value} {Q:Ending→World→Prop} {t:List UInt8} {b b2:Nat} {c c2:Array Value}
theorem Sp.start (h:Pw B w0 w wb aT) (hf:(aT++rest).length≤1099511627776):Sp B w0 w wb aT [] rest w []:=⟨by simpa using h,Fr.refl _ _,by simpa using hf,fun p hp=>by cases hp⟩
theorem Sp.done (q:Sp B w0 w wb aT ts rest wi L) (hX:ts=X):PP B w0 w wb aT X (.returned (.tuple #[])) wi:=⟨rfl,hX▸q.wr,q.fr⟩
theorem Sp.le (q:Sp B w0 w wb aT ts (X++rest) wi L):((aT++ts)++X).length≤1099511627776:=by
 refine Nat.le_trans ?_ q.few
 simp only[List.length_append]
 omega
theorem Sp.go (q:Sp B w0 w wb aT ts (X++rest) wi L) (h:∀{cs:List (List UInt8)},Pw B w0 wi wb cs→(cs++X).length≤1099511627776→Calls Tryz.prog f args wi (PP B w0 wi wb cs X)) (K:∀w',Sp B w0 w wb aT (ts++X) rest w' L→Q (.returned (.tuple #[])) w'):Calls Tryz.prog f args wi Q:=
 (h q.wr q.le).mono fun e w' p=>by
  obtain⟨rfl,h1,h2⟩:=p
  exact K w' ⟨by rw[←List.append_assoc];exact h1,q.fr.trans h2,by rw[List.append_assoc];exact q.few,fun p hp=>⟨h2.cells (q.own p hp).1 (by decide) (q.own p hp).2,(q.own p hp).2⟩⟩
theorem Sp.below (q:Sp B w0 w wb aT ts rest wi L) (hb:Below wi.heap.size wi W):Sp B w0 w wb aT ts rest W L:=
 ⟨q.wr.below hb,q.fr.trans (Fr.below hb),q.few,fun p hp=>⟨(hb.block _ (Array.getElem?_eq_some_iff.1 (q.own p hp).1).1).trans (q.own p hp).1,(q.own p hp).2⟩⟩
theorem Sp.box (q:Sp B w0 w wb aT ts rest wi L) (c:Array Value):Sp B w0 w wb aT ts rest (wi.alloc (.cells c 28)) ((wi.heap.size,c)::L):=by
 have h:=LM wi (.cells c 28)
 have q2:=q.below h.1
 refine⟨q2.wr,q2.fr,q2.few,fun p hp=>?_⟩
 rcases List.mem_cons.1 hp with rfl|hp
 ·exact⟨h.2,by have:=q.wr.lt;show wi.heap.size≠wb;omega⟩
 ·exact q2.own p hp
theorem Sp.pop (q:Sp B w0 w wb aT ts rest wi ((b,c)::L)):Sp B w0 w wb aT ts rest wi L:=⟨q.wr,q.fr,q.few,fun p hp=>q.own p (List.mem_cons_of_mem _ hp)⟩
theorem Sp.f1 (q:Sp B w0 w wb aT ts rest wi ((b,c)::L)):(∀o,wi.cell? ⟨b,o,none⟩=c[o]?)∧b<wi.heap.size:=by
 have h:=(q.own (b,c) (List.mem_cons_self ..)).1
 exact⟨fun o=>cell_of_row wi b o _ 28 (0,0) h,(Array.getElem?_eq_some_iff.1 h).1⟩
theorem Sp.f2 (q:Sp B w0 w wb aT ts rest wi ((b,c)::(b2,c2)::L)):((∀o,wi.cell? ⟨b,o,none⟩=c[o]?)∧b<wi.heap.size)∧(∀o,wi.cell? ⟨b2,o,none⟩=c2[o]?)∧b2<wi.heap.size:=⟨q.f1,q.pop.f1⟩
theorem Sp.as (q:Sp B w0 w wb aT ts rest wi L) {rest':List (List UInt8)} (e:rest=rest'):Sp B w0 w wb aT ts rest' wi L:=e▸q
theorem Zo (W:World) (ss:List ByteArray) (n:Nat) (hn:ss.length=n) (hl:n≤100):(W.alloc (.cells (ss.map Value.string).toArray 9)).ownsRow 0 9 1 (.slice (some ⟨W.heap.size,0,none⟩) n n) n (ss.map Value.string):=by
 subst hn
 have:=World.ownsRow_lit (base:=0) (e:=9) (size:=1) W (ss.map Value.string).toArray ss.length (Nat.zero_le _) (by unfold maxLen;omega) (by simp)
 simpa using this
theorem Sp.puts (q:Sp B w0 w wb aT ts (X++rest) wi L) {ss:List ByteArray} {n:Nat} (K:∀w',Sp B w0 w wb aT (ts++X) rest w' L→Q (.returned (.tuple #[])) w') {o:Array Value} {g:Nat} (hg:g=wi.heap.size) (ho:o=(ss.map Value.string).toArray) (hX:ss.map tl=X) (hn:ss.length=n) (hl:n≤100):Calls Tryz.prog 106 #[.pointer (some ⟨wb,0,none⟩),.slice (some ⟨g,0,none⟩) n n] (wi.alloc (.cells o 9)) Q:=by
 subst hg ho hX
 have h:=LM wi (.cells (ss.map Value.string).toArray 9)
 exact(q.below h.1).go (f:=106) (fun h1 h2=>Uj h1 hn (Zo wi ss n hn hl) h2) K
theorem Sp.put (q:Sp B w0 w wb aT ts (t::rest) wi L) {s:ByteArray} (K:∀w',Sp B w0 w wb aT (ts++[t]) rest w' L→Q (.returned (.tuple #[])) w') {o:Array Value} {g:Nat} (hg:g=wi.heap.size:=by first|rfl|simp) (ho:o=#[Value.string s]:=by rfl) (hs:tl s=t:=by rfl):Calls Tryz.prog 106 #[.pointer (some ⟨wb,0,none⟩),.slice (some ⟨g,0,none⟩) 1 1] (wi.alloc (.cells o 9)) Q:=by
 subst hs
 exact Sp.puts (X:=[tl s]) (ss:=[s]) q K hg ho rfl rfl (by decide)
theorem Sp.when {d:Bool} (q:Sp B w0 w wb aT ts (aC d X++rest) wi L) {ss:List ByteArray} {n:Nat} (K:∀w',Sp B w0 w wb aT (ts++aC d X) rest w' L→Q (.returned (.tuple #[])) w') {o:Array Value} {g:Nat} (hg:g=wi.heap.size:=by first|rfl|simp) (ho:o=(ss.map Value.string).toArray:=by rfl) (hX:ss.map tl=X:=by rfl) (hn:ss.length=n:=by rfl) (hl:n≤100:=by decide):Calls Tryz.prog 115 #[.pointer (some ⟨wb,0,none⟩),.bool d,.slice (some ⟨g,0,none⟩) n n] (wi.alloc (.cells o 9)) Q:=by
 subst hg ho hX
 have h:=LM wi (.cells (ss.map Value.string).toArray 9)
 exact(q.below h.1).go (f:=115) (fun h1 h2=>Zn d h1 hn (Zo wi ss n hn hl) h2) K
end
def qF (x:Int):Prop:=(0≤x∧x≤54)∨x=104∨x=105∨x=108∨x=208∨x=308
theorem qF.kind {k n m:Int} {s:ByteArray} {l:Nat} (h:qF (lab k n m s l)):0≤k∧k≤54:=by
 unfold lab at h
 by_cases h8:k=8
 ·omega
 rw[if_neg h8] at h
 by_cases h4:k=4
 ·omega
 rw[if_neg h4] at h
 by_cases h5:k=5
 ·omega
 rw[if_neg h5] at h
 by_cases h12:k=12
 ·omega
 rw[if_neg h12] at h
 by_cases Zp:100≤k
 ·rw[if_pos Zp] at h
  unfold qF at h
  omega
 ·rw[if_neg Zp] at h
  unfold qF at h
  omega
def RP (B:Nat) (w0:World) (wb f:Nat):Prop:=∀{w:World} {ts:List (List UInt8)} {kind pos n m:Int} {name:ByteArray} {kv:Value},Nw B w0 f (ah kind pos n m name kv).toList→qF (nM (ah kind pos n m name kv).toList)→Pw B w0 w wb ts→(ts++tok f w0 (ah kind pos n m name kv).toList).length≤1099511627776→Calls Tryz.prog 25 #[.pointer (some ⟨wb,0,none⟩),.agg (ah kind pos n m name kv)] w (PP B w0 w wb ts (tok f w0 (ah kind pos n m name kv).toList))
structure NK (B:Nat) (w0:World) (f:Nat) (a:Option Addr) (ks:List (List Value)):Prop where
 row:NR B w0 f a ks
 ok:∀x∈ks,qF (nM x)
section
variable {B:Nat} {w0 w:World} {wb f:Nat} {aT:List (List UInt8)}
theorem FZ {k:Kd} {ks:List Kd} {i:Nat} (h:ks[i]? =some k):bB (ks.drop i)=k.t++bB (ks.drop (i+1)):=by
 have e:ks.drop i=k::ks.drop (i+1):=by
  rw[List.drop_eq_getElem_cons (List.getElem?_eq_some_iff.1 h).1,(List.getElem?_eq_some_iff.1 h).2]
 rw[e]
 simp[bB]
theorem gq (hR:RP B w0 wb f) {a:Option Addr} {c l:Nat} {ks:List (List Value)} (r:NK B w0 f a ks) (hl:ks.length=l) (h:Pw B w0 w wb aT) (hf:(aT++bB (ks.map (aB f w0))).length≤1099511627776):Calls Tryz.prog 105 #[.pointer (some ⟨wb,0,none⟩),.slice a l c] w (PP B w0 w wb aT (bB (ks.map (aB f w0)))):=by
 subst hl
 have H:=@aG _ @r
 have Q0:Hid (Sp B w0 w wb aT [] (bB ((ks.map (aB f w0)).drop 0)) w []):=(Sp.start h hf).as rfl
 have oC:=r.row.few
 clear r h hf
 go_enter Tryz.func105,Tryz.ntmps105
 go_wp2_with fail
 go_loopg [8] ks.length (fun gg u wr=>∃(idx:Nat) (ts:List (List UInt8)),gg=ks.length - idx∧u=.int .i64 idx∧idx≤ks.length∧Hid (ts++bB ((ks.map (aB f w0)).drop idx)=bB (ks.map (aB f w0)))∧Hid (Sp B w0 w wb aT ts (bB ((ks.map (aB f w0)).drop idx)) wr []))
 case atStart=>exact⟨0,[],rfl,rfl,Nat.zero_le _,(by show _=_;simp),Q0.out⟩
 case round=>
  obtain⟨idx,ts,eD,rfl,hidx,HT,Q⟩:=hrel
  have HG:=@aG _ @eD
  clear eD
  by_cases hlt:idx<ks.length
  ·have uI:(idx:Int)<(ks.length:Int):=by omega
   obtain⟨x,hx⟩:∃x,ks[idx]? =some x:=⟨_,List.getElem?_eq_getElem hlt⟩
   obtain⟨g,o,rfl,hgB,hcell⟩:=H.out.row.cell idx x hx
   have hmem:=List.mem_of_getElem? hx
   obtain⟨kind,pos,n,m,name,ko,kl,kc,rfl,-,-⟩:=(H.out.row.all x hmem).fields
   have HX:Hid (Nw B w0 f (ah kind pos n m name (.slice ko kl kc)).toList∧qF (nM (ah kind pos n m name (.slice ko kl kc)).toList)∧(ks.map (aB f w0))[idx]? =some (aB f w0 (ah kind pos n m name (.slice ko kl kc)).toList)):=⟨H.out.row.all _ hmem,H.out.ok _ hmem,by rw[List.getElem?_map,hx];rfl⟩
   have lift:∀j,j<11→wr.cell? ⟨g,o+idx*11+j,none⟩=(ah kind pos n m name (.slice ko kl kc)).toList[j]? :=fun j hj=>(Q.out.wr.uZ.cell (p:=⟨g,o+idx*11+j,none⟩) hgB).trans (hcell j hj)
   have lg:g<wr.heap.size:=Nat.lt_of_lt_of_le hgB Q.out.wr.base
   have e0:=lift 0 (by decide)
   have e1:=lift 1 (by decide)
   have e2:=lift 2 (by decide)
   have e3:=lift 3 (by decide)
   have e4:=lift 4 (by decide)
   have e5:=lift 5 (by decide)
   have e6:=lift 6 (by decide)
   have e7:=lift 7 (by decide)
   have e8:=lift 8 (by decide)
   have e9:=lift 9 (by decide)
   have e10:=lift 10 (by decide)
   simp only[Nat.add_zero] at e0
   clear lift hcell hx hmem
   have q:=((Q.out.as (FZ HX.out.2.2)).box (ah kind pos n m name (.slice ko kl kc)))
   have HE:Hid (ts++(aB f w0 (ah kind pos n m name (.slice ko kl kc)).toList).t++bB ((ks.map (aB f w0)).drop (idx+1))=bB (ks.map (aB f w0))):=by show _=_;rw[List.append_assoc,←FZ HX.out.2.2];exact HT.out
   have F:=q.f1
   go_wp2_with (go_at_call 25;refine q.go (fun a1 a2=>hR HX.out.1 HX.out.2.1 a1 a2) ?_;clear q F;intro w1 q;have F:=q.f1)
   go_roundg (ks.length - (idx+1))
   case measure=>rw[HG.out];omega
   case rel=>exact⟨idx+1,_,rfl,by go_num,hlt,HE.out,q.pop⟩
  ·have uI:¬(idx:Int)<(ks.length:Int):=by omega
   obtain rfl:idx=ks.length:=by omega
   go_wp2_with fail
   go_end0
   refine Q.out.done ?_
   have:=HT.out
   have e:bB ((ks.map (aB f w0)).drop ks.length)=[]:=by rw[List.drop_of_length_le (by rw[List.length_map];exact Nat.le_refl _)];rfl
   rwa [e,List.append_nil] at this
theorem xk (hR:RP B w0 wb f) (s:ByteArray) {a:Option Addr} {c l:Nat} {ks:List (List Value)} (r:NK B w0 f a ks) (hl:ks.length=l) (h:Pw B w0 w wb aT) (hf:(aT++pSep (tl s) (ks.map (aB f w0))).length≤1099511627776):Calls Tryz.prog 116 #[.pointer (some ⟨wb,0,none⟩),.string s,.slice a l c] w (PP B w0 w wb aT (pSep (tl s) (ks.map (aB f w0)))):=by
 subst hl
 have H:=@aG _ @r
 have Q0:Hid (Sp B w0 w wb aT [] (oM (tl s) (ks.map (aB f w0)) 0) w []):=(Sp.start h hf).as rfl
 have oC:=r.row.few
 clear r h hf
 go_enter Tryz.func116,Tryz.ntmps116
 go_wp2_with fail
 go_loopg [10] ks.length (fun gg u wr=>∃(idx:Nat) (ts:List (List UInt8)),gg=ks.length - idx∧u=.int .i64 idx∧idx≤ks.length∧Hid (ts++oM (tl s) (ks.map (aB f w0)) idx=pSep (tl s) (ks.map (aB f w0)))∧Hid (Sp B w0 w wb aT ts (oM (tl s) (ks.map (aB f w0)) idx) wr []))
 case atStart=>exact⟨0,[],rfl,rfl,Nat.zero_le _,(by show _=_;simp[oM]),Q0.out⟩
 case round=>
  obtain⟨idx,ts,eD,rfl,hidx,HT,Q⟩:=hrel
  have HG:=@aG _ @eD
  clear eD
  by_cases hlt:idx<ks.length
  ·have uI:(idx:Int)<(ks.length:Int):=by omega
   obtain⟨x,hx⟩:∃x,ks[idx]? =some x:=⟨_,List.getElem?_eq_getElem hlt⟩
   obtain⟨g,o,rfl,hgB,hcell⟩:=H.out.row.cell idx x hx
   have hmem:=List.mem_of_getElem? hx
   obtain⟨kind,pos,n,m,name,ko,kl,kc,rfl,-,-⟩:=(H.out.row.all x hmem).fields
   have HX:Hid (Nw B w0 f (ah kind pos n m name (.slice ko kl kc)).toList∧qF (nM (ah kind pos n m name (.slice ko kl kc)).toList)∧(ks.map (aB f w0))[idx]? =some (aB f w0 (ah kind pos n m name (.slice ko kl kc)).toList)):=⟨H.out.row.all _ hmem,H.out.ok _ hmem,by rw[List.getElem?_map,hx];rfl⟩
   have lift:∀j,j<11→wr.cell? ⟨g,o+idx*11+j,none⟩=(ah kind pos n m name (.slice ko kl kc)).toList[j]? :=fun j hj=>(Q.out.wr.uZ.cell (p:=⟨g,o+idx*11+j,none⟩) hgB).trans (hcell j hj)
   have lg:g<wr.heap.size:=Nat.lt_of_lt_of_le hgB Q.out.wr.base
   have e0:=lift 0 (by decide)
   have e1:=lift 1 (by decide)
   have e2:=lift 2 (by decide)
   have e3:=lift 3 (by decide)
   have e4:=lift 4 (by decide)
   have e5:=lift 5 (by decide)
   have e6:=lift 6 (by decide)
   have e7:=lift 7 (by decide)
   have e8:=lift 8 (by decide)
   have e9:=lift 9 (by decide)
   have e10:=lift 10 (by decide)
   simp only[Nat.add_zero] at e0
   clear lift hcell hx hmem
   rcases Nat.eq_zero_or_pos idx with h0|h0
   ·subst h0
    simp only[Nat.zero_mul,Nat.add_zero] at e0 e1 e2 e3 e4 e5 e6 e7 e8 e9 e10
    have q:=((Q.out.as ((DV HX.out.2.2).trans (show _=aC false [tl s]++((aB f w0 (ah kind pos n m name (.slice ko kl kc)).toList).t++oM (tl s) (ks.map (aB f w0)) 1) from rfl))).box (ah kind pos n m name (.slice ko kl kc)))
    have HE:Hid (ts++aC false [tl s]++(aB f w0 (ah kind pos n m name (.slice ko kl kc)).toList).t++oM (tl s) (ks.map (aB f w0)) 1=pSep (tl s) (ks.map (aB f w0))):=by show _=_;rw[←HT.out,DV HX.out.2.2];simp[aC]
    have F:=q.f1
    go_wp2_with (first|(go_at_call 25;refine q.go (fun a1 a2=>hR HX.out.1 HX.out.2.1 a1 a2) ?_;clear q F;intro w2 q;have F:=q.f1)|(go_at_call 115;refine q.when (ss:=[s]) ?_;clear q F;intro w1 q;have F:=q.f1))
    go_roundg (ks.length - (0+1))
    case measure=>rw[HG.out];omega
    case rel=>exact⟨0+1,_,rfl,by go_num,hlt,HE.out,q.pop⟩
   ·have hI:(0:Int)<(idx:Int):=by omega
    have q:=((Q.out.as ((DW h0 HX.out.2.2).trans (show _=aC true [tl s]++((aB f w0 (ah kind pos n m name (.slice ko kl kc)).toList).t++oM (tl s) (ks.map (aB f w0)) (idx+1)) from rfl))).box (ah kind pos n m name (.slice ko kl kc)))
    have HE:Hid (ts++aC true [tl s]++(aB f w0 (ah kind pos n m name (.slice ko kl kc)).toList).t++oM (tl s) (ks.map (aB f w0)) (idx+1)=pSep (tl s) (ks.map (aB f w0))):=by show _=_;rw[←HT.out,DW h0 HX.out.2.2];simp[aC]
    have F:=q.f1
    go_wp2_with (first|(go_at_call 25;refine q.go (fun a1 a2=>hR HX.out.1 HX.out.2.1 a1 a2) ?_;clear q F;intro w2 q;have F:=q.f1)|(go_at_call 115;refine q.when (ss:=[s]) ?_;clear q F;intro w1 q;have F:=q.f1))
    go_roundg (ks.length - (idx+1))
    case measure=>rw[HG.out];omega
    case rel=>exact⟨idx+1,_,rfl,by go_num,hlt,HE.out,q.pop⟩
  ·have uI:¬(idx:Int)<(ks.length:Int):=by omega
   obtain rfl:idx=ks.length:=by omega
   go_wp2_with fail
   go_end0
   refine Q.out.done ?_
   have:=HT.out
   have e:oM (tl s) (ks.map (aB f w0)) ks.length=[]:=by have:=OP (s:=tl s) (ks:=ks.map (aB f w0));rwa [List.length_map] at this
   rwa [e,List.append_nil] at this
theorem jg (hR:RP B w0 wb f) (s z:ByteArray) {a:Option Addr} {c l:Nat} {ks:List (List Value)} (r:NK B w0 f a ks) (hl:ks.length=l) (h:Pw B w0 w wb aT) (hf:(aT++bF (tl s) (tl z) (ks.map (aB f w0))).length≤1099511627776):Calls Tryz.prog 117 #[.pointer (some ⟨wb,0,none⟩),.string s,.string z,.slice a l c] w (PP B w0 w wb aT (bF (tl s) (tl z) (ks.map (aB f w0)))):=by
 have q:=(Sp.start h hf).as (rest':=tl s::(pSep [44] (ks.map (aB f w0))++[tl z])) rfl
 have H:Hid (NK B w0 f a ks∧ks.length=l):=⟨r,hl⟩
 clear r h hf hl
 go_enter Tryz.func117,Tryz.ntmps117
 go_wp2_with (first
  |(go_at_call 106;refine q.put (s:=z) ?_;clear q;intro w3 q)
  |(go_at_call 116;refine q.go (fun a1 a2=>xk hR ⟨#[44]⟩ H.out.1 H.out.2 a1 a2) ?_;clear q;intro w2 q)
  |(go_at_call 106;refine q.put (s:=s) ?_;clear q;intro w1 q))
 go_end0
 exact q.done (by simp[bF])
theorem CZ (hR:RP B w0 wb f) {a:Option Addr} {c l:Nat} {ks:List (List Value)} (r:NK B w0 f a ks) (hl:ks.length=l) (h:Pw B w0 w wb aT) (hf:(aT++oP (ks.map (aB f w0))).length≤1099511627776):Calls Tryz.prog 114 #[.pointer (some ⟨wb,0,none⟩),.slice a l c] w (PP B w0 w wb aT (oP (ks.map (aB f w0)))):=by
 have q:=Sp.start h hf
 have H:Hid (NK B w0 f a ks∧ks.length=l):=⟨r,hl⟩
 rcases Nat.eq_zero_or_pos l with h0|h0
 ·have hI:¬(0:Int)<(l:Int):=by omega
  have HE:Hid ([]=oP (ks.map (aB f w0))):=by show _=_;rw[oP,if_pos (by rw[List.length_map,hl,h0])]
  clear r h hf hl
  go_enter Tryz.func114,Tryz.ntmps114
  go_wp2_with fail
  go_end0
  exact q.done HE.out
 ·have hI:(0:Int)<(l:Int):=by omega
  have e:oP (ks.map (aB f w0))=bF [60] [62] (ks.map (aB f w0))++[]:=by rw[oP,if_neg (by rw[List.length_map,hl];omega),List.append_nil]
  rw[e] at q⊢
  clear r h hf hl e
  go_enter Tryz.func114,Tryz.ntmps114
  go_wp2_with (go_at_call 117;refine q.go (fun a1 a2=>jg hR ⟨#[60]⟩ ⟨#[62]⟩ H.out.1 H.out.2 a1 a2) ?_;clear q;intro w2 q)
  go_end0
  exact q.done (by simp)
end
section
variable{B:Nat} {w0 w wi:World} {wb:Nat} {aT ts rest:List (List UInt8)} {L:List (Nat × Array Value)}
theorem Sp.o (q:Sp B w0 w wb aT ts rest wi L) {P:World→Prop} (H:Hid (∀W,Below B w0 W→B≤W.heap.size→P W)):P wi:=H _ q.wr.uZ q.wr.base
theorem Sp.k0 (q:Sp B w0 w wb aT ts rest wi L) {g:Nat} {k p n m:Int} {s:ByteArray} {v:Value} (H:Hid (∀W,Below B w0 W→B≤W.heap.size→g<W.heap.size∧∀j,j<11→W.cell? ⟨g,0*11+j,none⟩=(ah k p n m s v).toList[j]?)):
 g<wi.heap.size∧wi.cell? ⟨g,0,none⟩=some (.int .i64 k)∧wi.cell? ⟨g,1,none⟩=some (.int .i64 p)∧wi.cell? ⟨g,2,none⟩=some (.int .i64 n)∧wi.cell? ⟨g,3,none⟩=some (.int .i64 m)∧wi.cell? ⟨g,4,none⟩=some (.string s)∧wi.cell? ⟨g,5,none⟩=some (v)∧wi.cell? ⟨g,6,none⟩=some (.int .i64 0)∧wi.cell? ⟨g,7,none⟩=some (.int .i64 0)∧wi.cell? ⟨g,8,none⟩=some (.slice none 0 0)∧wi.cell? ⟨g,9,none⟩=some (.slice none 0 0)∧wi.cell? ⟨g,10,none⟩=some (.slice none 0 0):=
 ⟨(q.o H).1,aeL (q.o H).2⟩
end
end Go.Proofs.YtdplogkmkgekdaaGreatDoor
