/- The middle of a call of the project's writer; rows of nodes. -/
import Derived.Test.YtagdihffmjopaaaGreatDoorPrj
import Derived.Test.YtagdihffmjopaaaGreatDoorPre
namespace Go.Proofs.YtagdihffmjopaaaGreatDoor
set_option linter.all false
open Go.RowKit
theorem flat_getS {size:Nat} {us:List (List Value)} (h4:∀x∈us,x.length=size):∀{idx:Nat} {x:List Value},us[idx]? =some x→∀o,o<size→us.flatten[idx*size+o]? =x[o]? :=by
 induction us with
 |nil=>intro idx x h;simp at h
 |cons y r ih=>
  intro idx x h o ho
  have hy:=h4 y (List.mem_cons_self ..)
  rw[List.flatten_cons]
  cases idx with
  |zero=>
   obtain rfl:y=x:=by simpa using h
   rw[List.getElem?_append_left (by omega)]
   congr 1
   omega
  |succ idx=>
   have e:(idx+1)*size=idx*size+size:=by rw[Nat.add_mul,Nat.one_mul]
   rw[List.getElem?_append_right (by omega),hy]
   have:=ih (fun z hz=>h4 z (List.mem_cons_of_mem _ hz)) (idx:=idx) (x:=x) (by simpa using h) o ho
   rw[←this]
   congr 1
   omega
theorem ownsRow_nth {w:World} {base e size:Nat} {v:Value} {n:Nat} {vs:List (List Value)} (h:w.ownsRow base e size v n vs.flatten) (hn:vs.length=n) (hl:∀x∈vs,x.length=size) {i:Nat} {x:List Value} (hx:vs[i]? =some x):∃g c,v=.slice (some ⟨g,0,none⟩) n c∧g<w.heap.size∧base≤g∧∀o,o<size→w.cell? ⟨g,i*size+o,none⟩=x[o]? :=by
 subst hn
 have hi:i<vs.length:=(List.getElem?_eq_some_iff.1 hx).1
 rcases h.2 with⟨h1,h2⟩|⟨g,cap,cur,h1,hb,hg,hnc,hcm,hcs,htake⟩
 ·omega
 ·refine⟨g,cap,h1,(Array.getElem?_eq_some_iff.1 hg).1,hb,fun o ho=>?_⟩
  have hlt:i*size+o<vs.length*size:=by
   have:(i+1)*size≤vs.length*size:=Nat.mul_le_mul_right _ hi
   rw[Nat.add_mul] at this
   omega
  have e2:(cur.toList.take (vs.length*size))[i*size+o]? =cur[i*size+o]? :=by rw[List.getElem?_take,if_pos hlt];simp
  rw[cell_of_row w g (i*size+o) cur e (0,0) hg,←e2,htake,flat_getS hl hx o ho]
theorem kid0 {W:World} {g:Nat} {k p n m:Int} {s:ByteArray} {v:Value} (h:∀j,j<11→W.cell? ⟨g,0*11+j,none⟩=(nodeC k p n m s v).toList[j]?):W.cell? ⟨g,0,none⟩=some (.int .i64 k)∧W.cell? ⟨g,1,none⟩=some (.int .i64 p)∧W.cell? ⟨g,2,none⟩=some (.int .i64 n)∧W.cell? ⟨g,3,none⟩=some (.int .i64 m)∧W.cell? ⟨g,4,none⟩=some (.string s)∧W.cell? ⟨g,5,none⟩=some (v)∧W.cell? ⟨g,6,none⟩=some (.int .i64 0)∧W.cell? ⟨g,7,none⟩=some (.int .i64 0)∧W.cell? ⟨g,8,none⟩=some (.slice none 0 0)∧W.cell? ⟨g,9,none⟩=some (.slice none 0 0)∧W.cell? ⟨g,10,none⟩=some (.slice none 0 0):=⟨h 0 (by decide),h 1 (by decide),h 2 (by decide),h 3 (by decide),h 4 (by decide),h 5 (by decide),h 6 (by decide),h 7 (by decide),h 8 (by decide),h 9 (by decide),h 10 (by decide)⟩
theorem kid1 {W:World} {g:Nat} {k p n m:Int} {s:ByteArray} {v:Value} (h:∀j,j<11→W.cell? ⟨g,1*11+j,none⟩=(nodeC k p n m s v).toList[j]?):W.cell? ⟨g,11,none⟩=some (.int .i64 k)∧W.cell? ⟨g,12,none⟩=some (.int .i64 p)∧W.cell? ⟨g,13,none⟩=some (.int .i64 n)∧W.cell? ⟨g,14,none⟩=some (.int .i64 m)∧W.cell? ⟨g,15,none⟩=some (.string s)∧W.cell? ⟨g,16,none⟩=some (v)∧W.cell? ⟨g,17,none⟩=some (.int .i64 0)∧W.cell? ⟨g,18,none⟩=some (.int .i64 0)∧W.cell? ⟨g,19,none⟩=some (.slice none 0 0)∧W.cell? ⟨g,20,none⟩=some (.slice none 0 0)∧W.cell? ⟨g,21,none⟩=some (.slice none 0 0):=⟨h 0 (by decide),h 1 (by decide),h 2 (by decide),h 3 (by decide),h 4 (by decide),h 5 (by decide),h 6 (by decide),h 7 (by decide),h 8 (by decide),h 9 (by decide),h 10 (by decide)⟩
theorem kid2 {W:World} {g:Nat} {k p n m:Int} {s:ByteArray} {v:Value} (h:∀j,j<11→W.cell? ⟨g,2*11+j,none⟩=(nodeC k p n m s v).toList[j]?):W.cell? ⟨g,22,none⟩=some (.int .i64 k)∧W.cell? ⟨g,23,none⟩=some (.int .i64 p)∧W.cell? ⟨g,24,none⟩=some (.int .i64 n)∧W.cell? ⟨g,25,none⟩=some (.int .i64 m)∧W.cell? ⟨g,26,none⟩=some (.string s)∧W.cell? ⟨g,27,none⟩=some (v)∧W.cell? ⟨g,28,none⟩=some (.int .i64 0)∧W.cell? ⟨g,29,none⟩=some (.int .i64 0)∧W.cell? ⟨g,30,none⟩=some (.slice none 0 0)∧W.cell? ⟨g,31,none⟩=some (.slice none 0 0)∧W.cell? ⟨g,32,none⟩=some (.slice none 0 0):=⟨h 0 (by decide),h 1 (by decide),h 2 (by decide),h 3 (by decide),h 4 (by decide),h 5 (by decide),h 6 (by decide),h 7 (by decide),h 8 (by decide),h 9 (by decide),h 10 (by decide)⟩
section
variable{B:Nat} {w0 w W:World} {wb f:Nat} {bs:List UInt8} {kind pos n m:Int} {name:ByteArray} {ko:Option Addr} {kl kc:Nat}
theorem Nw.opened (h:Nw B w0 (f+1) (nodeC kind pos n m name (.slice ko kl kc)).toList):∃vs:List (List Value),vs.length=kl∧NR B w0 f ko vs∧Gr kind n m name (vs.map labOf)∧tok (f+1) w0 (nodeC kind pos n m name (.slice ko kl kc)).toList=asm kind n m name.data.toList (vs.map (kdAt f w0))∧name.size≤20000∧∀i x,vs[i]? =some x→∃g,ko=some ⟨g,0,none⟩∧g<B∧∀j,j<11→w0.cell? ⟨g,i*11+j,none⟩=x[j]? :=by
 obtain⟨kind',pos',n',m',name',kv,vs,h1,h2,h3,h3',h4,h5,h6,h7⟩:=h
 have e:kind=kind'∧pos=pos'∧n=n'∧m=m'∧name=name'∧Value.slice ko kl kc=kv:=by simpa[nodeC] using h1
 obtain⟨rfl,rfl,rfl,rfl,rfl,rfl⟩:=e
 obtain⟨ao,cp,e⟩:=row_shape h4
 obtain⟨rfl,rfl,rfl⟩:ko=ao∧kl=vs.length∧kc=cp:=by simpa using e
 have h11:∀x∈vs,x.length=11:=fun x hx=>by
  obtain⟨k,p,a,b,s,o,l,c,rfl,-,-⟩:=Nw.fields (h6 x hx)
  rfl
 have cells:∀i x,vs[i]? =some x→∃g,ko=some ⟨g,0,none⟩∧g<B∧∀j,j<11→w0.cell? ⟨g,i*11+j,none⟩=x[j]? :=fun i x hx=>by
  obtain⟨g,c,e,hl,-,hc⟩:=ownsRow_nth h4 rfl h11 hx
  obtain⟨rfl,rfl⟩:ko=some ⟨g,0,none⟩∧kc=c:=by simpa using e
  exact⟨g,rfl,h5 g rfl,hc⟩
 refine⟨vs,rfl,⟨fun i x hx=>?_,h6,h3'⟩,h7 trivial,tok_eq h4 h6,h2,cells⟩
 obtain⟨g,e,hg,hc⟩:=cells i x hx
 exact⟨g,0,e,hg,fun j hj=>by rw[Nat.zero_add];exact hc j hj⟩
theorem kid_open {vs:List (List Value)} (hr:NR B w0 f ko vs) (hc:∀i x,vs[i]? =some x→∃g,ko=some ⟨g,0,none⟩∧g<B∧∀j,j<11→w0.cell? ⟨g,i*11+j,none⟩=x[j]?) {i:Nat} (hi:i<vs.length):∃(k p a b:Int) (s:ByteArray) (o:Option Addr) (l c g:Nat),vs[i]? =some (nodeC k p a b s (.slice o l c)).toList∧Nw B w0 f (nodeC k p a b s (.slice o l c)).toList∧ko=some ⟨g,0,none⟩∧∀W,Below B w0 W→B≤W.heap.size→g<W.heap.size∧∀j,j<11→W.cell? ⟨g,i*11+j,none⟩=(nodeC k p a b s (.slice o l c)).toList[j]? :=by
 obtain⟨x,hx⟩:∃x,vs[i]? =some x:=⟨_,List.getElem?_eq_getElem hi⟩
 have hn:=hr.all x (List.mem_of_getElem? hx)
 obtain⟨k,p,a,b,s,o,l,c,rfl,-,-⟩:=hn.fields
 obtain⟨g,e,hg,h1⟩:=hc i _ hx
 exact⟨k,p,a,b,s,o,l,c,g,hx,hn,e,fun W hW hB=>⟨Nat.lt_of_lt_of_le hg hB,fun j hj=>(hW.cell (p:=⟨g,i*11+j,none⟩) hg).trans (h1 j hj)⟩⟩
end
end Go.Proofs.YtagdihffmjopaaaGreatDoor
namespace Go.Proofs.YtagdihffmjopaaaGreatDoor
set_option linter.all false
open Go.RowKit
def Wc (B:Nat) (w0:World) (wb f:Nat) (c:Array Value) (X:List (List UInt8)):Prop:=∀{w1:World} {cs:List UInt8},Wr B w0 w1 wb cs→cs≠[]→(cs++glue X).length≤1099511627776→Calls Tryz.prog f #[.pointer (some ⟨wb,0,none⟩),.agg c] w1 (WP B w0 w1 wb cs X)
section
variable{B:Nat} {w0 w:World} {wb f:Nat} {bs:List UInt8} {kind pos n m:Int} {name:ByteArray} {ko:Option Addr} {kl kc:Nat}
theorem kid_w (hR:RN B w0 wb f) {vs:List (List Value)} (hr:NR B w0 f ko vs) (hc:∀i x,vs[i]? =some x→∃g,ko=some ⟨g,0,none⟩∧g<B∧∀j,j<11→w0.cell? ⟨g,i*11+j,none⟩=x[j]?) {i:Nat} (hi:i<vs.length) (hk:∀x,vs[i]? =some x→noK (labOf x)):∃(k p a b:Int) (s:ByteArray) (o:Option Addr) (l c g:Nat) (X Y Z:List (List UInt8)),kd (vs.map (kdAt f w0)) i=⟨k,l,X⟩∧Y=pOp ⟨k,l,X⟩∧Z=pRes ⟨k,l,X⟩∧ko=some ⟨g,0,none⟩∧Wc B w0 wb 76 (nodeC k p a b s (.slice o l c)) X∧Wc B w0 wb 115 (nodeC k p a b s (.slice o l c)) Y∧Wc B w0 wb 96 (nodeC k p a b s (.slice o l c)) Z∧∀W,Below B w0 W→B≤W.heap.size→g<W.heap.size∧∀j,j<11→W.cell? ⟨g,i*11+j,none⟩=(nodeC k p a b s (.slice o l c)).toList[j]? :=by
 obtain⟨k,p,a,b,s,o,l,c,g,h1,h2,h3,h4⟩:=kid_open hr hc hi
 have h5:=hk _ h1
 exact⟨k,p,a,b,s,o,l,c,g,tok f w0 (nodeC k p a b s (.slice o l c)).toList,_,_,by unfold kd;rw[List.getElem?_map,h1];rfl,rfl,rfl,h3,fun a1 a2 a3=>hR h2 h5 a1 a2 a3,fun a1 a2 a3=>operand115 hR h2 h5 a1 a2 a3,fun a1 a2 a3=>result96 hR h2 h5 a1 a2 a3,h4⟩
set_option maxRecDepth 100000 in
set_option maxHeartbeats 1000000 in
theorem two116 (hR:RN B w0 wb f) {vs:List (List Value)} (hr:NR B w0 f ko vs) (hc:∀i x,vs[i]? =some x→∃g,ko=some ⟨g,0,none⟩∧g<B∧∀j,j<11→w0.cell? ⟨g,i*11+j,none⟩=x[j]?) (hl:2≤vs.length) (hk:∀x∈vs,noK (labOf x)) (s:ByteArray) (h:Wr B w0 w wb bs) (hne:bs≠[]) (hf:(bs++glue (pTwo s.data.toList (vs.map (kdAt f w0)))).length≤1099511627776):Calls Tryz.prog 116 #[.pointer (some ⟨wb,0,none⟩),.agg (nodeC kind pos n m name (.slice ko vs.length kc)),.string s] w (WP B w0 w wb bs (pTwo s.data.toList (vs.map (kdAt f w0)))):=by
 obtain⟨k0,p0,a0,b0,s0,o0,l0,c0,g,X0,Y0,Z0,e0,y0,-,rfl,-,W0,-,C0⟩:=kid_w hR hr hc (i:=0) (by omega) (fun x hx=>hk x (List.mem_of_getElem? hx))
 obtain⟨k1,p1,a1,b1,s1,o1,l1,c1,g',X1,Y1,Z1,e1,y1,-,eg,-,W1,-,C1⟩:=kid_w hR hr hc (i:=1) (by omega) (fun x hx=>hk x (List.mem_of_getElem? hx))
 obtain rfl:g=g':=by simpa using eg
 have e:pTwo s.data.toList (vs.map (kdAt f w0))=Y0++(s.data.toList::(Y1++[])):=by rw[y0,y1,List.append_nil];unfold pTwo;rw[e0,e1]
 rw[e] at hf⊢
 have q:=(Sw.start h hne hf).box (nodeC kind pos n m name (.slice (some ⟨g,0,none⟩) vs.length kc))
 have F:=q.f1
 have hi0:(0:Int)<(vs.length:Int):=by omega
 have hi1:(1:Int)<(vs.length:Int):=by omega
 have HC0:Hid (∀W,Below B w0 W→B≤W.heap.size→g<W.heap.size∧∀j,j<11→W.cell? ⟨g,0*11+j,none⟩=(nodeC k0 p0 a0 b0 s0 (.slice o0 l0 c0)).toList[j]?):=C0
 have HC1:Hid (∀W,Below B w0 W→B≤W.heap.size→g<W.heap.size∧∀j,j<11→W.cell? ⟨g,1*11+j,none⟩=(nodeC k1 p1 a1 b1 s1 (.slice o1 l1 c1)).toList[j]?):=C1
 have HW0:Hid (Wc B w0 wb 115 (nodeC k0 p0 a0 b0 s0 (.slice o0 l0 c0)) Y0):=W0
 have HW1:Hid (Wc B w0 wb 115 (nodeC k1 p1 a1 b1 s1 (.slice o1 l1 c1)) Y1):=W1
 clear h hne hf hr hc hl hk e0 e1 y0 y1 e eg C0 C1 W0 W1
 have lg:=(HC0.out _ q.wr.bel q.wr.base).1
 have G0:=kid0 (HC0.out _ q.wr.bel q.wr.base).2
 go_enter Tryz.func116,Tryz.ntmps116
 go_wp2_with (first
  |(go_at_call 115;refine q.go (fun a1 a2 a3=>HW1.out a1 a2 a3) ?_;clear q F;intro w3 q;have F:=q.f1)
  |(go_at_call 33;refine q.put ?_;clear q F lg;intro w2 q;have F:=q.f1;have lg:=(HC1.out _ q.wr.bel q.wr.base).1;have G1:=kid1 (HC1.out _ q.wr.bel q.wr.base).2)
  |(go_at_call 115;refine q.go (fun a1 a2 a3=>HW0.out a1 a2 a3) ?_;clear q F lg G0;intro w1 q;have F:=q.f1;have lg:=(HC0.out _ q.wr.bel q.wr.base).1))
 go_end0
 exact q.done (by simp)
end
end Go.Proofs.YtagdihffmjopaaaGreatDoor
namespace Go.Proofs.YtagdihffmjopaaaGreatDoor
set_option linter.all false
open Go.RowKit
structure Sp (B:Nat) (w0 w:World) (wb:Nat) (ts0 ts rest:List (List UInt8)) (wi:World) (L:List (Nat × Array Value)):Prop where
 wr:Pw B w0 wi wb (ts0++ts)
 fr:Fr 9 w wb wi
 few:(ts0++(ts++rest)).length≤1099511627776
 own:∀p∈L,wi.heap[p.1]? =some (.cells p.2 28 (0,0))∧p.1≠wb
section
variable{B:Nat} {w0 w wi W:World} {wb:Nat} {ts0 ts rest X:List (List UInt8)} {L:List (Nat × Array Value)} {f:Nat} {args:Array Value} {Q:Ending→World→Prop} {t:List UInt8} {b b2:Nat} {c c2:Array Value}
theorem Sp.start (h:Pw B w0 w wb ts0) (hf:(ts0++rest).length≤1099511627776):Sp B w0 w wb ts0 [] rest w []:=⟨by simpa using h,Fr.refl _ _,by simpa using hf,fun p hp=>by cases hp⟩
theorem Sp.done (q:Sp B w0 w wb ts0 ts rest wi L) (hX:ts=X):PP B w0 w wb ts0 X (.returned (.tuple #[])) wi:=⟨rfl,hX▸q.wr,q.fr⟩
theorem Sp.le (q:Sp B w0 w wb ts0 ts (X++rest) wi L):((ts0++ts)++X).length≤1099511627776:=by
 refine Nat.le_trans ?_ q.few
 simp only[List.length_append]
 omega
theorem Sp.go (q:Sp B w0 w wb ts0 ts (X++rest) wi L) (h:∀{cs:List (List UInt8)},Pw B w0 wi wb cs→(cs++X).length≤1099511627776→Calls Tryz.prog f args wi (PP B w0 wi wb cs X)) (K:∀w',Sp B w0 w wb ts0 (ts++X) rest w' L→Q (.returned (.tuple #[])) w'):Calls Tryz.prog f args wi Q:=
 (h q.wr q.le).mono fun e w' p=>by
  obtain⟨rfl,h1,h2⟩:=p
  exact K w' ⟨by rw[←List.append_assoc];exact h1,q.fr.trans h2,by rw[List.append_assoc];exact q.few,fun p hp=>⟨h2.cells (q.own p hp).1 (by decide) (q.own p hp).2,(q.own p hp).2⟩⟩
theorem Sp.below (q:Sp B w0 w wb ts0 ts rest wi L) (hb:Below wi.heap.size wi W):Sp B w0 w wb ts0 ts rest W L:=
 ⟨q.wr.below hb,q.fr.trans (Fr.below hb),q.few,fun p hp=>⟨(hb.block _ (Array.getElem?_eq_some_iff.1 (q.own p hp).1).1).trans (q.own p hp).1,(q.own p hp).2⟩⟩
theorem Sp.box (q:Sp B w0 w wb ts0 ts rest wi L) (c:Array Value):Sp B w0 w wb ts0 ts rest (wi.alloc (.cells c 28)) ((wi.heap.size,c)::L):=by
 have h:=al1 wi (.cells c 28)
 have q2:=q.below h.1
 refine⟨q2.wr,q2.fr,q2.few,fun p hp=>?_⟩
 rcases List.mem_cons.1 hp with rfl|hp
 ·exact⟨h.2,by have:=q.wr.lt;show wi.heap.size≠wb;omega⟩
 ·exact q2.own p hp
theorem Sp.pop (q:Sp B w0 w wb ts0 ts rest wi ((b,c)::L)):Sp B w0 w wb ts0 ts rest wi L:=⟨q.wr,q.fr,q.few,fun p hp=>q.own p (List.mem_cons_of_mem _ hp)⟩
theorem Sp.f1 (q:Sp B w0 w wb ts0 ts rest wi ((b,c)::L)):(∀o,wi.cell? ⟨b,o,none⟩=c[o]?)∧b<wi.heap.size:=by
 have h:=(q.own (b,c) (List.mem_cons_self ..)).1
 exact⟨fun o=>cell_of_row wi b o _ 28 (0,0) h,(Array.getElem?_eq_some_iff.1 h).1⟩
theorem Sp.f2 (q:Sp B w0 w wb ts0 ts rest wi ((b,c)::(b2,c2)::L)):((∀o,wi.cell? ⟨b,o,none⟩=c[o]?)∧b<wi.heap.size)∧(∀o,wi.cell? ⟨b2,o,none⟩=c2[o]?)∧b2<wi.heap.size:=⟨q.f1,q.pop.f1⟩
theorem Sp.as (q:Sp B w0 w wb ts0 ts rest wi L) {rest':List (List UInt8)} (e:rest=rest'):Sp B w0 w wb ts0 ts rest' wi L:=e▸q
theorem lit9 (W:World) (ss:List ByteArray) (n:Nat) (hn:ss.length=n) (hl:n≤100):(W.alloc (.cells (ss.map Value.string).toArray 9)).ownsRow 0 9 1 (.slice (some ⟨W.heap.size,0,none⟩) n n) n (ss.map Value.string):=by
 subst hn
 have:=World.ownsRow_lit (base:=0) (e:=9) (size:=1) W (ss.map Value.string).toArray ss.length (Nat.zero_le _) (by unfold maxLen;omega) (by simp)
 simpa using this
theorem Sp.puts (q:Sp B w0 w wb ts0 ts (X++rest) wi L) {ss:List ByteArray} {n:Nat} (K:∀w',Sp B w0 w wb ts0 (ts++X) rest w' L→Q (.returned (.tuple #[])) w') {o:Array Value} {g:Nat} (hg:g=wi.heap.size) (ho:o=(ss.map Value.string).toArray) (hX:ss.map tl=X) (hn:ss.length=n) (hl:n≤100):Calls Tryz.prog 47 #[.pointer (some ⟨wb,0,none⟩),.slice (some ⟨g,0,none⟩) n n] (wi.alloc (.cells o 9)) Q:=by
 subst hg ho hX
 have h:=al1 wi (.cells (ss.map Value.string).toArray 9)
 exact(q.below h.1).go (f:=47) (fun h1 h2=>put47 h1 hn (lit9 wi ss n hn hl) h2) K
theorem Sp.put (q:Sp B w0 w wb ts0 ts (t::rest) wi L) {s:ByteArray} (K:∀w',Sp B w0 w wb ts0 (ts++[t]) rest w' L→Q (.returned (.tuple #[])) w') {o:Array Value} {g:Nat} (hg:g=wi.heap.size:=by first|rfl|simp) (ho:o=#[Value.string s]:=by rfl) (hs:tl s=t:=by rfl):Calls Tryz.prog 47 #[.pointer (some ⟨wb,0,none⟩),.slice (some ⟨g,0,none⟩) 1 1] (wi.alloc (.cells o 9)) Q:=by
 subst hs
 exact Sp.puts (X:=[tl s]) (ss:=[s]) q K hg ho rfl rfl (by decide)
theorem Sp.when {d:Bool} (q:Sp B w0 w wb ts0 ts (pWhen d X++rest) wi L) {ss:List ByteArray} {n:Nat} (K:∀w',Sp B w0 w wb ts0 (ts++pWhen d X) rest w' L→Q (.returned (.tuple #[])) w') {o:Array Value} {g:Nat} (hg:g=wi.heap.size:=by first|rfl|simp) (ho:o=(ss.map Value.string).toArray:=by rfl) (hX:ss.map tl=X:=by rfl) (hn:ss.length=n:=by rfl) (hl:n≤100:=by decide):Calls Tryz.prog 56 #[.pointer (some ⟨wb,0,none⟩),.bool d,.slice (some ⟨g,0,none⟩) n n] (wi.alloc (.cells o 9)) Q:=by
 subst hg ho hX
 have h:=al1 wi (.cells (ss.map Value.string).toArray 9)
 exact(q.below h.1).go (f:=56) (fun h1 h2=>when56 d h1 hn (lit9 wi ss n hn hl) h2) K
end
def okL (x:Int):Prop:=(0≤x∧x≤54)∨x=104∨x=105∨x=108∨x=208∨x=308
theorem okL.kind {k n m:Int} {s:ByteArray} {l:Nat} (h:okL (lab k n m s l)):0≤k∧k≤54:=by
 unfold lab at h
 by_cases h8:k=8
 ·omega
 rw[if_neg h8] at h
 by_cases h4:k=4
 ·omega
 rw[if_neg h4] at h
 by_cases h5:k=5
 ·omega
 rw[if_neg h5] at h
 by_cases h12:k=12
 ·omega
 rw[if_neg h12] at h
 by_cases h100:100≤k
 ·rw[if_pos h100] at h
  unfold okL at h
  omega
 ·rw[if_neg h100] at h
  unfold okL at h
  omega
def RP (B:Nat) (w0:World) (wb f:Nat):Prop:=∀{w:World} {ts:List (List UInt8)} {kind pos n m:Int} {name:ByteArray} {kv:Value},Nw B w0 f (nodeC kind pos n m name kv).toList→okL (labOf (nodeC kind pos n m name kv).toList)→Pw B w0 w wb ts→(ts++tok f w0 (nodeC kind pos n m name kv).toList).length≤1099511627776→Calls Tryz.prog 14 #[.pointer (some ⟨wb,0,none⟩),.agg (nodeC kind pos n m name kv)] w (PP B w0 w wb ts (tok f w0 (nodeC kind pos n m name kv).toList))
structure NK (B:Nat) (w0:World) (f:Nat) (a:Option Addr) (ks:List (List Value)):Prop where
 row:NR B w0 f a ks
 ok:∀x∈ks,okL (labOf x)
section
variable{B:Nat} {w0 w:World} {wb f:Nat} {ts0:List (List UInt8)}
theorem pAll_step {k:Kd} {ks:List Kd} {i:Nat} (h:ks[i]? =some k):pAll (ks.drop i)=k.t++pAll (ks.drop (i+1)):=by
 have e:ks.drop i=k::ks.drop (i+1):=by
  rw[List.drop_eq_getElem_cons (List.getElem?_eq_some_iff.1 h).1,(List.getElem?_eq_some_iff.1 h).2]
 rw[e]
 simp[pAll]
set_option maxRecDepth 100000 in
set_option maxHeartbeats 1000000 in
theorem nodes46 (hR:RP B w0 wb f) {a:Option Addr} {c l:Nat} {ks:List (List Value)} (r:NK B w0 f a ks) (hl:ks.length=l) (h:Pw B w0 w wb ts0) (hf:(ts0++pAll (ks.map (kdAt f w0))).length≤1099511627776):Calls Tryz.prog 46 #[.pointer (some ⟨wb,0,none⟩),.slice a l c] w (PP B w0 w wb ts0 (pAll (ks.map (kdAt f w0)))):=by
 subst hl
 have H:Hid (NK B w0 f a ks):=r
 have Q0:Hid (Sp B w0 w wb ts0 [] (pAll ((ks.map (kdAt f w0)).drop 0)) w []):=(Sp.start h hf).as rfl
 have hfew:=r.row.few
 clear r h hf
 go_enter Tryz.func46,Tryz.ntmps46
 go_wp2_with fail
 go_loopg [8] ks.length (fun gg u wr=>∃(idx:Nat) (ts:List (List UInt8)),gg=ks.length - idx∧u=.int .i64 idx∧idx≤ks.length∧Hid (ts++pAll ((ks.map (kdAt f w0)).drop idx)=pAll (ks.map (kdAt f w0)))∧Hid (Sp B w0 w wb ts0 ts (pAll ((ks.map (kdAt f w0)).drop idx)) wr []))
 case atStart=>exact⟨0,[],rfl,rfl,Nat.zero_le _,(by show _=_;simp),Q0.out⟩
 case round=>
  obtain⟨idx,ts,hgk,rfl,hidx,HT,Q⟩:=hrel
  have HG:Hid (gk=ks.length - idx):=hgk
  clear hgk
  by_cases hlt:idx<ks.length
  ·have hltI:(idx:Int)<(ks.length:Int):=by omega
   obtain⟨x,hx⟩:∃x,ks[idx]? =some x:=⟨_,List.getElem?_eq_getElem hlt⟩
   obtain⟨g,o,rfl,hgB,hcell⟩:=H.out.row.cell idx x hx
   have hmem:=List.mem_of_getElem? hx
   obtain⟨kind,pos,n,m,name,ko,kl,kc,rfl,-,-⟩:=(H.out.row.all x hmem).fields
   have HX:Hid (Nw B w0 f (nodeC kind pos n m name (.slice ko kl kc)).toList∧okL (labOf (nodeC kind pos n m name (.slice ko kl kc)).toList)∧(ks.map (kdAt f w0))[idx]? =some (kdAt f w0 (nodeC kind pos n m name (.slice ko kl kc)).toList)):=⟨H.out.row.all _ hmem,H.out.ok _ hmem,by rw[List.getElem?_map,hx];rfl⟩
   have lift:∀j,j<11→wr.cell? ⟨g,o+idx*11+j,none⟩=(nodeC kind pos n m name (.slice ko kl kc)).toList[j]? :=fun j hj=>(Q.out.wr.bel.cell (p:=⟨g,o+idx*11+j,none⟩) hgB).trans (hcell j hj)
   have lg:g<wr.heap.size:=Nat.lt_of_lt_of_le hgB Q.out.wr.base
   have e0:=lift 0 (by decide)
   have e1:=lift 1 (by decide)
   have e2:=lift 2 (by decide)
   have e3:=lift 3 (by decide)
   have e4:=lift 4 (by decide)
   have e5:=lift 5 (by decide)
   have e6:=lift 6 (by decide)
   have e7:=lift 7 (by decide)
   have e8:=lift 8 (by decide)
   have e9:=lift 9 (by decide)
   have e10:=lift 10 (by decide)
   simp only[Nat.add_zero] at e0
   clear lift hcell hx hmem
   have q:=((Q.out.as (pAll_step HX.out.2.2)).box (nodeC kind pos n m name (.slice ko kl kc)))
   have HE:Hid (ts++(kdAt f w0 (nodeC kind pos n m name (.slice ko kl kc)).toList).t++pAll ((ks.map (kdAt f w0)).drop (idx+1))=pAll (ks.map (kdAt f w0))):=by show _=_;rw[List.append_assoc,←pAll_step HX.out.2.2];exact HT.out
   have F:=q.f1
   go_wp2_with (go_at_call 14;refine q.go (fun a1 a2=>hR HX.out.1 HX.out.2.1 a1 a2) ?_;clear q F;intro w1 q;have F:=q.f1)
   go_roundg (ks.length - (idx+1))
   case measure=>rw[HG.out];omega
   case rel=>exact⟨idx+1,_,rfl,by go_num,hlt,HE.out,q.pop⟩
  ·have hltI:¬(idx:Int)<(ks.length:Int):=by omega
   obtain rfl:idx=ks.length:=by omega
   go_wp2_with fail
   go_end0
   refine Q.out.done ?_
   have:=HT.out
   have e:pAll ((ks.map (kdAt f w0)).drop ks.length)=[]:=by rw[List.drop_of_length_le (by rw[List.length_map];exact Nat.le_refl _)];rfl
   rwa [e,List.append_nil] at this
set_option maxRecDepth 100000 in
set_option maxHeartbeats 1000000 in
theorem between57 (hR:RP B w0 wb f) (s:ByteArray) {a:Option Addr} {c l:Nat} {ks:List (List Value)} (r:NK B w0 f a ks) (hl:ks.length=l) (h:Pw B w0 w wb ts0) (hf:(ts0++pSep (tl s) (ks.map (kdAt f w0))).length≤1099511627776):Calls Tryz.prog 57 #[.pointer (some ⟨wb,0,none⟩),.string s,.slice a l c] w (PP B w0 w wb ts0 (pSep (tl s) (ks.map (kdAt f w0)))):=by
 subst hl
 have H:Hid (NK B w0 f a ks):=r
 have Q0:Hid (Sp B w0 w wb ts0 [] (pRest (tl s) (ks.map (kdAt f w0)) 0) w []):=(Sp.start h hf).as rfl
 have hfew:=r.row.few
 clear r h hf
 go_enter Tryz.func57,Tryz.ntmps57
 go_wp2_with fail
 go_loopg [10] ks.length (fun gg u wr=>∃(idx:Nat) (ts:List (List UInt8)),gg=ks.length - idx∧u=.int .i64 idx∧idx≤ks.length∧Hid (ts++pRest (tl s) (ks.map (kdAt f w0)) idx=pSep (tl s) (ks.map (kdAt f w0)))∧Hid (Sp B w0 w wb ts0 ts (pRest (tl s) (ks.map (kdAt f w0)) idx) wr []))
 case atStart=>exact⟨0,[],rfl,rfl,Nat.zero_le _,(by show _=_;simp[pRest]),Q0.out⟩
 case round=>
  obtain⟨idx,ts,hgk,rfl,hidx,HT,Q⟩:=hrel
  have HG:Hid (gk=ks.length - idx):=hgk
  clear hgk
  by_cases hlt:idx<ks.length
  ·have hltI:(idx:Int)<(ks.length:Int):=by omega
   obtain⟨x,hx⟩:∃x,ks[idx]? =some x:=⟨_,List.getElem?_eq_getElem hlt⟩
   obtain⟨g,o,rfl,hgB,hcell⟩:=H.out.row.cell idx x hx
   have hmem:=List.mem_of_getElem? hx
   obtain⟨kind,pos,n,m,name,ko,kl,kc,rfl,-,-⟩:=(H.out.row.all x hmem).fields
   have HX:Hid (Nw B w0 f (nodeC kind pos n m name (.slice ko kl kc)).toList∧okL (labOf (nodeC kind pos n m name (.slice ko kl kc)).toList)∧(ks.map (kdAt f w0))[idx]? =some (kdAt f w0 (nodeC kind pos n m name (.slice ko kl kc)).toList)):=⟨H.out.row.all _ hmem,H.out.ok _ hmem,by rw[List.getElem?_map,hx];rfl⟩
   have lift:∀j,j<11→wr.cell? ⟨g,o+idx*11+j,none⟩=(nodeC kind pos n m name (.slice ko kl kc)).toList[j]? :=fun j hj=>(Q.out.wr.bel.cell (p:=⟨g,o+idx*11+j,none⟩) hgB).trans (hcell j hj)
   have lg:g<wr.heap.size:=Nat.lt_of_lt_of_le hgB Q.out.wr.base
   have e0:=lift 0 (by decide)
   have e1:=lift 1 (by decide)
   have e2:=lift 2 (by decide)
   have e3:=lift 3 (by decide)
   have e4:=lift 4 (by decide)
   have e5:=lift 5 (by decide)
   have e6:=lift 6 (by decide)
   have e7:=lift 7 (by decide)
   have e8:=lift 8 (by decide)
   have e9:=lift 9 (by decide)
   have e10:=lift 10 (by decide)
   simp only[Nat.add_zero] at e0
   clear lift hcell hx hmem
   rcases Nat.eq_zero_or_pos idx with h0|h0
   ·subst h0
    simp only[Nat.zero_mul,Nat.add_zero] at e0 e1 e2 e3 e4 e5 e6 e7 e8 e9 e10
    have q:=((Q.out.as ((pRest_zero HX.out.2.2).trans (show _=pWhen false [tl s]++((kdAt f w0 (nodeC kind pos n m name (.slice ko kl kc)).toList).t++pRest (tl s) (ks.map (kdAt f w0)) 1) from rfl))).box (nodeC kind pos n m name (.slice ko kl kc)))
    have HE:Hid (ts++pWhen false [tl s]++(kdAt f w0 (nodeC kind pos n m name (.slice ko kl kc)).toList).t++pRest (tl s) (ks.map (kdAt f w0)) 1=pSep (tl s) (ks.map (kdAt f w0))):=by show _=_;rw[←HT.out,pRest_zero HX.out.2.2];simp[pWhen]
    have F:=q.f1
    go_wp2_with (first|(go_at_call 14;refine q.go (fun a1 a2=>hR HX.out.1 HX.out.2.1 a1 a2) ?_;clear q F;intro w2 q;have F:=q.f1)|(go_at_call 56;refine q.when (ss:=[s]) ?_;clear q F;intro w1 q;have F:=q.f1))
    go_roundg (ks.length - (0+1))
    case measure=>rw[HG.out];omega
    case rel=>exact⟨0+1,_,rfl,by go_num,hlt,HE.out,q.pop⟩
   ·have hI:(0:Int)<(idx:Int):=by omega
    have q:=((Q.out.as ((pRest_succ h0 HX.out.2.2).trans (show _=pWhen true [tl s]++((kdAt f w0 (nodeC kind pos n m name (.slice ko kl kc)).toList).t++pRest (tl s) (ks.map (kdAt f w0)) (idx+1)) from rfl))).box (nodeC kind pos n m name (.slice ko kl kc)))
    have HE:Hid (ts++pWhen true [tl s]++(kdAt f w0 (nodeC kind pos n m name (.slice ko kl kc)).toList).t++pRest (tl s) (ks.map (kdAt f w0)) (idx+1)=pSep (tl s) (ks.map (kdAt f w0))):=by show _=_;rw[←HT.out,pRest_succ h0 HX.out.2.2];simp[pWhen]
    have F:=q.f1
    go_wp2_with (first|(go_at_call 14;refine q.go (fun a1 a2=>hR HX.out.1 HX.out.2.1 a1 a2) ?_;clear q F;intro w2 q;have F:=q.f1)|(go_at_call 56;refine q.when (ss:=[s]) ?_;clear q F;intro w1 q;have F:=q.f1))
    go_roundg (ks.length - (idx+1))
    case measure=>rw[HG.out];omega
    case rel=>exact⟨idx+1,_,rfl,by go_num,hlt,HE.out,q.pop⟩
  ·have hltI:¬(idx:Int)<(ks.length:Int):=by omega
   obtain rfl:idx=ks.length:=by omega
   go_wp2_with fail
   go_end0
   refine Q.out.done ?_
   have:=HT.out
   have e:pRest (tl s) (ks.map (kdAt f w0)) ks.length=[]:=by have:=pRest_end (s:=tl s) (ks:=ks.map (kdAt f w0));rwa [List.length_map] at this
   rwa [e,List.append_nil] at this
set_option maxRecDepth 100000 in
set_option maxHeartbeats 1000000 in
theorem row58 (hR:RP B w0 wb f) (s z:ByteArray) {a:Option Addr} {c l:Nat} {ks:List (List Value)} (r:NK B w0 f a ks) (hl:ks.length=l) (h:Pw B w0 w wb ts0) (hf:(ts0++pRow (tl s) (tl z) (ks.map (kdAt f w0))).length≤1099511627776):Calls Tryz.prog 58 #[.pointer (some ⟨wb,0,none⟩),.string s,.string z,.slice a l c] w (PP B w0 w wb ts0 (pRow (tl s) (tl z) (ks.map (kdAt f w0)))):=by
 have q:=(Sp.start h hf).as (rest':=tl s::(pSep [44] (ks.map (kdAt f w0))++[tl z])) rfl
 have H:Hid (NK B w0 f a ks∧ks.length=l):=⟨r,hl⟩
 clear r h hf hl
 go_enter Tryz.func58,Tryz.ntmps58
 go_wp2_with (first
  |(go_at_call 47;refine q.put (s:=z) ?_;clear q;intro w3 q)
  |(go_at_call 57;refine q.go (fun a1 a2=>between57 hR ⟨#[44]⟩ H.out.1 H.out.2 a1 a2) ?_;clear q;intro w2 q)
  |(go_at_call 47;refine q.put (s:=s) ?_;clear q;intro w1 q))
 go_end0
 exact q.done (by simp[pRow])
set_option maxRecDepth 100000 in
set_option maxHeartbeats 1000000 in
theorem angles55 (hR:RP B w0 wb f) {a:Option Addr} {c l:Nat} {ks:List (List Value)} (r:NK B w0 f a ks) (hl:ks.length=l) (h:Pw B w0 w wb ts0) (hf:(ts0++pAng (ks.map (kdAt f w0))).length≤1099511627776):Calls Tryz.prog 55 #[.pointer (some ⟨wb,0,none⟩),.slice a l c] w (PP B w0 w wb ts0 (pAng (ks.map (kdAt f w0)))):=by
 have q:=Sp.start h hf
 have H:Hid (NK B w0 f a ks∧ks.length=l):=⟨r,hl⟩
 rcases Nat.eq_zero_or_pos l with h0|h0
 ·have hI:¬(0:Int)<(l:Int):=by omega
  have HE:Hid ([]=pAng (ks.map (kdAt f w0))):=by show _=_;rw[pAng,if_pos (by rw[List.length_map,hl,h0])]
  clear r h hf hl
  go_enter Tryz.func55,Tryz.ntmps55
  go_wp2_with fail
  go_end0
  exact q.done HE.out
 ·have hI:(0:Int)<(l:Int):=by omega
  have e:pAng (ks.map (kdAt f w0))=pRow [60] [62] (ks.map (kdAt f w0))++[]:=by rw[pAng,if_neg (by rw[List.length_map,hl];omega),List.append_nil]
  rw[e] at q⊢
  clear r h hf hl e
  go_enter Tryz.func55,Tryz.ntmps55
  go_wp2_with (go_at_call 58;refine q.go (fun a1 a2=>row58 hR ⟨#[60]⟩ ⟨#[62]⟩ H.out.1 H.out.2 a1 a2) ?_;clear q;intro w2 q)
  go_end0
  exact q.done (by simp)
end
end Go.Proofs.YtagdihffmjopaaaGreatDoor
