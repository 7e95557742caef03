import Derived.Test.YtdghkacbpebcoaaGreatS02
namespace Go.Proofs.YtdghkacbpebcoaaGreat
open Go.RowKit
open Value renaming slice→J
open List renaming length→O
open Option renaming none→I
open World renaming heap→U
open _root_.Array renaming size→E
open Obj renaming cells→Ob
set_option linter.all false
set_option maxRecDepth 100000
set_option maxHeartbeats 0
section
variable{base e i n size:Nat} {P:Nat->Prop} {ao:OA} {v:Value} {w w':World}
structure Nm where
 name:ByteArray
 sort:Int
 n:Int
 eZ:Bool
def Nm.c (x:Nm):List Value:=[.string x.name,vN x.sort,vN x.n,.bool x.eZ]
structure Md where
 name:ByteArray
 ao:OA
 cp:Nat
 ns:List Nm
 own:Nat
def Md.c (m:Md):List Value:=[.string m.name,J m.ao (O m.ns) m.cp,vN m.own]
theorem rC {us:VV} (b:∀x∈us,O x=size):∀{idx:Nat} {x:List Value},us[idx]? =some x->∀a,a<size->us.flatten[idx*size+a]? =x[a]? :=by
 induction us with
 |nil=>intro idx x h;simp at h
 |cons c m d=>
  intro idx x h a f;have j:=b c (List.mem_cons_self ..);rw[List.flatten_cons]
  cases idx with
  |zero=>
   obtain rfl:c=x:=sU h;rw[List.getElem?_append_left oM];congr 1
   omega
  |succ idx=>
   have e:(idx+1)*size=idx*size+size:=by rw[Nat.add_mul,Nat.one_mul]
   rw[List.getElem?_append_right oM,j];have:=d (λk l=>b k (List.mem_cons_of_mem _ l)) (idx:=idx) (x:=x) (sU h) a f;rw[<-this];congr 1
   omega
theorem aP {vs:VV} (h:w.ownsRow base e size v n vs.flatten) (d:O vs=n) (hl:∀x∈vs,O x=size) {x:List Value} (b:vs[i]? =some x):∃g f,v=J (aS g) n f/\g<E (U w)/\base<=g/\∀a,a<size->w.cell? ⟨g,i*size+a,I⟩=x[a]? :=by
 subst d;have j:i<O vs:=(gS b).1;rcases h.2 with⟨c,o⟩|⟨g,cap,cur,c,hb,hg,hnc,hcm,hcs,htake⟩
 ·omega
 ·refine⟨g,cap,c,(gE hg).1,hb,λa k=>?_⟩
  have l:i*size+a<O vs*size:=by
   have:(i+1)*size<=O vs*size:=Nat.mul_le_mul_right _ j;rw[Nat.add_mul] at this;omega
  have m:(cur.toList.take (O vs*size))[i*size+a]? =cur[i*size+a]? :=by rw[List.getElem?_take,if_pos l];simp
  rw[cell_of_row w g (i*size+a) cur e (0,0) hg,<-m,htake,rC hl b a k]
def KT (P:Nat->Prop) (w w':World):Prop:=∀(b:Nat) (c:Array Value) (t:TypeId) (z:Nat × Nat),w.heap[b]? =some (Obj.cells c t z)->P t->w'.heap[b]? =w.heap[b]?
theorem KT.below (h:Below (E (U w)) w w'):KT P w w':=λa _ _ _ b _=>h.block a (gE b).1
theorem KT.trans {a b c:World} (h:KT P a b) (o:KT P b c):KT P a c:=λd f j k l m=>(o d f j k ((h d f j k l m).trans l) m).trans (h d f j k l m)
theorem KT.mono {a:Nat->Prop} (h:KT P w w') (b:∀t,a t->P t):KT a w w':=λc d t f j k=>h c d t f j (b t k)
theorem ag {xs:List Value} (h:w.ownsRow base e size v n xs) (c:KT P w w') (d:P e):w'.ownsRow base e size v n xs:=
 ah h (λf a j=>by
  rcases h.2 with⟨b,k⟩|⟨g,cap,cur,b,hbb,hg,_⟩
  ·rw[b] at a;simp[Value.ownBlock] at a
  ·rw[b] at a;obtain rfl:g=f:=by simpa[Value.ownBlock] using a
   exact c g _ _ _ hg d)
structure di (w:World) (v:Value) (ms:List Md):Prop where
 row:w.ownsRow 0 102 3 v (O ms) (ms.map Md.c).flatten
 bj:O ms<=20000
 names:∀m∈ms,w.ownsRow 0 104 4 (J m.ao (O m.ns) m.cp) (O m.ns) (m.ns.map Nm.c).flatten/\m.own<=O m.ns/\O m.ns<=30000
section
variable{w w':World} {v:Value} {ms:List Md}
theorem di.kt (h:di w v ms) (a:KT P w w') (d:P 102) (f:P 104):di w' v ms:=
 ⟨ag h.row a d,h.bj,λb c=>⟨ag (h.names b c).1 a f,(h.names b c).2⟩⟩
theorem di.below (h:di w v ms) (a:Below (E (U w)) w w'):di w' v ms:=h.kt (P:=λ_=>True) (KT.below a) trivial trivial
theorem di.len {c:Nat} (h:di w (J ao n c) ms):n=O ms:=by
 rcases h.row.2 with⟨a,b⟩|⟨g,cap,cur,a,_⟩
 ·simp at a;omega
 ·simp at a;exact a.2.1
theorem di.nth (h:di w v ms) {m:Md} (c:ms[i]? =some m):∃g a,v=J (aS g) (O ms) a/\g<E (U w)/\w.cell? ⟨g,i*3,I⟩=some (.string m.name)/\w.cell? ⟨g,i*3+1,I⟩=some (J m.ao (O m.ns) m.cp)/\w.cell? ⟨g,i*3+2,I⟩=some (vN m.own):=by
 obtain⟨g,a,e,d,_,b⟩:=aP h.row sQ (λx f=>by obtain⟨j,_,rfl⟩:=List.mem_map.1 f;rfl) (i:=i) (x:=m.c) (by rw[List.getElem?_map,c];rfl);exact⟨g,a,e,d,b 0 dC,b 1 dC,b 2 dC⟩
theorem lU {c:Nat} {a:List Nm} (h:w.ownsRow 0 104 4 (J ao (O a) c) (O a) (a.map Nm.c).flatten) {m:Nm} (d:a[i]? =some m):∃g,ao=some ⟨g,0,I⟩/\g<E (U w)/\w.cell? ⟨g,i*4,I⟩=some (.string m.name)/\w.cell? ⟨g,i*4+1,I⟩=some (vN m.sort)/\w.cell? ⟨g,i*4+2,I⟩=some (vN m.n)/\w.cell? ⟨g,i*4+3,I⟩=some (.bool m.eZ):=by
 obtain⟨g,f,e,j,_,b⟩:=aP h sQ (λx k=>by obtain⟨l,_,rfl⟩:=List.mem_map.1 k;rfl) (i:=i) (x:=m.c) (by rw[List.getElem?_map,d];rfl);obtain⟨rfl,rfl⟩:ao=some ⟨g,0,I⟩/\c=f:=sU e;exact⟨g,Q,j,b 0 dC,b 1 dC,b 2 dC,b 3 dC⟩
end
theorem al1 (w:World) (a:Obj):Below (E (U w)) w (w.alloc a)/\(w.alloc a).heap[E (U w)]? =some a:=⟨(Below.refl _ _).alloc (lR _) _,heap_alloc_new _ _⟩
theorem dW (w:World) (a b:Obj):Below (E (U w)) w ((w.alloc a).alloc b)/\((w.alloc a).alloc b).heap[E (U w)]? =some a/\((w.alloc a).alloc b).heap[E (U w)+1]? =some b:=by
 have h:=al1 w a;have e:E (U (w.alloc a))=E (U w)+1:=sQ;refine⟨h.1.alloc oM _,(Below.heap_alloc _ _ _ oM).trans h.2,?_⟩;rw[<-e];exact heap_alloc_new _ _
theorem mZ (w:World) (a b c:Obj):Below (E (U w)) w (((w.alloc a).alloc b).alloc c)/\(((w.alloc a).alloc b).alloc c).heap[E (U w)]? =some a/\(((w.alloc a).alloc b).alloc c).heap[E (U w)+1]? =some b/\(((w.alloc a).alloc b).alloc c).heap[E (U w)+2]? =some c:=by
 have h:=dW w a b;have e:E (U ((w.alloc a).alloc b))=E (U w)+2:=sQ;refine⟨h.1.alloc oM _,(Below.heap_alloc _ _ _ oM).trans h.2.1,(Below.heap_alloc _ _ _ oM).trans h.2.2,?_⟩;rw[<-e];exact heap_alloc_new _ _
abbrev eL (mv dv tv iv fv:Value) (mn:Int) (rv:Value):Array Value:=#[mv,dv,tv,iv,fv,vN mn,rv]
theorem kP {mo:OA} {ml mc:Nat} {ms:List Md} (c:di w (J mo ml mc) ms) (j k l m o:Value) (p:Int) (x:ByteArray):
 Calls Tryz.prog 38 #[.agg (eL (J mo ml mc) j k l m p o),.string x] w (λe w'=>∃f:Int,e=.returned (vN f)/\(-1<=f/\f<O ms)/\Below (E (U w)) w w'):=by
 obtain rfl:=c.len;have F:=c.bj;have y:Hid (di w (J mo (O ms) mc) ms):=c;clear c;have z:Below (E (U w)) w (w.alloc (Ob (eL (J mo (O ms) mc) j k l m p o) 29)):=(Below.refl _ _).alloc (lR _) _;go_enter Tryz.func38,Tryz.ntmps38
 go_wp2_with fail;go_loopg [5,6,10] (O ms) (λA _ _ B wr=>∃a:Nat,A=O ms - a/\B=vN a/\a<=O ms/\Below (E (U w)) w wr)
 case atStart=>exact⟨0,Q,Q,zL _,z⟩
 case round=>
  obtain⟨a,q,rfl,G,d⟩:=hrel;have C:Hid (gk=O ms - a):=q;clear q;by_cases r:a<O ms
  ·obtain⟨b,s⟩:∃b,ms[a]? =some b:=⟨_,gG r⟩;obtain⟨g,D,e,H,K,L,M⟩:=(y.out.below d).nth s;obtain⟨rfl,rfl⟩:mo=some ⟨g,0,I⟩/\mc=D:=sU e;clear e s;have t:(a:Int)<(O ms:Int):=oM;have u:Below (E (U w)) w (wr.alloc (Ob #[.string b.name,J b.ao (O b.ns) b.cp,vN b.own] 102)):=d.alloc d.size _;go_wp2_with fail
   ·go_ret;exact⟨a,Q,oM,u⟩
   ·go_roundg (O ms - (a+1))
    case measure=>rw[C.out];omega
    case rel=>exact⟨a+1,Q,by go_num,r,u⟩
  ·have t:¬(a:Int)<(O ms:Int):=oM;have N:decide ((a:Int)<(O ms:Int))=false:=sU t;go_wp2_with fail;go_ret;exact⟨-1,Q,oM,d⟩
theorem qh {g b:Nat} {k p n m:Int} {s:ByteArray} (h:∀j,j<11->w.cell? ⟨g,b+j,I⟩=(ae k p n m s v).toList[j]?):w.cell? ⟨g,b,I⟩=some (vN k)/\w.cell? ⟨g,b+1,I⟩=some (vN p)/\w.cell? ⟨g,b+2,I⟩=some (vN n)/\w.cell? ⟨g,b+3,I⟩=some (vN m)/\w.cell? ⟨g,b+4,I⟩=some (.string s)/\w.cell? ⟨g,b+5,I⟩=some v/\w.cell? ⟨g,b+6,I⟩=some (vN 0)/\w.cell? ⟨g,b+7,I⟩=some (vN 0)/\w.cell? ⟨g,b+8,I⟩=some (J I 0 0)/\w.cell? ⟨g,b+9,I⟩=some (J I 0 0)/\w.cell? ⟨g,b+10,I⟩=some (J I 0 0):=⟨h 0 dC,h 1 dC,h 2 dC,h 3 dC,h 4 dC,h 5 dC,h 6 dC,h 7 dC,h 8 dC,h 9 dC,h 10 dC⟩
end
section
variable{a:Act} {xs ys:List Value} {base n:Nat} {v xv:Value} {W:World}
structure App (W:World) (base el size:Nat) (v:Value) (n:Nat) (xs ys:List Value) (k:Nat) (v':Value) (w':World):Prop where
 shape:∃ao cp,v'=J ao (n+k) cp
 row:w'.ownsRow base el size v' (n+k) (xs++ys)
 grown:W.grownBy w' v.ownBlock
 own:v'.ownBlock=v.ownBlock\/v'.ownBlock=some (E (U W))
section
variable{W w w':World} {base el size n k:Nat} {v v':Value} {xs ys:List Value}
theorem App.below (h:App W base el size v n xs ys k v' w') {d:Nat} (c:Below d w W) (l:d<=E (U W)) (f:∀b,v.ownBlock=some b->d<=b):Below d w w':=
 ⟨h.grown.os.trans c.os,h.grown.tape.trans c.tape,h.grown.output.trans c.output,lT c.size h.grown.size,λe i=>(h.grown.block e oM (λj=>oH (f e j.symm))).trans (c.block e i)⟩
theorem App.dA (h:App W base el size v n xs ys k v' w') {b:Nat} {o:Obj} (c:W.heap[b]? =some o) (d:v.ownBlock≠some b):w'.heap[b]? =some o:=(h.grown.block b (gE c).1 (λe=>d e.symm)).trans c
end
section
variable{sl el size bytes:Nat} {z:Value}
theorem fj (f:Tryz.prog.underlying sl=some (.slice el)) (j:(Tryz.prog.info? el).map (λi=>(i.zero,i.size,i.bytes))=some (some z,size,bytes)) (l:z.cells.size=size) (m:0<size) (h:W.ownsRow base el size v n xs) (R:base<=E (U W)) (cs:Array Value) (o:cs.size=size) (one:∀u∈cs.toList,u.oneCell'=true) (p:n+1<=maxLen) (q:(n+1)*bytes<=140737488355328) (c:TypeId) {ad:Nat} (r:ad=E (U W)):
 ∃v' w',(Builtin.append_ #[sl,sl] c #[v,J (aS ad) 1 1]).run Tryz.prog (W.alloc (Ob cs el))=.ok v' w'/\App (W.alloc (Ob cs el)) base el size v n xs cs.toList 1 v' w':=by
 subst r;obtain⟨s,t,A,B,C⟩:=info_parts j;have D:(W.alloc (Ob cs el)).ownsRow base el size v n xs:=ah h (λS _ F=>Below.heap_alloc _ _ _ F)
 have G:∀b u,cs.toList[b]? =some u->(W.alloc (Ob cs el)).cell? ((⟨E (U W),0,I⟩:Addr).add b)=some u:=by
  intro b u H;have K:(⟨E (U W),0,I⟩:Addr).add b=⟨E (U W),b,I⟩:=by unfold Addr.add;split<;>simp_all
  rw[K,cell_of_row _ (E (U W)) b cs el (0,0) (heap_alloc_new W _)];simpa using H
 obtain⟨v',w',L,d,M,_,N⟩:=run_append_own_at (P:=Tryz.prog) (W.alloc (Ob cs el)) base sl c el s z size bytes f t A B C l m v n xs D ⟨E (U W),0,I⟩ 1 1 cs.toList (by simp[o]) G one p q (by simp;omega);refine⟨v',w',L,⟨?_,d,M,N⟩⟩;rcases d.2 with⟨e,T⟩|⟨x,y,zz,e,_⟩
 ·omega
 ·exact⟨_,_,e⟩
theorem zh (l:Tryz.prog.underlying sl=some (.slice el)) (q:(Tryz.prog.info? el).map (λi=>(i.zero,i.size,i.bytes))=some (some z,size,bytes)) (r:z.cells.size=size) (s:0<size) (h:W.ownsRow base el size v n xs) (t:base<=E (U W)) {base':Nat} {x:Value} {m:Nat} (c:W.ownsRow base' el size x m ys) (one:∀u∈ys,u.oneCell'=true) (A:n+m<=maxLen) (B:(n+m)*bytes<=140737488355328) (e:TypeId):
 ∃v' w',(Builtin.append_ #[sl,sl] e #[v,x]).run Tryz.prog W=.ok v' w'/\App W base el size v n xs ys m v' w':=by
 obtain⟨o,p,C,D,F⟩:=info_parts q;rcases c.2 with⟨f,d⟩|⟨g,cap,cur,f,hbb,hg,hnc,hcm,hcs,htake⟩
 ·subst f d;have G:ys=[]:=by have:=c.1;rw[Nat.zero_mul] at this;exact List.eq_nil_of_length_eq_zero this
  subst G;refine⟨v,W,run_append_owned_none (P:=Tryz.prog) (w:=W) base sl e el o size l p v n xs h,⟨?_,sU h,⟨Q,Q,Q,lR _,λ_ _ _=>rfl⟩,.inl Q⟩⟩;rcases h.2 with⟨b,j⟩|⟨x,y,zz,b,_⟩
  ·exact⟨I,0,by rw[b,j]⟩
  ·exact⟨_,_,b⟩
 ·subst f;obtain⟨v',w',H,d,K,_,L⟩:=run_append_own_at (P:=Tryz.prog) W base sl e el o z size bytes l p C D F r s v n xs h ⟨g,0,I⟩ m cap ys c.1 (c.cells Q) one A B t;refine⟨v',w',H,⟨?_,d,K,L⟩⟩;rcases d.2 with⟨b,j⟩|⟨x,y,zz,b,_⟩
  ·exact⟨I,0,by rw[b,j]⟩
  ·exact⟨_,_,b⟩
theorem bG {c:Array Oper} {d:List Oper} {o:Oper} {e:Exit->Act->World->Prop} (sl:Nat) (f:o.guard=I) {s x:Operand} (i:o.op=.call {callee:=.builtin .append,args:=#[s,x],argTypes:=#[sl,sl]}) (j:a.eval s=v) (l:a.eval x=xv) {R:Value->World->Prop}
 (b:∃v' w',(Builtin.append_ #[sl,sl] o.type #[v,xv]).run Tryz.prog W=.ok v' w'/\R v' w') (h:∀v' w',R v' w'->wpList Tryz.prog c e d (a.put o.dst v') w'):wpList Tryz.prog c e (o::d) a W:=by
  refine wpList_plain f λp hK=>?_;obtain⟨v',w',b,m⟩:=b;unfold Oper.wp execOp;simp only[i,resolve,invoke,builtin,Sem.run_bind,Sem.run_pure,Result.andThen_ok,List.map_toArray,List.map_cons,List.map_nil,j,l,b];exact hK _ _ (h v' w' m)
theorem bg {c:Array Oper} {o:Oper} {K:Act->World->Prop} {d:Exit->Act->World->Prop} {e:Prop} (sl:Nat) (f:o.guard=I) {s x:Operand} (i:o.op=.call {callee:=.builtin .append,args:=#[s,x],argTypes:=#[sl,sl]}) (j:a.eval s=v) (l:a.eval x=xv) {R:Value->World->Prop}
 (b:∃v' w',(Builtin.append_ #[sl,sl] o.type #[v,xv]).run Tryz.prog W=.ok v' w'/\R v' w') (h:∀v' w',R v' w'->K (a.put o.dst v') w'):if Region.wanted o (yielded c a.tmps)=true then Oper.wp Tryz.prog o a W K d else e:=by
  have m:Region.wanted o (yielded c a.tmps)=true:=by simp[Region.wanted,f]
  rw[if_pos m];obtain⟨v',w',b,p⟩:=b;unfold Oper.wp execOp;simp only[i,resolve,invoke,builtin,Sem.run_bind,Sem.run_pure,Result.andThen_ok,List.map_toArray,List.map_cons,List.map_nil,j,l,b];exact h v' w' p
end
theorem rf:(Tryz.prog.info? 3).map (λb=>(b.zero,b.size,b.bytes))=some (some (vN 0),1,8):=by kernel_rfl
theorem tL:(Tryz.prog.info? 9).map (λb=>(b.zero,b.size,b.bytes))=some (some (.string ⟨#[]⟩),1,16):=by kernel_rfl
end
section
variable{act:Act} {c:Array Value} {fn:Func} {b r s z:Nat} {d0 d1 d2 d3 u:Value} {W w:World}
abbrev dF (x:Nm):Array Value:=#[.string x.name,vN x.sort,vN x.n,.bool x.eZ]
abbrev gJ:Nm:=⟨⟨#[]⟩,0,0,false⟩
def wQ (w:World) (ns:List Nm) (x:ByteArray) (e:Ending) (w':World):Prop:=
 ∃(r:Nm) (b:Bool),e=.returned (.tuple #[.agg (dF r),.bool b])/\(b=true->r∈ns/\r.name.toList=x.toList)/\(b=false->r=gJ/\∀y∈ns,y.name.toList≠x.toList)/\Below (E (U w)) w w'
def bx (w:World) (b:Nat) (c:Array Value):Prop:=w.heap[b]? =some (Ob c 104 (0,0))
theorem bx.cell (h:bx w b c) (o:Nat):w.cell? ⟨b,o,I⟩=c[o]? :=cell_of_row w b o c 104 (0,0) h
theorem bx.fz (h:bx w b c) (o:Nat):w.frozen? ⟨b,o,I⟩=false:=frozen_of_row w b o c 104 h
theorem bx.lt (h:bx w b c):b<E (U w):=(gE h).1
abbrev cM (w:World) (b:Nat) (c0 c1 c2 c3:Value):World:=(((w.setCell ⟨b,0,I⟩ c0).setCell ⟨b,1,I⟩ c1).setCell ⟨b,2,I⟩ c2).setCell ⟨b,3,I⟩ c3
theorem bx.set (h:bx w b c) (o:Nat) (u:Value):bx (w.setCell ⟨b,o,I⟩ u) b (c.setIfInBounds o u):=heap_setCell_same w b o c 104 u h
theorem bx.bQ (h:bx w b #[d0,d1,d2,d3]) (c0 c1 c2 c3:Value):bx (cM w b c0 c1 c2 c3) b #[c0,c1,c2,c3]:=by
 have a:bx (w.setCell ⟨b,0,I⟩ c0) b #[c0,d1,d2,d3]:=h.set 0 c0;have d:bx ((w.setCell ⟨b,0,I⟩ c0).setCell ⟨b,1,I⟩ c1) b #[c0,c1,d2,d3]:=a.set 1 c1;have e:bx (((w.setCell ⟨b,0,I⟩ c0).setCell ⟨b,1,I⟩ c1).setCell ⟨b,2,I⟩ c2) b #[c0,c1,c2,d3]:=d.set 2 c2;exact e.set 3 c3
theorem Below.cM {e:Nat} {a:World} (h:Below e a w) (d:e<=b) (c0 c1 c2 c3:Value):Below e a (Go.Proofs.YtdghkacbpebcoaaGreat.cM w b c0 c1 c2 c3):=
 Below.setCell (p:=⟨b,3,I⟩) (Below.setCell (p:=⟨b,2,I⟩) (Below.setCell (p:=⟨b,1,I⟩) (Below.setCell (p:=⟨b,0,I⟩) h d _) d _) d _) d _
theorem kK (d:fn.results=#[.cell r 104,.tmp s]) {a:Array Value} (e:a.getD r undef=.pointer (aS b)) (f:a.getD s undef=u) {c0 c1 c2 c3:Value} (i:bx W b #[c0,c1,c2,c3]):
 (results fn a).run Tryz.prog W=.ok (.tuple #[.agg #[c0,c1,c2,c3],u]) W:=by
 have j:=i.cell;have k:a[r]?.getD undef=.pointer (aS b):=sU e;have l:a[s]?.getD undef=u:=sU f;simp[results,d,k,l,go_sem,j]
theorem gV (e:fn.results=#[.cell r 104,.tmp s]) (f:act.defers=[]) (i:act.tmps.getD r undef=.pointer (aS z)) (j:bx W z #[d0,d1,d2,d3]) (k:E (U w)<=z) (l:Below (E (U w)) w W) (m:act.tmps.getD s undef=u) (a:Nm) {d:Ending->World->Prop}
 (h:∀w',Below (E (U w)) w w'->d (.returned (.tuple #[.agg (dF a),u])) w'):bodyPost Tryz.prog fn d .ret act (cM W z (.string a.name) (vN a.sort) (vN a.n) (.bool a.eZ)):=
  bodyPost_ret (kK e i m (bx.bQ j _ _ _ _)) f (h _ (Below.cM l k _ _ _ _))
theorem mz (e:fn.results=#[.cell r 104,.tmp s]) (f:act.defers=[]) (i:act.tmps.getD r undef=.pointer (aS z)) (a:Nm) (j:bx W z (dF a)) (k:Below (E (U w)) w W) (l:act.tmps.getD s undef=u) {d:Ending->World->Prop}
 (h:∀w',Below (E (U w)) w w'->d (.returned (.tuple #[.agg (dF a),u])) w'):bodyPost Tryz.prog fn d .ret act W:=
  bodyPost_ret (kK e i l j) f (h _ k)
theorem pR {mo:OA} {ml mc:Nat} {ms:List Md} (o:di w (J mo ml mc) ms) (C D F G H:Value) (K:Int) {i:Nat} {m:Md} (p:ms[i]? =some m) (x:ByteArray):
 Calls Tryz.prog 42 #[.agg (eL (J mo ml mc) C D F G K H),vN i,.string x] w (wQ w (m.ns.take m.own) x):=by
 obtain rfl:=o.len;have ap:=o.bj;have aq:i<O ms:=(gS p).1;have ar:(i:Int)<(O ms:Int):=oM;obtain⟨t,Z,aa⟩:=o.names m (mG p);obtain⟨g,c,j,ab,L,M,N⟩:=o.nth p;obtain⟨rfl,rfl⟩:mo=some ⟨g,0,I⟩/\mc=c:=sU j;clear j p o;obtain⟨R,v,y,f,d⟩:=m;simp only at t Z aa L M N⊢;have ac:Hid (w.ownsRow 0 104 4 (J v (O f) y) (O f) (f.map Nm.c).flatten):=t;clear t;go_enter Tryz.func42,Tryz.ntmps42
 go_wp2_with fail;go_loopg [9] d (λad u wr=>∃a:Nat,ad=d - a/\u=vN a/\a<=d/\(∀e∈f.take a,e.name.toList≠x.toList)/\Below (E (U w)) w wr/\bx wr (E (U w)+1) (dF gJ)/\wr.heap[E (U w)+2]? =some (Ob #[.string R,J v (O f) y,vN d] 102 (0,0)))
 case atStart=>
  obtain⟨ae,au,af,ah⟩:=mZ w (Ob (eL (J (aS g) (O ms) mc) C D F G K H) 29) (Ob (dF gJ) 104) (Ob #[.string R,J v (O f) y,vN d] 102);exact⟨0,Q,Q,zL _,λe k=>by simp at k,ae,af,ah⟩
 case round=>
  obtain⟨a,S,rfl,av,T,q,l,A⟩:=hrel;have ai:Hid (gk=d - a):=S;have V:Hid (∀e∈f.take a,e.name.toList≠x.toList):=T;clear S T L M N ab;have aw:=λaj=>cell_of_row wr _ aj _ 102 (0,0) A;have ax:E (U w)+2<E (U wr):=(gE A).1;have ay:=l.cell;have az:=l.fz;have aA:=l.lt;by_cases X:a<d
  ·obtain⟨e,k⟩:∃e,f[a]? =some e:=⟨_,gG oM⟩;obtain⟨aB,rfl,aC,aD,aE,aF,aG⟩:=lU (ag ac.out (KT.below (P:=λ_=>True) q) trivial) k;have ak:Hid (f[a]? =some e):=k;have al:Hid (e∈f.take d):=mG (i:=a) (by rw[List.getElem?_take,if_pos X];exact k);clear k;have Y:(a:Int)<(d:Int):=oM;have aH:(a:Int)<(O f:Int):=oM;go_wp2_with fail
   ·go_light;exact gV Tryz.results42 Q Q l oM q Q e (λao B=>⟨e,true,Q,λ_=>⟨al.out,by have:= ‹(e.name.toList==x.toList)=true›;simpa using this⟩,λj=>absurd j dC,B⟩)
   ·go_roundg (d - (a+1))
    case measure=>rw[ai.out];omega
    case rel=>
     refine⟨a+1,Q,by go_num,X,?_,q,l,A⟩;intro z n;rw[List.take_add_one,ak.out] at n;rcases List.mem_append.1 n with n|n
     ·exact V.out z n
     ·obtain rfl:z=e:=sU n;have:= ‹(z.name.toList==x.toList)=false›;simpa using this
  ·have Y:¬(a:Int)<(d:Int):=oM;have aI:decide ((a:Int)<(d:Int))=false:=sU Y;go_wp2_with fail;go_light;obtain rfl:a=d:=oM;exact gV Tryz.results42 Q Q l oM q Q gJ (λao B=>⟨gJ,false,Q,λj=>absurd j dC,λ_=>⟨Q,V.out⟩,B⟩)
end
theorem zg {f:Nat} (l:eS 113 14 f):eS 110 15 (f+1):=by
 intro w B C D d b u F h m;have G:=h.l;have n:Hid (Bd (f+1) b d u 15):=m;clear m;have H:(0:Int)<=(b.pos d:Int)/\(b.pos d:Int)<=7000:=oH (h.ar.aQ d);go_enter Tryz.func110,Tryz.ntmps110
 have a:=Mz.start (wt:=1) h;go_wp2_with fail;replace a:=a.ne' (sz w) (aB);refine a.nd (l · (n.out.down a.le a.ok dC)) ?_;clear a;intro i j e K L M _ a;have c:=a.f1;have v:(0:Int)<=(b.pos e:Int)/\(b.pos e:Int)<=7000:=oH (h.ar.aQ e);go_wp2_with fail;refine(jZ ((a.ne' (sz i) j.a).alloc _).st.rd [⟨#[61,61]⟩,⟨#[33,61]⟩,⟨#[60,61]⟩,⟨#[62,61]⟩,⟨#[60]⟩,⟨#[62]⟩] (sb:=(sz i)+1) (by have:=jY (i.alloc (Ob j.a 48)) [⟨#[61,61]⟩,⟨#[33,61]⟩,⟨#[60,61]⟩,⟨#[62,61]⟩,⟨#[60]⟩,⟨#[62]⟩];simpa using this) sQ dC dC).mono ?_;rintro N P ⟨k,rfl,o,x,p⟩;replace a:=((a.ne' (sz i) j.a).alloc _).below o;clear o;replace c:=a.f2
 cases y:k.toList.isEmpty
 ·have z:Hid (∀q r s,(r=0->d<q)->s<64->Bd f b q r s):=n.out.dh (a.ok (du h.ar a.st.rd.lt (p y).1).1) h.lt;clear p;go_wp2_with fail;refine a.lf (aF · 29) ?_;clear a c;intro A a;have c:=a.f2;go_wp2_with fail;refine(a.ne' (sz A) (ae 29 (b.pos e) 0 0 k nl)).wn (aI · _) ?_;clear a c;intro R S T V _ a;have c:=a.f3;go_wp2_with fail;go_region_law (replace a:=a.drew;go_simp;refine a.nd (l · (a.bd z.out dC)) ?_;clear a c;intro t W X Y Z aa _ a;have c:=a.f3)
  all_goals
   go_wp2_with fail;go_light;refine(((a.swap).dT (sl (sz t) 2)).l2 (sz t) 29 (b.pos e) 0 0 k v (lT x dC)).rt Tryz.results110 2 ?_;simp[aK,World.setCell_alloc_past,c,sL]
 ·go_wp2_with fail;go_light;exact a.rt Tryz.results110 1
theorem uS (T:∀V,nh 1 V):tD 77 True λk=>∀c∈k,c=12:=by
 intro w r s u l t v ai h;have aj:=h.l;go_enter Tryz.func77,Tryz.ntmps77
 have a:=Mz.start (wt:=1) h;go_wp2_with fail;refine a.wn (aI · _) ?_;clear a;intro ak al A W _ a;go_wp2_with fail;refine a.et (aU · _) ?_;clear a;intro ao X B ap a;go_wp2_with fail
 ·go_wp2_with fail;go_ret;exact Mz.post (d:=0) a (λ_=>trivial) sQ (λ_ c x=>by cases x) oM
 ·obtain rfl:X=false:= ‹_›;go_wp2_with fail;go_loopg [3] (ml t B A) (λg Y wr=>∃(f:List (List Value)) (b:Nat) (i m:Int),g=ml t b i/\dQ 0 f b i/\(i=0->(λk=>∀c∈k,c=12) (f.map az))/\Mz 1 w r s u t l v False (-16) wr b i m [] [] Y f)
  case atStart=>exact⟨[],B,A,W,Q,⟨λ_=>by simp,sQ⟩,(λj=>(λc x=>by cases x)),(a.up (λc=>c.elim)).less oM⟩
  case round=>
   clear a;obtain⟨f,b,i,m,C,hF,D,a⟩:=hrel;have o:Hid (i=0->(λk=>∀c∈k,c=12) (f.map az)):=D;clear D;have F:=a.st.rd.lt;have Z:(0:Int)<=(t.pos b:Int)/\(t.pos b:Int)<=7000:=oH (h.ar.aQ b);have aa:Hid (gk=ml t b i):=C;clear C;obtain⟨G,H,rfl⟩:=a.shape
   cases y:(i==0)
   ·go_wp2_with fail;refine a.lf aW ?_;clear a;intro aq a;go_wp2_with fail;go_ret;exact Mz.post (d:=0) (a.up (g':=True) (λ_ j=>absurd j (sU y))) (λ_=>trivial) hF.2 (λj=>absurd j (sU y)) oM
   ·obtain rfl:i=0:=sU y;have n:Hid (l<=b/\v=0):=⟨a.le,a.ok Q⟩;replace o:Hid ((λk=>∀c∈k,c=12) (f.map az)):=o.out Q;have ab:O f<=6001:=oI (hF.1 Q) h.ar.bj;replace a:Mz 1 w r s u t b 0 False (16*((b:Int) - (l:Int))+(-16)) wr b 0 m [] [] (J G (O f) H) f:=a.bP.less oM;go_wp2_with fail;refine a.lf aW ?_;clear a;intro ar a;go_wp2_with fail;refine a.lf (aF · 12) ?_;clear a;intro K a;go_wp2_with fail;refine(a.ne' (sz K) (nk 12 (t.pos b) nl)).et (aU · _) ?_;clear a;intro au av L aw a;have e:=a.f1;go_upto_if 15 with fail
    go_cut [] (λac=>∃(p:Int) (M:Nat) (N P:Int),Mz 1 w r s u t b 0 False (16*((b:Int) - (l:Int))+(-16)) ac M N P [(sz K,ae 12 (t.pos b) 0 p ⟨#[]⟩ nl)] [] (J G (O f) H) f)
    case first=>
     go_wp2_with fail
     ·go_wp2_with fail;go_meet;exact⟨1,L,0,m,((a.uT 1).less oM)⟩
     ·go_wp2_with fail;go_meet;exact⟨0,L,0,m,(a.less oM)⟩
    case rest=>
     clear e a;obtain⟨p,M,N,P,a⟩:=hcut;obtain⟨ax,ad⟩:∃c,c=wc:=⟨_,Q⟩;subst ad;have e:=a.f1;go_wp2_with fail;refine a.nm cD ?_;clear a e;intro ay z aA aB aC af aD aE a;have e:=a.f1;go_wp2_with fail;refine(a.gI z).wn (aI · _) ?_;clear a e;intro aG aH aJ aK aL a;have e:=a.f1;go_wp2_with fail;refine a.nd (T _ · (fM _ _ _ 3)) ?_;clear a e;intro q aM aN aP aQ ag aR a;have e:=a.f1;go_wp2_with (at_builtin;refine((a.dT (sl (sz q) 1)).l1 (sz q) 12 (t.pos b) 0 p z Z (lT af dC) (λj=>Gr.sX ⟨_,Q,ag j⟩)).ap ((sz q)+1) (lT ab dC) ?_;clear a e;intro aS aT aV a;have e:=a.f1)
     go_wp2_with fail;refine a.et (aU · _) ?_;clear a e;intro aX aY aZ a0 a;have e:=a.f1;go_wp2_with fail
     ·go_wp2_with fail;go_ret;exact Mz.post (d:=0) ((a.aE (i':=l) (k':=v) (g':=False) (s':= -55) n.out.1 (λ_=>n.out.2) (λc=>c.elim) oM).up (g':=True) (λ_ j=>Nat.lt_of_le_of_lt n.out.1 (a.go trivial j))) (λ_=>trivial) (by have a1:=hF.1 rfl;have a2:=h.ar.bj;simp only[List.length_append,List.length_cons,List.length_nil];omega) (λ_=>by rw[List.map_append];exact aO o.out Q) oM
     ·go_wp2_with fail;refine a.wn (aI · _) ?_;clear a e;intro a3 R S ah a4 a;have e:=a.f1;go_wp2_with fail;go_roundg (ml t R S)
      case measure=>rw[aa.out];exact bN F a.pop.le (a.pop.go trivial)
      case rel=>exact⟨(f++[(ae 12 (t.pos b) 0 p z (sl (sz q) 1)).toList]),R,S,ah,Q,dQ.snoc (t:=t) hF Q F h.ar (a.pop.go trivial),(λ_=>by rw[List.map_append];exact aO o.out Q),a.pop.aE (s':= -16) n.out.1 (λ_=>n.out.2) (λc=>c.elim) oM⟩
theorem vV {B:Nat} (D:nh 3 B) (S:mH 3 91 True 8 λx=>x=19) {w:World} {rb F G i:Nat} {t:Tk} {k a:Int} (h:Rd w rb F G t i k a) (T:i+1<t.len) (H:Hid (∀i' k' K,(k'=0->i<i')->K<64->Bd B t i' k' K)) (al:bS t i k 0 ⟨#[38,38]⟩=true) (ao:cj t (i+1) k 0 4=true):Calls Tryz.prog 93 #[.pointer (some ⟨rb,0,I⟩)] w (aZ 3 w rb F G t i k True 8 cx):=by
 have ap:=h.l;have aq:(t.pos i:Int)<=6000:=oH (h.ar.aQ i);have L:(0:Int)<=(t.pos i:Int)/\(t.pos i:Int)<=7000:=oH (h.ar.aQ i);have M:(0:Int)<=(t.pos i:Int)+1/\(t.pos i:Int)+1<=7000:=oM;go_enter Tryz.func93,Tryz.ntmps93
 have ar:=dx;have au:(i:Int)<(t.len:Int):=oH h.lt;have av:(t.len:Int)<=6001:=oH h.ar.bj;have b:=Mz.start (wt:=3) h;go_wp2_with fail;refine(b.ne' (sz w) (aB)).lf (aF · 16) ?_;clear b;intro V b;have c:=b.f1;go_wp2_with fail;refine(b.ne' (sz V) (nk 16 (t.pos i) nl)).lf (aF · 16) ?_;clear b c;intro W b;have c:=b.f2;go_wp2_with fail;refine(b.ne' (sz W) (nk 16 (↑(t.pos i)+1) nl)).lf (aX · 0 dC _) ?_;clear b c;intro X b;have c:=b.f3;have Y:=b.st.rd.r1;have Z:=b.st.rd.fz 1;have aa:=b.st.rd.l;go_wp2_with fail;refine((b.jB (j':=i+1) T (Nat.lt_succ_self _)).ne' (sz X) (aB)).lf (bC · 0 dC 4) ?_;clear b c Y Z aa;intro aw b;have c:=b.f4;go_wp2_with fail;refine(S b.st.rd).mono ?_;rintro p ax ⟨ay,az,aA,aC,o,aD,aE,aG,aH,aI,aJ,rfl,N,P,ab,ac⟩;have R:=P.name;replace b:=b.pX N;clear N P ab ac;replace c:=b.f4;go_wp2_with fail;refine(b.gI o).et (aU · _) ?_;clear b c;intro aL aM aN aO b;have c:=b.f4;go_wp2_with fail
 ·go_wp2_with fail;replace b:=b.jV 1;refine b.nd (D · (b.bd H.out dC)) ?_;clear b c;intro e ad aP aQ aR ae _ b;have c:=b.f4;have q:=sL (b.fa 0 Q).2.2.1;have r:_<(sz e)+2:=sL q;have af:_<(sz e)+3:=sL r;have s:=sL (b.fa 1 Q).2.2.1;have u:_<(sz e)+2:=sL s;have ag:_<(sz e)+3:=sL u;have v:=sL (b.fa 2 Q).2.2.1;have y:_<(sz e)+2:=sL v;have ah:_<(sz e)+3:=sL y;have z:=sL (b.fa 3 Q).2.2.1;have A:_<(sz e)+2:=sL z;have ai:_<(sz e)+3:=sL A;go_wp2_with fail;go_light;refine Mz.cq (C:=cx) (d:=8) Tryz.results93 Q Q (((((((b.pP o).qR 1).iU (sl ((sz e)+1) 1)).rI (sl ((sz e)+2) 1)).ne' (sz e) ad.a).l1 ((sz e)+1) 16 (↑(t.pos i)+1) 1 0 o M R (λp=>Gr.fg ⟨.inr Q,_,Q,ae p⟩)).l1 ((sz e)+2) 16 (t.pos i) 0 0 ⟨#[]⟩ L dC (λ_=>Gr.fg ⟨.inl Q,_,Q,⟨by show(13:Int)<=16;decide,by show(16:Int)<=18;decide⟩⟩)) 4 Q (λ_=>⟨by show(13:Int)<=16;decide,by show(16:Int)<=18;decide⟩) oM ?_;have j:=(b.fa 0 Q).2.2.1;have l:=(b.fa 1 Q).2.2.1;have m:=(b.fa 2 Q).2.2.1;have n:=(b.fa 3 Q).2.2.1;simp[aK,World.setCell_alloc_past,j,(sL j),(sL (sL j)),l,(sL l),(sL (sL l)),m,(sL m),(sL (sL m)),n,(sL n),(sL (sL n))]
 ·go_wp2_with fail;refine b.nd (D · (b.bd H.out dC)) ?_;clear b c;intro f aj aS aT aV ak _ b;have c:=b.f4;have q:=sL (b.fa 0 Q).2.2.1;have r:_<(sz f)+2:=sL q;have af:_<(sz f)+3:=sL r;have s:=sL (b.fa 1 Q).2.2.1;have u:_<(sz f)+2:=sL s;have ag:_<(sz f)+3:=sL u;have v:=sL (b.fa 2 Q).2.2.1;have y:_<(sz f)+2:=sL v;have ah:_<(sz f)+3:=sL y;have z:=sL (b.fa 3 Q).2.2.1;have A:_<(sz f)+2:=sL z;have ai:_<(sz f)+3:=sL A;go_wp2_with fail;go_light;refine Mz.cq (C:=cx) (d:=8) Tryz.results93 Q Q (((((((b.pP o).qR 0).iU (sl ((sz f)+1) 1)).rI (sl ((sz f)+2) 1)).ne' (sz f) aj.a).l1 ((sz f)+1) 16 (↑(t.pos i)+1) 0 0 o M R (λp=>Gr.fg ⟨.inl Q,_,Q,ak p⟩)).l1 ((sz f)+2) 16 (t.pos i) 0 0 ⟨#[]⟩ L dC (λ_=>Gr.fg ⟨.inl Q,_,Q,⟨by show(13:Int)<=16;decide,by show(16:Int)<=18;decide⟩⟩)) 4 Q (λ_=>⟨by show(13:Int)<=16;decide,by show(16:Int)<=18;decide⟩) oM ?_;have j:=(b.fa 0 Q).2.2.1;have l:=(b.fa 1 Q).2.2.1;have m:=(b.fa 2 Q).2.2.1;have n:=(b.fa 3 Q).2.2.1;simp[aK,World.setCell_alloc_past,j,(sL j),(sL (sL j)),l,(sL l),(sL (sL l)),m,(sL m),(sL (sL m)),n,(sL n),(sL (sL n))]
end Go.Proofs.YtdghkacbpebcoaaGreat
