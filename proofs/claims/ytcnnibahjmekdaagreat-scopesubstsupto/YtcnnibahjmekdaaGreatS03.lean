import Derived.Test.YtcnnibahjmekdaaGreatS02
namespace Go.Proofs.YtcnnibahjmekdaaGreat
open Go.RowKit
open Value renaming slice→J
open List renaming length→O
open Option renaming none→I
open World renaming heap→U
open _root_.Array renaming size→E
open Obj renaming cells→Ob
set_option linter.all false
set_option maxRecDepth 100000
set_option maxHeartbeats 0
section
variable{base e i n size:Nat} {P:Nat->Prop} {ao:OA} {v:Value} {w w':World}
structure Nm where
 name:ByteArray
 sort:Int
 n:Int
 eQ:Bool
def Nm.c (x:Nm):List Value:=[.string x.name,vN x.sort,vN x.n,.bool x.eQ]
structure Md where
 name:ByteArray
 ao:OA
 cp:Nat
 ns:List Nm
 own:Nat
def Md.c (m:Md):List Value:=[.string m.name,J m.ao (O m.ns) m.cp,vN m.own]
theorem rO {us:VV} (b:∀x∈us,O x=size):∀{idx:Nat} {x:List Value},us[idx]? =some x->∀a,a<size->us.flatten[idx*size+a]? =x[a]? :=by
 induction us with
 |nil=>intro idx x h;simp at h
 |cons c m d=>
  intro idx x h a f;have j:=b c (List.mem_cons_self ..);rw[List.flatten_cons]
  cases idx with
  |zero=>
   obtain rfl:c=x:=sU h;rw[List.getElem?_append_left oM];congr 1
   omega
  |succ idx=>
   have e:(idx+1)*size=idx*size+size:=by rw[Nat.add_mul,Nat.one_mul]
   rw[List.getElem?_append_right oM,j];have:=d (λk l=>b k (List.mem_cons_of_mem _ l)) (idx:=idx) (x:=x) (sU h) a f;rw[<-this];congr 1
   omega
theorem aL {vs:VV} (h:w.ownsRow base e size v n vs.flatten) (d:O vs=n) (hl:∀x∈vs,O x=size) {x:List Value} (b:vs[i]? =some x):∃g f,v=J (aS g) n f/\g<E (U w)/\base<=g/\∀a,a<size->w.cell? ⟨g,i*size+a,I⟩=x[a]? :=by
 subst d;have j:i<O vs:=(gS b).1;rcases h.2 with⟨c,o⟩|⟨g,cap,cur,c,hb,hg,hnc,hcm,hcs,htake⟩
 ·omega
 ·refine⟨g,cap,c,(gE hg).1,hb,λa k=>?_⟩
  have l:i*size+a<O vs*size:=by
   have:(i+1)*size<=O vs*size:=Nat.mul_le_mul_right _ j;rw[Nat.add_mul] at this;omega
  have m:(cur.toList.take (O vs*size))[i*size+a]? =cur[i*size+a]? :=by rw[List.getElem?_take,if_pos l];simp
  rw[cell_of_row w g (i*size+a) cur e (0,0) hg,<-m,htake,rO hl b a k]
def KT (P:Nat->Prop) (w w':World):Prop:=∀(b:Nat) (c:Array Value) (t:TypeId) (z:Nat × Nat),w.heap[b]? =some (Obj.cells c t z)->P t->w'.heap[b]? =w.heap[b]?
theorem KT.below (h:Below (E (U w)) w w'):KT P w w':=λa _ _ _ b _=>h.block a (gE b).1
theorem KT.trans {a b c:World} (h:KT P a b) (o:KT P b c):KT P a c:=λd f j k l m=>(o d f j k ((h d f j k l m).trans l) m).trans (h d f j k l m)
theorem KT.mono {a:Nat->Prop} (h:KT P w w') (b:∀t,a t->P t):KT a w w':=λc d t f j k=>h c d t f j (b t k)
theorem ah {xs:List Value} (h:w.ownsRow base e size v n xs) (c:KT P w w') (d:P e):w'.ownsRow base e size v n xs:=
 ag h (λf a j=>by
  rcases h.2 with⟨b,k⟩|⟨g,cap,cur,b,hbb,hg,_⟩
  ·rw[b] at a;simp[Value.ownBlock] at a
  ·rw[b] at a;obtain rfl:g=f:=by simpa[Value.ownBlock] using a
   exact c g _ _ _ hg d)
structure dB (w:World) (v:Value) (ms:List Md):Prop where
 row:w.ownsRow 0 115 3 v (O ms) (ms.map Md.c).flatten
 bB:O ms<=20000
 names:∀m∈ms,w.ownsRow 0 117 4 (J m.ao (O m.ns) m.cp) (O m.ns) (m.ns.map Nm.c).flatten/\m.own<=O m.ns/\O m.ns<=30000
section
variable{w w':World} {v:Value} {ms:List Md}
theorem dB.kt (h:dB w v ms) (a:KT P w w') (d:P 115) (f:P 117):dB w' v ms:=
 ⟨ah h.row a d,h.bB,λb c=>⟨ah (h.names b c).1 a f,(h.names b c).2⟩⟩
theorem dB.below (h:dB w v ms) (a:Below (E (U w)) w w'):dB w' v ms:=h.kt (P:=λ_=>True) (KT.below a) trivial trivial
theorem dB.len {c:Nat} (h:dB w (J ao n c) ms):n=O ms:=by
 rcases h.row.2 with⟨a,b⟩|⟨g,cap,cur,a,_⟩
 ·simp at a;omega
 ·simp at a;exact a.2.1
theorem dB.nth (h:dB w v ms) {m:Md} (c:ms[i]? =some m):∃g a,v=J (aS g) (O ms) a/\g<E (U w)/\w.cell? ⟨g,i*3,I⟩=some (.string m.name)/\w.cell? ⟨g,i*3+1,I⟩=some (J m.ao (O m.ns) m.cp)/\w.cell? ⟨g,i*3+2,I⟩=some (vN m.own):=by
 obtain⟨g,a,e,d,_,b⟩:=aL h.row sQ (λx f=>by obtain⟨j,_,rfl⟩:=List.mem_map.1 f;rfl) (i:=i) (x:=m.c) (by rw[List.getElem?_map,c];rfl);exact⟨g,a,e,d,b 0 dC,b 1 dC,b 2 dC⟩
theorem lX {c:Nat} {a:List Nm} (h:w.ownsRow 0 117 4 (J ao (O a) c) (O a) (a.map Nm.c).flatten) {m:Nm} (d:a[i]? =some m):∃g,ao=some ⟨g,0,I⟩/\g<E (U w)/\w.cell? ⟨g,i*4,I⟩=some (.string m.name)/\w.cell? ⟨g,i*4+1,I⟩=some (vN m.sort)/\w.cell? ⟨g,i*4+2,I⟩=some (vN m.n)/\w.cell? ⟨g,i*4+3,I⟩=some (.bool m.eQ):=by
 obtain⟨g,f,e,j,_,b⟩:=aL h sQ (λx k=>by obtain⟨l,_,rfl⟩:=List.mem_map.1 k;rfl) (i:=i) (x:=m.c) (by rw[List.getElem?_map,d];rfl);obtain⟨rfl,rfl⟩:ao=some ⟨g,0,I⟩/\c=f:=sU e;exact⟨g,Q,j,b 0 dC,b 1 dC,b 2 dC,b 3 dC⟩
end
theorem al1 (w:World) (a:Obj):Below (E (U w)) w (w.alloc a)/\(w.alloc a).heap[E (U w)]? =some a:=⟨(Below.refl _ _).alloc (lR _) _,heap_alloc_new _ _⟩
theorem eI (w:World) (a b:Obj):Below (E (U w)) w ((w.alloc a).alloc b)/\((w.alloc a).alloc b).heap[E (U w)]? =some a/\((w.alloc a).alloc b).heap[E (U w)+1]? =some b:=by
 have h:=al1 w a;have e:E (U (w.alloc a))=E (U w)+1:=sQ;refine⟨h.1.alloc oM _,(Below.heap_alloc _ _ _ oM).trans h.2,?_⟩;rw[<-e];exact heap_alloc_new _ _
theorem np (w:World) (a b c:Obj):Below (E (U w)) w (((w.alloc a).alloc b).alloc c)/\(((w.alloc a).alloc b).alloc c).heap[E (U w)]? =some a/\(((w.alloc a).alloc b).alloc c).heap[E (U w)+1]? =some b/\(((w.alloc a).alloc b).alloc c).heap[E (U w)+2]? =some c:=by
 have h:=eI w a b;have e:E (U ((w.alloc a).alloc b))=E (U w)+2:=sQ;refine⟨h.1.alloc oM _,(Below.heap_alloc _ _ _ oM).trans h.2.1,(Below.heap_alloc _ _ _ oM).trans h.2.2,?_⟩;rw[<-e];exact heap_alloc_new _ _
abbrev fD (mv dv tv iv fv:Value) (mn:Int) (rv:Value):Array Value:=#[mv,dv,tv,iv,fv,vN mn,rv]
theorem kP {mo:OA} {ml mc:Nat} {ms:List Md} (c:dB w (J mo ml mc) ms) (j k l m o:Value) (p:Int) (x:ByteArray):
 Calls Tryz.prog 44 #[.agg (fD (J mo ml mc) j k l m p o),.string x] w (λe w'=>∃f:Int,e=.returned (vN f)/\(-1<=f/\f<O ms)/\Below (E (U w)) w w'):=by
 obtain rfl:=c.len;have F:=c.bB;have y:Hid (dB w (J mo (O ms) mc) ms):=c;clear c;have z:Below (E (U w)) w (w.alloc (Ob (fD (J mo (O ms) mc) j k l m p o) 30)):=(Below.refl _ _).alloc (lR _) _;go_enter Tryz.func44,Tryz.ntmps44
 go_wp2_with fail;go_loopg [5,6,10] (O ms) (λA _ _ B wr=>∃a:Nat,A=O ms - a/\B=vN a/\a<=O ms/\Below (E (U w)) w wr)
 case atStart=>exact⟨0,Q,Q,zL _,z⟩
 case round=>
  obtain⟨a,q,rfl,G,d⟩:=hrel;have C:Hid (gk=O ms - a):=q;clear q;by_cases r:a<O ms
  ·obtain⟨b,s⟩:∃b,ms[a]? =some b:=⟨_,gG r⟩;obtain⟨g,D,e,H,K,L,M⟩:=(y.out.below d).nth s;obtain⟨rfl,rfl⟩:mo=some ⟨g,0,I⟩/\mc=D:=sU e;clear e s;have t:(a:Int)<(O ms:Int):=oM;have u:Below (E (U w)) w (wr.alloc (Ob #[.string b.name,J b.ao (O b.ns) b.cp,vN b.own] 115)):=d.alloc d.size _;go_wp2_with fail
   ·go_ret;exact⟨a,Q,oM,u⟩
   ·go_roundg (O ms - (a+1))
    case measure=>rw[C.out];omega
    case rel=>exact⟨a+1,Q,by go_num,r,u⟩
  ·have t:¬(a:Int)<(O ms:Int):=oM;have N:decide ((a:Int)<(O ms:Int))=false:=sU t;go_wp2_with fail;go_ret;exact⟨-1,Q,oM,d⟩
theorem qt {g b:Nat} {k p n m:Int} {s:ByteArray} (h:∀j,j<11->w.cell? ⟨g,b+j,I⟩=(ae k p n m s v).toList[j]?):w.cell? ⟨g,b,I⟩=some (vN k)/\w.cell? ⟨g,b+1,I⟩=some (vN p)/\w.cell? ⟨g,b+2,I⟩=some (vN n)/\w.cell? ⟨g,b+3,I⟩=some (vN m)/\w.cell? ⟨g,b+4,I⟩=some (.string s)/\w.cell? ⟨g,b+5,I⟩=some v/\w.cell? ⟨g,b+6,I⟩=some (vN 0)/\w.cell? ⟨g,b+7,I⟩=some (vN 0)/\w.cell? ⟨g,b+8,I⟩=some (J I 0 0)/\w.cell? ⟨g,b+9,I⟩=some (J I 0 0)/\w.cell? ⟨g,b+10,I⟩=some (J I 0 0):=⟨h 0 dC,h 1 dC,h 2 dC,h 3 dC,h 4 dC,h 5 dC,h 6 dC,h 7 dC,h 8 dC,h 9 dC,h 10 dC⟩
end
section
variable{a:Act} {xs ys:List Value} {base n:Nat} {v xv:Value} {W:World}
structure App (W:World) (base el size:Nat) (v:Value) (n:Nat) (xs ys:List Value) (k:Nat) (v':Value) (w':World):Prop where
 shape:∃ao cp,v'=J ao (n+k) cp
 row:w'.ownsRow base el size v' (n+k) (xs++ys)
 grown:W.grownBy w' v.ownBlock
 own:v'.ownBlock=v.ownBlock\/v'.ownBlock=some (E (U W))
section
variable{W w w':World} {base el size n k:Nat} {v v':Value} {xs ys:List Value}
theorem App.below (h:App W base el size v n xs ys k v' w') {d:Nat} (c:Below d w W) (l:d<=E (U W)) (f:∀b,v.ownBlock=some b->d<=b):Below d w w':=
 ⟨h.grown.os.trans c.os,h.grown.tape.trans c.tape,h.grown.output.trans c.output,lT c.size h.grown.size,λe i=>(h.grown.block e oM (λj=>oH (f e j.symm))).trans (c.block e i)⟩
theorem App.dH (h:App W base el size v n xs ys k v' w') {b:Nat} {o:Obj} (c:W.heap[b]? =some o) (d:v.ownBlock≠some b):w'.heap[b]? =some o:=(h.grown.block b (gE c).1 (λe=>d e.symm)).trans c
end
section
variable{sl el size bytes:Nat} {z:Value}
theorem fg (f:Tryz.prog.underlying sl=some (.slice el)) (j:(Tryz.prog.info? el).map (λi=>(i.zero,i.size,i.bytes))=some (some z,size,bytes)) (l:z.cells.size=size) (m:0<size) (h:W.ownsRow base el size v n xs) (R:base<=E (U W)) (cs:Array Value) (o:cs.size=size) (one:∀u∈cs.toList,u.oneCell'=true) (p:n+1<=maxLen) (q:(n+1)*bytes<=140737488355328) (c:TypeId) {ad:Nat} (r:ad=E (U W)):
 ∃v' w',(Builtin.append_ #[sl,sl] c #[v,J (aS ad) 1 1]).run Tryz.prog (W.alloc (Ob cs el))=.ok v' w'/\App (W.alloc (Ob cs el)) base el size v n xs cs.toList 1 v' w':=by
 subst r;obtain⟨s,t,A,B,C⟩:=info_parts j;have D:(W.alloc (Ob cs el)).ownsRow base el size v n xs:=ag h (λS _ F=>Below.heap_alloc _ _ _ F)
 have G:∀b u,cs.toList[b]? =some u->(W.alloc (Ob cs el)).cell? ((⟨E (U W),0,I⟩:Addr).add b)=some u:=by
  intro b u H;have K:(⟨E (U W),0,I⟩:Addr).add b=⟨E (U W),b,I⟩:=by unfold Addr.add;split<;>simp_all
  rw[K,cell_of_row _ (E (U W)) b cs el (0,0) (heap_alloc_new W _)];simpa using H
 obtain⟨v',w',L,d,M,_,N⟩:=run_append_own_at (P:=Tryz.prog) (W.alloc (Ob cs el)) base sl c el s z size bytes f t A B C l m v n xs D ⟨E (U W),0,I⟩ 1 1 cs.toList (by simp[o]) G one p q (by simp;omega);refine⟨v',w',L,⟨?_,d,M,N⟩⟩;rcases d.2 with⟨e,T⟩|⟨x,y,zz,e,_⟩
 ·omega
 ·exact⟨_,_,e⟩
theorem zy (l:Tryz.prog.underlying sl=some (.slice el)) (q:(Tryz.prog.info? el).map (λi=>(i.zero,i.size,i.bytes))=some (some z,size,bytes)) (r:z.cells.size=size) (s:0<size) (h:W.ownsRow base el size v n xs) (t:base<=E (U W)) {A:Nat} {x:Value} {m:Nat} (c:W.ownsRow A el size x m ys) (one:∀u∈ys,u.oneCell'=true) (B:n+m<=maxLen) (C:(n+m)*bytes<=140737488355328) (e:TypeId):
 ∃v' w',(Builtin.append_ #[sl,sl] e #[v,x]).run Tryz.prog W=.ok v' w'/\App W base el size v n xs ys m v' w':=by
 obtain⟨o,p,D,F,G⟩:=info_parts q;rcases c.2 with⟨f,d⟩|⟨g,cap,cur,f,hbb,hg,hnc,hcm,hcs,htake⟩
 ·subst f d;have H:ys=[]:=by have:=c.1;rw[Nat.zero_mul] at this;exact List.eq_nil_of_length_eq_zero this
  subst H;refine⟨v,W,run_append_owned_none (P:=Tryz.prog) (w:=W) base sl e el o size l p v n xs h,⟨?_,sU h,⟨Q,Q,Q,lR _,λ_ _ _=>rfl⟩,.inl Q⟩⟩;rcases h.2 with⟨b,j⟩|⟨x,y,zz,b,_⟩
  ·exact⟨I,0,by rw[b,j]⟩
  ·exact⟨_,_,b⟩
 ·subst f;obtain⟨v',w',K,d,L,_,M⟩:=run_append_own_at (P:=Tryz.prog) W base sl e el o z size bytes l p D F G r s v n xs h ⟨g,0,I⟩ m cap ys c.1 (c.cells Q) one B C t;refine⟨v',w',K,⟨?_,d,L,M⟩⟩;rcases d.2 with⟨b,j⟩|⟨x,y,zz,b,_⟩
  ·exact⟨I,0,by rw[b,j]⟩
  ·exact⟨_,_,b⟩
theorem bC {c:Array Oper} {d:List Oper} {o:Oper} {e:Exit->Act->World->Prop} (sl:Nat) (f:o.guard=I) {s x:Operand} (i:o.op=.call {callee:=.builtin .append,args:=#[s,x],argTypes:=#[sl,sl]}) (j:a.eval s=v) (l:a.eval x=xv) {R:Value->World->Prop}
 (b:∃v' w',(Builtin.append_ #[sl,sl] o.type #[v,xv]).run Tryz.prog W=.ok v' w'/\R v' w') (h:∀v' w',R v' w'->wpList Tryz.prog c e d (a.put o.dst v') w'):wpList Tryz.prog c e (o::d) a W:=by
  refine wpList_plain f λp hK=>?_;obtain⟨v',w',b,m⟩:=b;unfold Oper.wp execOp;simp only[i,resolve,invoke,builtin,Sem.run_bind,Sem.run_pure,Result.andThen_ok,List.map_toArray,List.map_cons,List.map_nil,j,l,b];exact hK _ _ (h v' w' m)
theorem bf {c:Array Oper} {o:Oper} {K:Act->World->Prop} {d:Exit->Act->World->Prop} {e:Prop} (sl:Nat) (f:o.guard=I) {s x:Operand} (i:o.op=.call {callee:=.builtin .append,args:=#[s,x],argTypes:=#[sl,sl]}) (j:a.eval s=v) (l:a.eval x=xv) {R:Value->World->Prop}
 (b:∃v' w',(Builtin.append_ #[sl,sl] o.type #[v,xv]).run Tryz.prog W=.ok v' w'/\R v' w') (h:∀v' w',R v' w'->K (a.put o.dst v') w'):if Region.wanted o (yielded c a.tmps)=true then Oper.wp Tryz.prog o a W K d else e:=by
  have m:Region.wanted o (yielded c a.tmps)=true:=by simp[Region.wanted,f]
  rw[if_pos m];obtain⟨v',w',b,p⟩:=b;unfold Oper.wp execOp;simp only[i,resolve,invoke,builtin,Sem.run_bind,Sem.run_pure,Result.andThen_ok,List.map_toArray,List.map_cons,List.map_nil,j,l,b];exact h v' w' p
end
theorem rF:(Tryz.prog.info? 3).map (λb=>(b.zero,b.size,b.bytes))=some (some (vN 0),1,8):=by kernel_rfl
theorem tV:(Tryz.prog.info? 9).map (λb=>(b.zero,b.size,b.bytes))=some (some (.string ⟨#[]⟩),1,16):=by kernel_rfl
end
section
variable{act:Act} {c:Array Value} {fn:Func} {b r s z:Nat} {d0 d1 d2 d3 u:Value} {W w:World}
abbrev dR (x:Nm):Array Value:=#[.string x.name,vN x.sort,vN x.n,.bool x.eQ]
abbrev gJ:Nm:=⟨⟨#[]⟩,0,0,false⟩
def xC (w:World) (ns:List Nm) (x:ByteArray) (e:Ending) (w':World):Prop:=
 ∃(r:Nm) (b:Bool),e=.returned (.tuple #[.agg (dR r),.bool b])/\(b=true->r∈ns/\r.name.toList=x.toList)/\(b=false->r=gJ/\∀y∈ns,y.name.toList≠x.toList)/\Below (E (U w)) w w'
def bw (w:World) (b:Nat) (c:Array Value):Prop:=w.heap[b]? =some (Ob c 117 (0,0))
theorem bw.cell (h:bw w b c) (o:Nat):w.cell? ⟨b,o,I⟩=c[o]? :=cell_of_row w b o c 117 (0,0) h
theorem bw.fz (h:bw w b c) (o:Nat):w.frozen? ⟨b,o,I⟩=false:=frozen_of_row w b o c 117 h
theorem bw.lt (h:bw w b c):b<E (U w):=(gE h).1
abbrev cQ (w:World) (b:Nat) (c0 c1 c2 c3:Value):World:=(((w.setCell ⟨b,0,I⟩ c0).setCell ⟨b,1,I⟩ c1).setCell ⟨b,2,I⟩ c2).setCell ⟨b,3,I⟩ c3
theorem bw.set (h:bw w b c) (o:Nat) (u:Value):bw (w.setCell ⟨b,o,I⟩ u) b (c.setIfInBounds o u):=heap_setCell_same w b o c 117 u h
theorem bw.bQ (h:bw w b #[d0,d1,d2,d3]) (c0 c1 c2 c3:Value):bw (cQ w b c0 c1 c2 c3) b #[c0,c1,c2,c3]:=by
 have a:bw (w.setCell ⟨b,0,I⟩ c0) b #[c0,d1,d2,d3]:=h.set 0 c0;have d:bw ((w.setCell ⟨b,0,I⟩ c0).setCell ⟨b,1,I⟩ c1) b #[c0,c1,d2,d3]:=a.set 1 c1;have e:bw (((w.setCell ⟨b,0,I⟩ c0).setCell ⟨b,1,I⟩ c1).setCell ⟨b,2,I⟩ c2) b #[c0,c1,c2,d3]:=d.set 2 c2;exact e.set 3 c3
theorem Below.cQ {e:Nat} {a:World} (h:Below e a w) (d:e<=b) (c0 c1 c2 c3:Value):Below e a (Go.Proofs.YtcnnibahjmekdaaGreat.cQ w b c0 c1 c2 c3):=
 Below.setCell (p:=⟨b,3,I⟩) (Below.setCell (p:=⟨b,2,I⟩) (Below.setCell (p:=⟨b,1,I⟩) (Below.setCell (p:=⟨b,0,I⟩) h d _) d _) d _) d _
theorem kK (d:fn.results=#[.cell r 117,.tmp s]) {a:Array Value} (e:a.getD r undef=.pointer (aS b)) (f:a.getD s undef=u) {c0 c1 c2 c3:Value} (i:bw W b #[c0,c1,c2,c3]):
 (results fn a).run Tryz.prog W=.ok (.tuple #[.agg #[c0,c1,c2,c3],u]) W:=by
 have j:=i.cell;have k:a[r]?.getD undef=.pointer (aS b):=sU e;have l:a[s]?.getD undef=u:=sU f;simp[results,d,k,l,go_sem,j]
theorem gZ (e:fn.results=#[.cell r 117,.tmp s]) (f:act.defers=[]) (i:act.tmps.getD r undef=.pointer (aS z)) (j:bw W z #[d0,d1,d2,d3]) (k:E (U w)<=z) (l:Below (E (U w)) w W) (m:act.tmps.getD s undef=u) (a:Nm) {d:Ending->World->Prop}
 (h:∀w',Below (E (U w)) w w'->d (.returned (.tuple #[.agg (dR a),u])) w'):bodyPost Tryz.prog fn d .ret act (cQ W z (.string a.name) (vN a.sort) (vN a.n) (.bool a.eQ)):=
  bodyPost_ret (kK e i m (bw.bQ j _ _ _ _)) f (h _ (Below.cQ l k _ _ _ _))
theorem mA (e:fn.results=#[.cell r 117,.tmp s]) (f:act.defers=[]) (i:act.tmps.getD r undef=.pointer (aS z)) (a:Nm) (j:bw W z (dR a)) (k:Below (E (U w)) w W) (l:act.tmps.getD s undef=u) {d:Ending->World->Prop}
 (h:∀w',Below (E (U w)) w w'->d (.returned (.tuple #[.agg (dR a),u])) w'):bodyPost Tryz.prog fn d .ret act W:=
  bodyPost_ret (kK e i l j) f (h _ k)
theorem pY {mo:OA} {ml mc:Nat} {ms:List Md} (o:dB w (J mo ml mc) ms) (C D F G H:Value) (K:Int) {i:Nat} {m:Md} (p:ms[i]? =some m) (x:ByteArray):
 Calls Tryz.prog 48 #[.agg (fD (J mo ml mc) C D F G K H),vN i,.string x] w (xC w (m.ns.take m.own) x):=by
 obtain rfl:=o.len;have ap:=o.bB;have aq:i<O ms:=(gS p).1;have ar:(i:Int)<(O ms:Int):=oM;obtain⟨t,Z,aa⟩:=o.names m (mG p);obtain⟨g,c,j,ab,L,M,N⟩:=o.nth p;obtain⟨rfl,rfl⟩:mo=some ⟨g,0,I⟩/\mc=c:=sU j;clear j p o;obtain⟨R,v,y,f,d⟩:=m;simp only at t Z aa L M N⊢;have ac:Hid (w.ownsRow 0 117 4 (J v (O f) y) (O f) (f.map Nm.c).flatten):=t;clear t;go_enter Tryz.func48,Tryz.ntmps48
 go_wp2_with fail;go_loopg [9] d (λad u wr=>∃a:Nat,ad=d - a/\u=vN a/\a<=d/\(∀e∈f.take a,e.name.toList≠x.toList)/\Below (E (U w)) w wr/\bw wr (E (U w)+1) (dR gJ)/\wr.heap[E (U w)+2]? =some (Ob #[.string R,J v (O f) y,vN d] 115 (0,0)))
 case atStart=>
  obtain⟨ae,au,af,ag⟩:=np w (Ob (fD (J (aS g) (O ms) mc) C D F G K H) 30) (Ob (dR gJ) 117) (Ob #[.string R,J v (O f) y,vN d] 115);exact⟨0,Q,Q,zL _,λe k=>by simp at k,ae,af,ag⟩
 case round=>
  obtain⟨a,S,rfl,av,T,q,l,A⟩:=hrel;have ai:Hid (gk=d - a):=S;have V:Hid (∀e∈f.take a,e.name.toList≠x.toList):=T;clear S T L M N ab;have aw:=λaj=>cell_of_row wr _ aj _ 115 (0,0) A;have ax:E (U w)+2<E (U wr):=(gE A).1;have ay:=l.cell;have az:=l.fz;have aA:=l.lt;by_cases X:a<d
  ·obtain⟨e,k⟩:∃e,f[a]? =some e:=⟨_,gG oM⟩;obtain⟨aB,rfl,aC,aD,aE,aF,aG⟩:=lX (ah ac.out (KT.below (P:=λ_=>True) q) trivial) k;have ak:Hid (f[a]? =some e):=k;have al:Hid (e∈f.take d):=mG (i:=a) (by rw[List.getElem?_take,if_pos X];exact k);clear k;have Y:(a:Int)<(d:Int):=oM;have aH:(a:Int)<(O f:Int):=oM;go_wp2_with fail
   ·go_light;exact gZ Tryz.results48 Q Q l oM q Q e (λao B=>⟨e,true,Q,λ_=>⟨al.out,by have:= ‹(e.name.toList==x.toList)=true›;simpa using this⟩,λj=>absurd j dC,B⟩)
   ·go_roundg (d - (a+1))
    case measure=>rw[ai.out];omega
    case rel=>
     refine⟨a+1,Q,by go_num,X,?_,q,l,A⟩;intro z n;rw[List.take_add_one,ak.out] at n;rcases List.mem_append.1 n with n|n
     ·exact V.out z n
     ·obtain rfl:z=e:=sU n;have:= ‹(z.name.toList==x.toList)=false›;simpa using this
  ·have Y:¬(a:Int)<(d:Int):=oM;have aI:decide ((a:Int)<(d:Int))=false:=sU Y;go_wp2_with fail;go_light;obtain rfl:a=d:=oM;exact gZ Tryz.results48 Q Q l oM q Q gJ (λao B=>⟨gJ,false,Q,λj=>absurd j dC,λ_=>⟨Q,V.out⟩,B⟩)
end
section
variable{D T:Nat}
def NQ (D T:Nat) (r:Nm):Prop:=0<=r.n/\(r.sort=0->r.n<(D:Int))/\(r.sort=2->r.n<(T:Int))
theorem NQ.zero (b:1<=D):NQ D T gJ:=⟨dC,λ_=>by show(0:Int)<(D:Int);omega,λa=>absurd a dC⟩
def mX (w:World) (e:Ending) (w':World):Prop:=∃s:ByteArray,e=.returned (.string s)/\w'=w
theorem sE (n:Int) (w:World):Calls Tryz.prog 26 #[vN n] w (mX w):=by
 go_enter Tryz.func26,Tryz.ntmps26
 go_wp2_with fail
 all_goals
  go_ret;exact⟨_,Q,Q⟩
theorem wi (n:Int) (w:World):Calls Tryz.prog 111 #[vN n] w (mX w):=by
 go_enter Tryz.func111,Tryz.ntmps111
 go_wp2_with fail
 all_goals
  go_ret;exact⟨_,Q,Q⟩
theorem wh (n:Int) (w:World):Calls Tryz.prog 112 #[vN n] w (mX w):=by
 go_enter Tryz.func112,Tryz.ntmps112
 go_wp2_with fail
 all_goals
  go_ret;exact⟨_,Q,Q⟩
def uw (w:World) (D T:Nat) (e:Ending) (w':World):Prop:=
 ∃(r:Nm) (b:Bool),e=.returned (.tuple #[.agg (dR r),.bool b])/\NQ D T r/\Below (E (U w)) w w'
theorem wj (r:1<=D) (s:4<=T) (x:ByteArray) (w:World):Calls Tryz.prog 104 #[.string x] w (uw w D T):=by
 have q:Hid (1<=D/\4<=T):=⟨r,s⟩;clear r s;obtain⟨t,v⟩:=al1 w (Ob (dR gJ) 117);have b:bw (w.alloc (Ob (dR gJ) 117)) (E (U w)) (dR gJ):=v;clear v
 cases C:(x.toList==[79,112,116,105,111,110])
 rotate_left
 ·go_enter Tryz.func104,Tryz.ntmps104
  go_wp2_with fail;go_light;exact mA Tryz.results104 Q Q ⟨x,0,0,true⟩ (al1 _ _).2 (al1 _ _).1 (u:=.bool true) Q (λm e=>⟨_,_,Q,⟨sQ,λ_=>by have:=q.out.1;show(0:Int)<_;omega,λc=>(by simp at c)⟩,e⟩)
 ·go_enter Tryz.func104,Tryz.ntmps104
  go_wp2_with fail;go_loopg [4] 15 (λj u wr=>∃a:Nat,j=15 - a/\u=vN a/\a<=15/\Below (E (U w)) w wr/\bw wr (E (U w)) (dR gJ))
  case atStart=>exact⟨0,Q,Q,zL _,t,b⟩
  case round=>
   clear t b;obtain⟨a,f,rfl,y,d,b⟩:=hrel;have k:Hid (gk=15 - a):=f;clear f;have n:=b.cell;have o:=b.fz;have p:=b.lt;by_cases l:a<15
   ·have i:(a:Int)<15:=oM;go_wp2_with (go_at_call 111;refine(wi _ _).mono ?_;rintro c z ⟨A,rfl,rfl⟩)
    ·go_light;exact gZ Tryz.results104 Q Q b (lR _) d (u:=.bool true) Q ⟨x,1,a,true⟩ (λm e=>⟨_,_,Q,⟨sQ,λc=>(by simp at c),λc=>(by simp at c)⟩,e⟩)
    ·go_roundg (15 - (a+1))
     case measure=>rw[k.out];omega
     case rel=>exact⟨a+1,Q,by go_num,l,d,b⟩
   ·have i:¬(a:Int)<15:=oM;have B:decide ((a:Int)<15)=false:=sU i;go_wp2_with fail;go_loopg [5] 4 (λj u wr=>∃a:Nat,j=4 - a/\u=vN a/\a<=4/\Below (E (U w)) w wr/\bw wr (E (U w)) (dR gJ))
    case atStart=>exact⟨0,Q,Q,zL _,d,b⟩
    case round=>
     clear d b n o p;obtain⟨a,f,rfl,y,d,b⟩:=hrel;have k:Hid (gk=4 - a):=f;clear f;have n:=b.cell;have o:=b.fz;have p:=b.lt;by_cases l:a<4
     ·have i:(a:Int)<4:=oM;go_wp2_with (go_at_call 26;refine(sE _ _).mono ?_;rintro c z ⟨A,rfl,rfl⟩)
      ·go_light;exact gZ Tryz.results104 Q Q b (lR _) d (u:=.bool true) Q ⟨x,2,a,true⟩ (λm e=>⟨_,_,Q,⟨sQ,λc=>(by simp at c),λ_=>by have:=q.out.2;show(a:Int)<_;omega⟩,e⟩)
      ·go_roundg (4 - (a+1))
       case measure=>rw[k.out];omega
       case rel=>exact⟨a+1,Q,by go_num,l,d,b⟩
     ·have i:¬(a:Int)<4:=oM;have B:decide ((a:Int)<4)=false:=sU i;go_wp2_with fail;go_loopg [6] 41 (λj u wr=>∃a:Nat,j=41 - a/\u=vN a/\a<=41/\Below (E (U w)) w wr/\bw wr (E (U w)) (dR gJ))
      case atStart=>exact⟨0,Q,Q,zL _,d,b⟩
      case round=>
       clear d b n o p;obtain⟨a,f,rfl,y,d,b⟩:=hrel;have k:Hid (gk=41 - a):=f;clear f;have n:=b.cell;have o:=b.fz;have p:=b.lt;by_cases l:a<41
       ·have i:(a:Int)<41:=oM;go_wp2_with (go_at_call 112;refine(wh _ _).mono ?_;rintro c z ⟨A,rfl,rfl⟩)
        ·go_light;exact gZ Tryz.results104 Q Q b (lR _) d (u:=.bool true) Q ⟨x,4,a,true⟩ (λm e=>⟨_,_,Q,⟨sQ,λc=>(by simp at c),λc=>(by simp at c)⟩,e⟩)
        ·go_roundg (41 - (a+1))
         case measure=>rw[k.out];omega
         case rel=>exact⟨a+1,Q,by go_num,l,d,b⟩
       ·have i:¬(a:Int)<41:=oM;have B:decide ((a:Int)<41)=false:=sU i;go_wp2_with fail;go_light;exact gZ Tryz.results104 Q Q b (lR _) d (u:=.bool false) Q gJ (λm e=>⟨_,_,Q,NQ.zero q.out.1,e⟩)
end
theorem sH {D T:Nat} (v:1<=D) (y:4<=T) {w:World} {mo:OA} {ml mc:Nat} {ms:List Md} (j:dB w (J mo ml mc) ms) (z A B C F:Value) (G:Int) {i:Nat} {m:Md} (k:ms[i]? =some m) (o:∀a∈m.ns,NQ D T a) (x:ByteArray):
 Calls Tryz.prog 92 #[.agg (fD (J mo ml mc) z A B C G F),vN i,.string x] w (uw w D T):=by
 obtain rfl:=j.len;have ar:=j.bB;have au:i<O ms:=(gS k).1;have av:(i:Int)<(O ms:Int):=oM;obtain⟨p,V,W⟩:=j.names m (mG k);obtain⟨g,X,q,Y,H,K,L⟩:=j.nth k;obtain⟨rfl,rfl⟩:mo=some ⟨g,0,I⟩/\mc=X:=sU q;clear q k j V;obtain⟨aw,Z,aa,b,ax⟩:=m;simp only at p W H K L o⊢;have ab:Hid (w.ownsRow 0 117 4 (J Z (O b) aa) (O b) (b.map Nm.c).flatten):=p;have r:Hid ((∀a∈b,NQ D T a)/\1<=D/\4<=T):=⟨o,v,y⟩;clear p o v y;go_enter Tryz.func92,Tryz.ntmps92
 go_wp2_with fail;go_loopg [9,17] (O b) (λac _ u wr=>∃c:Nat,ac=O b - c/\u=vN c/\c<=O b/\Below (E (U w)) w wr/\bw wr (E (U w)+1) (dR gJ))
 case atStart=>
  obtain⟨ad,ay,ae⟩:=eI w (Ob (fD (J (aS g) (O ms) mc) z A B C G F) 30) (Ob (dR gJ) 117);exact⟨0,Q,Q,zL _,ad,ae⟩
 case round=>
  obtain⟨c,M,rfl,az,d,e⟩:=hrel;have af:Hid (gk=O b - c):=M;clear M H K L Y;have ag:=e.cell;have ai:=e.fz;have l:=e.lt;by_cases aj:c<O b
  ·obtain⟨a,s⟩:∃a,b[c]? =some a:=⟨_,gG oM⟩;obtain⟨aA,rfl,aB,aC,aD,aE,aF⟩:=lX (ah ab.out (KT.below (P:=λ_=>True) d) trivial) s;have ak:Hid (NQ D T a):=r.out.1 a (mG s);clear s;have N:(c:Int)<(O b:Int):=oM;have n:Below (E (U w)) w (wr.alloc (Ob (dR a) 117)):=d.alloc d.size _;have f:bw (wr.alloc (Ob (dR a) 117)) (E (U w)+1) (dR gJ):=(Below.heap_alloc _ _ _ l).trans e;have aG:E (U w)+1≠E (U wr):=oM;have aH:E (U wr)≠E (U w)+1:=oM;go_wp2_with fail
   ·go_light;exact mA Tryz.results92 Q Q a ((Below.heap_alloc _ _ _ (sU l)).trans (bw.bQ e (.string a.name) (vN a.sort) (vN a.n) (.bool a.eQ))) ((Below.cQ d oM _ _ _ _).alloc (by have:=d.size;simpa using this) _) (u:=.bool true) Q (λal t=>⟨a,true,Q,ak.out,t⟩)
   ·go_roundg (O b - (c+1))
    case measure=>rw[af.out];omega
    case rel=>exact⟨c+1,Q,by go_num,aj,n,f⟩
  ·have N:¬(c:Int)<(O b:Int):=oM;have aI:decide ((c:Int)<(O b:Int))=false:=sU N;go_wp2_with (go_at_call 104;refine(wj (D:=D) (T:=T) r.out.2.1 r.out.2.2 _ _).mono ?_;rintro q ao ⟨R,S,rfl,ap,n⟩;have f:bw ao (E (U w)+1) (dR gJ):=(n.block _ l).trans e;have aq:=d.trans (n.mono d.size);have ag:=f.cell;have ai:=f.fz;have l:=f.lt)
   go_light;exact gZ Tryz.results92 Q Q f oM aq (u:=.bool S) Q R (λal t=>⟨R,S,Q,ap,t⟩)
def xw (w:World) (D T:Nat) (e:Ending) (w':World):Prop:=
 ∃(r:Nm) (k:Int),e=.returned (.tuple #[.agg (dR r),vN k])/\NQ D T r/\Below (E (U w)) w w'
theorem pP {D T:Nat} (M:1<=D) {w:World} {mo:OA} {ml mc:Nat} {ms:List Md} (B:dB w (J mo ml mc) ms) (N:∀m∈ms,∀C∈m.ns,NQ D T C) (d e f j k:Value) (l:Int) (i:Int) (m x:ByteArray):
 Calls Tryz.prog 47 #[.agg (fD (J mo ml mc) d e f j l k),vN i,.string m,.string x] w (xw w D T):=by
 obtain rfl:=B.len;have n:Hid (dB w (J mo (O ms) mc) ms/\(∀m∈ms,∀C∈m.ns,NQ D T C)/\1<=D):=⟨B,N,M⟩;clear B N M;obtain⟨q,F,G⟩:=eI w (Ob (fD (J mo (O ms) mc) d e f j l k) 30) (Ob (dR gJ) 117);go_enter Tryz.func47,Tryz.ntmps47
 go_wp2_with fail;refine(kP (n.out.1.below q) d e f j k l m).mono ?_;rintro H r ⟨o,rfl,aj,s⟩;have p:=q.trans (s.mono q.size);have b:bw r (E (U w)+1) (dR gJ):=(s.block _ (gE G).1).trans G;have K:r.heap[E (U w)]? =some (Ob (fD (J mo (O ms) mc) d e f j l k) 30 (0,0)):=(s.block _ (gE F).1).trans F;clear q F G s;have P:=b.cell;have R:=b.fz;have aa:=b.lt;have ab:=λac=>cell_of_row r _ ac _ 30 (0,0) K;have ak:E (U w)<E (U r):=(gE K).1;by_cases S:o<0
 ·have ad:decide (o<0)=true:=sU S;go_wp2_with fail;go_light;exact gZ Tryz.results47 Q Q b oM p (u:=vN 7) Q gJ (λae c=>⟨gJ,7,Q,NQ.zero n.out.2.2,c⟩)
 ·have ad:decide (o<0)=false:=sU S;obtain⟨t,rfl⟩:∃t:Nat,o=(t:Int):=⟨o.toNat,oM⟩;obtain⟨v,V⟩:∃v,ms[t]? =some v:=⟨_,gG oM⟩;have W:Hid (ms[t]? =some v):=V;clear V;go_wp2_with fail;refine(pY (n.out.1.below p) d e f j k l W.out x).mono ?_;rintro H y ⟨a,af,rfl,X,Y,L⟩
  have ag:Hid (NQ D T a):=by
   show NQ D T a
   cases af
   ·rw[(Y Q).1];exact NQ.zero n.out.2.2
   ·exact n.out.2.1 v (mG W.out) a (List.mem_of_mem_take (X Q).1)
  have c:=p.trans (L.mono p.size);have z:bw y (E (U w)+1) (dR gJ):=(L.block _ aa).trans b;clear P R b ab K p L X Y;have P:=z.cell;have R:=z.fz;have ah:=z.lt;have al:E (U w)+1≠E (U y):=oM;have ao:E (U y)≠E (U w)+1:=oM
  have Z:Hid (∀ai:Int,∀A,A=(cQ y (E (U w)+1) (.string a.name) (vN a.sort) (vN a.n) (.bool a.eQ)).alloc (Ob (dR a) 117)->bw A (E (U w)+1) (dR a)/\Below (E (U w)) w A):=by
   intro ai A H;subst H;exact⟨(Below.heap_alloc _ _ _ (sU ah)).trans (bw.bQ z _ _ _ _),(Below.cQ c oM _ _ _ _).alloc (by have:=c.size;simpa using this) _⟩
  go_wp2_with fail
  all_goals
   go_light;exact mA Tryz.results47 Q Q a (Z.out 0 _ Q).1 (Z.out 0 _ Q).2 Q (λae c=>⟨a,_,Q,ag.out,c⟩)
def rS (s:ByteArray) (i:Nat):Prop:=∃h:i+1<s.size,(((s[i]'(by omega)).toNat:Int)==58)=true/\(((s[i+1]'h).toNat:Int)==58)=true
def cd (ns:List ByteArray):List Value:=ns.map Value.string
def xy (w:World) (s:ByteArray) (e:Ending) (w':World):Prop:=
 ∃(ao:OA) (cp:Nat) (ns:List ByteArray),e=.returned (J ao (O ns) cp)/\w'.ownsRow (E (U w)) 9 1 (J ao (O ns) cp) (O ns) (cd ns)/\(1<=O ns/\O ns<=s.size+1)/\((∃i,rS s i)->2<=O ns)/\Below (E (U w)) w w'
structure SL (w:World) (s:ByteArray) (idx from_:Nat) (wr:World) (v:Value) (ns:List ByteArray):Prop where
 below:Below (E (U w)) w wr
 row:wr.ownsRow (E (U w)) 9 1 v (O ns) (cd ns)
 bB:O ns<=idx
 kX:(∃i,i<idx/\rS s i)->1<=O ns
 fr:from_=0\/∃j,from_=j+2/\j<idx/\rS s j
theorem pS (s:ByteArray) (w:World) (Z:s.size<=20000) (r:∀i,rS s i->¬rS s (i+1)):Calls Tryz.prog 46 #[.string s] w (xy w s):=by
 have K:Hid (∀i,rS s i->¬rS s (i+1)):=r;clear r;go_enter Tryz.func46,Tryz.ntmps46
 go_wp2_with fail;go_loopg [3,4,5] s.size (λL v M n wr=>∃(a b:Nat) (c:List ByteArray) (e:OA) (f:Nat),L=s.size - a/\n=vN a/\M=vN b/\v=J e (O c) f/\a<=s.size/\SL w s a b wr (J e (O c) f) c)
 case atStart=>exact⟨0,0,[],I,0,Q,Q,Q,Q,zL _,⟨Below.refl _ _,World.ownsRow_nil _ _ _ _,zL _,λ⟨i,o,_⟩=>absurd o (Nat.not_lt_zero _),.inl Q⟩⟩
 case round=>
  obtain⟨a,b,c,e,f,D,rfl,rfl,rfl,aa,d⟩:=hrel;have t:Hid (gk=s.size - a):=D;clear D
  have ab:b<=s.size/\b<=a+1:=by
   rcases d.fr with k|⟨p,k,l,h2,r⟩<;>omega
  have ac:=d.bB;have F:∀q,(Value.slice e (O c) f).ownBlock=some q->E (U w)<=q:=λq N=>(d.row.lt q N).1
  have G:∀{u:ByteArray},∀n∈(#[Value.string u]:Array Value).toList,n.oneCell'=true:=by
   intro u n P;obtain rfl:n=.string u:=sU P;rfl
  by_cases x:a+1<s.size
  ·have H:(a:Int)+1<(s.size:Int):=oM;have S:a<s.size:=oM
   have NO:Hid (¬rS s a->SL w s (a+1) b wr (J e (O c) f) c):=λT=>⟨d.below,d.row,oM,λ⟨i,o,j⟩=>by
    rcases Nat.lt_or_ge i a with h|h
    ·exact d.kX ⟨i,h,j⟩
    ·obtain rfl:i=a:=oM;exact absurd j T,d.fr.imp (λk=>k) (λ⟨p,k,h,j⟩=>⟨p,k,oM,j⟩)⟩
   cases j:(((s[a]'S).toNat:Int)==58)
   ·go_wp2_with fail;go_roundg (s.size - (a+1))
    case measure=>rw[t.out];omega
    case rel=>exact⟨a+1,b,c,e,f,Q,by go_num,Q,Q,oM,NO.out (λ⟨_,l,_⟩=>by rw[j] at l;exact absurd l dC)⟩
   ·cases y:(((s[a+1]'x).toNat:Int)==58)
    ·go_wp2_with fail;go_roundg (s.size - (a+1))
     case measure=>rw[t.out];omega
     case rel=>exact⟨a+1,b,c,e,f,Q,by go_num,Q,Q,oM,NO.out (λ⟨_,_,l⟩=>by rw[y] at l;exact absurd l dC)⟩
    ·have ad:b<=a:=by
      rcases d.fr with k|⟨p,k,l,h2⟩
      ·omega
      ·rcases Nat.lt_or_ge a b with h|h
       ·obtain rfl:a=p+1:=oM;exact absurd ⟨x,j,y⟩ (K.out p h2)
       ·exact h
     have V:(b:Int)<=(a:Int):=oM;have W:Hid (rS s a):=⟨x,j,y⟩;clear NO;go_wp2_with (at_builtin;refine bC 50 (v:=J e (O c) f) (xv:=J (aS (E (U wr))) 1 1) (R:=λz A=>App (wr.alloc (Ob #[.string (s.extract b a)] 9)) (E (U w)) 9 1 (J e (O c) f) (O c) (cd c) [.string (s.extract b a)] 1 z A) rQ rQ rQ rQ (fg Tryz.underlying50 tV Q dC d.row d.below.size #[.string (s.extract b a)] rfl G (by unfold maxLen;omega) oM _ Q) ?_;rintro X Y m;obtain⟨B,C,rfl⟩:=m.shape)
     go_roundg (s.size - (a+1))
     case measure=>rw[t.out];omega
     case rel=>
      refine⟨a+1,a+2,c++[s.extract b a],B,C,Q,by go_num,by go_num,sQ,oM,⟨m.below (d.below.alloc d.below.size _) (by have:=d.below.size;simp;omega) F,by have:=m.row;simpa[cd] using this,by simp;omega,λ_=>by simp,.inr ⟨a,Q,oM,W.out⟩⟩⟩
  ·have H:¬(a:Int)+1<(s.size:Int):=oM;have ae:decide ((a:Int)+1<(s.size:Int))=false:=sU H;have V:(b:Int)<=(s.size:Int):=oM;go_wp2_with (at_builtin;refine bC 50 (v:=J e (O c) f) (xv:=J (aS (E (U wr))) 1 1) (R:=λz A=>App (wr.alloc (Ob #[.string (s.extract b s.size)] 9)) (E (U w)) 9 1 (J e (O c) f) (O c) (cd c) [.string (s.extract b s.size)] 1 z A) rQ rQ rQ rQ (fg Tryz.underlying50 tV Q dC d.row d.below.size #[.string (s.extract b s.size)] rfl G (by unfold maxLen;omega) oM _ Q) ?_;rintro X Y m;obtain⟨B,C,rfl⟩:=m.shape)
   go_ret;refine⟨B,C,c++[s.extract b s.size],sQ,by have:=m.row;simpa[cd] using this,⟨sQ,by simp;omega⟩,λ⟨i,o⟩=>?_,m.below (d.below.alloc d.below.size _) (by have:=d.below.size;simp;omega) F⟩;have:=d.kX ⟨i,oH o.1,o⟩;simp;omega
theorem yz {d:Nat} (o:fj 103 17 d) (p:fj 88 18 d):fj 88 18 (d+1):=by
 intro w x y z e c q A h i;have B:=h.l;have j:Hid (Bd (d+1) c e q 18):=i;clear i;have C:(0:Int)<=(c.pos e:Int)/\(c.pos e:Int)<=7000:=oH (h.ar.aO e);go_enter Tryz.func88,Tryz.ntmps88
 have a:=Mz.start (wt:=1) h;go_wp2_with fail;replace a:=a.ne' (sz w) (aB);refine a.nd (o · (j.out.down a.le a.ok dC)) ?_;clear a;intro r s f D F G _ a;have b:=a.f1;have t:(0:Int)<=(c.pos f:Int)/\(c.pos f:Int)<=7000:=oH (h.ar.aO f);go_wp2_with fail;refine(a.ne' (sz r) s.a).lf (aW · 0 dC _) ?_;clear a b;intro H a;have b:=a.f2;go_wp2_with fail
 ·have u:Hid (∀k l m,(l=0->e<k)->m<64->Bd d c k l m):=j.out.dA (a.ok (dI h.ar a.st.rd.lt ‹_›).1) h.lt;go_wp2_with fail;refine a.lf (aE · 32) ?_;clear a b;intro v a;have b:=a.f2;go_wp2_with fail;refine(a.ne' (sz v) (nk 32 (c.pos f) nl)).wn (aH · _) ?_;clear a b;intro K L M N _ a;have b:=a.f3;go_wp2_with fail;go_region_law (replace a:=a.drew;go_simp;refine a.nd (p · (a.bd u.out dC)) ?_;clear a b;intro n P R S T V _ a;have b:=a.f3)
  all_goals
   go_wp2_with fail;go_light;refine(((a.swap).ek (sl (sz n) 2)).l2 (sz n) 32 (c.pos f) 0 0 ⟨#[]⟩ t).rt Tryz.results88 2 ?_;simp[bA,World.setCell_alloc_past,b,sL]
 ·go_wp2_with fail;go_light;exact a.rt Tryz.results88 1
theorem qS {e:Nat} {w:World} {rb f j i:Nat} {t:Tk} {k a:Int} (h:Rd w rb f j t i k a) (l:Bd (e+1) t i k 3) (m:bW t i k 0 ⟨#[105,110,116]⟩=false) (n:bW t i k 0 ⟨#[98,111,111,108]⟩=true):Calls Tryz.prog 81 #[.pointer (some ⟨rb,0,I⟩)] w (aY 3 w rb f j t i k True 8 cH):=by
 have q:=h.l;have r:Hid (Bd (e+1) t i k 3):=l;clear l;have o:(0:Int)<=(t.pos i:Int)/\(t.pos i:Int)<=7000:=oH (h.ar.aO i);go_enter Tryz.func81,Tryz.ntmps81
 have s:=dK;have u:(i:Int)<(t.len:Int):=oH h.lt;have v:(t.len:Int)<=6001:=oH h.ar.bB;have b:=Mz.start (wt:=3) h;go_wp2_with fail;refine(b.ne' (sz w) (aB)).lf (aE · 0) ?_;clear b;intro p b;have c:=b.f1;go_wp2_with fail;refine(b.ne' (sz p) (nk 0 (t.pos i) nl)).lf (bu · _ m) ?_;clear b c;intro x b;have c:=b.f2;go_wp2_with fail;refine b.ey (eP · _ n) ?_;clear b c;intro y b;have c:=b.f2;go_wp2_with fail;go_light;exact Mz.cC (C:=cH) (d:=8) Tryz.results81 Q Q ((b.fE 14).lk 14 (t.pos i) 0 0 ⟨#[]⟩ o dC (λ_=>Gr.free (.inr (.inr (.inl Q))))) 1 Q (λ_=>⟨by show(13:Int)<=14;decide,by show(14:Int)<=18;decide⟩) oM Q
theorem rZ {e:Nat} (s:qO 3 e) {w:World} {rb l m i:Nat} {t:Tk} {k a:Int} (h:Rd w rb l m t i k a) (n:Bd (e+1) t i k 3) (u:bW t i k 0 ⟨#[105,110,116]⟩=false) (v:bW t i k 0 ⟨#[98,111,111,108]⟩=false) (o:bW t i k 0 ⟨#[40]⟩=true):Calls Tryz.prog 81 #[.pointer (some ⟨rb,0,I⟩)] w (aY 3 w rb l m t i k True 8 cH):=by
 have G:=h.l;have x:Hid (Bd (e+1) t i k 3):=n;clear n;have y:(0:Int)<=(t.pos i:Int)/\(t.pos i:Int)<=7000:=oH (h.ar.aO i);go_enter Tryz.func81,Tryz.ntmps81
 have H:=dK;have K:(i:Int)<(t.len:Int):=oH h.lt;have L:(t.len:Int)<=6001:=oH h.ar.bB;have b:=Mz.start (wt:=3) h;go_wp2_with fail;refine(b.ne' (sz w) (aB)).lf (aE · 0) ?_;clear b;intro z b;have c:=b.f1;go_wp2_with fail;refine(b.ne' (sz z) (nk 0 (t.pos i) nl)).lf (bu · _ u) ?_;clear b c;intro M b;have c:=b.f2;go_wp2_with fail;refine b.lf (bu · _ v) ?_;clear b c;intro N b;have c:=b.f2;go_wp2_with fail;refine b.ey (eP · _ o) ?_;clear b c;intro P b;have c:=b.f2;go_wp2_with fail;replace b:=b.fE 15;refine b.li (s · (b.bd (x.out.dA (dI h.ar h.lt o).1 h.lt) dC) _) ?_;clear b c;intro R A p f S T V B q W b;have c:=b.f2;by_cases D:O f=1
 ·obtain⟨F,rfl,X,Y,r,Z,aa,ab,ac,ad,ae,af,ag,rfl,ah⟩:=b.first D
  obtain⟨ai,aj⟩:=b.jM r 0 Q;obtain⟨ak,al⟩:=b.jM r 1 Q;go_wp2_with fail;go_light;exact Mz.cC (C:=cH) (d:=8) Tryz.results81 Q Q (b.ek (J (some ⟨F,0,I⟩) 1 p)).xH 1 Q (λj=>q j _ sQ) oM Q
 ·have ao:((O f:Int)==1)=false:=by simp;omega
  go_wp2_with fail;go_light;exact Mz.cC (C:=cH) (d:=8) Tryz.results81 Q Q ((b.ek (J A (O f) p)).fk 15 (t.pos i) (lT B dC) y (λj=>Gr.nU (q j))) 1 Q (λ_=>⟨by show(13:Int)<=15;decide,by show(15:Int)<=18;decide⟩) oM Q
end Go.Proofs.YtcnnibahjmekdaaGreat
