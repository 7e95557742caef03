import Derived.Laws.OwnMore
import Derived.Deep.DeepCutAuto
import Derived.Deep.RegionHeld3
import Derived.Test.YtdghkacbpebcoaaGreatS01
namespace Go.Proofs.YtdghkacbpebcoaaGreat
open Go.RowKit
open Value renaming slice→J
open List renaming length→O
open Option renaming none→I
open World renaming heap→U
open _root_.Array renaming size→E
open Obj renaming cells→Ob
set_option linter.all false
set_option maxRecDepth 100000
set_option maxHeartbeats 0
def lP (ks:List Int):Prop:=∃ls ts,ks=ls++ts/\(∀x∈ls,x=19)/\∀x∈ts,cx x
section
variable{name:ByteArray} {kind m n pos:Int} {c:List Value} {B ad:Nat} {g:Prop} {kv:Value} {w:World}
theorem ck.at (c:Array Value) (h:ad=E (U w)):ck (w.alloc (Ob c 48)) ad c:=h▸ck.new w c
theorem aW {rb e f i:Nat} {t:Tk} {k a:Int} (h:Rd w rb e f t i k a):
 Calls Tryz.prog 16 #[.pointer (aS rb)] w λb d=>b=.returned (.bool (k==0))/\Below (E (U w)) w d:=by
 refine(jy h).mono ?_;rintro b d ⟨rfl,rfl⟩;exact⟨Q,Below.refl _ _⟩
theorem Kids.one (a:bf B g w (ae kind pos n m name kv).toList) (b:B<=E (U w)) (d:ad=E (U w)):
 Kids B g (w.alloc (Ob (ae kind pos n m name kv) 48)) (J (aS ad) 1 1) [(ae kind pos n m name kv).toList]:=by
 subst d;exact Kids.made [(ae kind pos n m name kv).toList] (ae kind pos n m name kv) sQ b sQ sQ (sU a)
theorem Kids.two {a b d e:Int} {f:ByteArray} {i:Value} (k:bf B g w (ae kind pos n m name kv).toList) (l:bf B g w (ae a b d e f i).toList) (o:B<=E (U w)) (p:ad=E (U w)):
 Kids B g (w.alloc (Ob (ae kind pos n m name kv++ae a b d e f i) 48)) (J (aS ad) 2 2) [(ae kind pos n m name kv).toList,(ae a b d e f i).toList]:=by
 subst p;refine Kids.made [(ae kind pos n m name kv).toList,(ae a b d e f i).toList] _ sQ o sQ sQ ?_;intro q j;simp only[List.mem_cons,List.not_mem_nil,or_false] at j;rcases j with rfl|rfl
 ·exact k
 ·exact l
theorem bf.alloc (h:bf B g w c) (o:Obj):bf B g (w.alloc o) c:=h.same (aq.alloc _ _ _)
theorem bf.put (h:bf B g w c) {b:Nat} (a:b<B) (o:Nat) (u:Value):bf B g (w.setCell ⟨b,o,I⟩ u) c:=h.same (aq.setCell _ ⟨b,o,I⟩ _ (by show ¬B<=b;omega))
theorem Kids.alloc {vs:VV} (h:Kids B g w kv vs) (o:Obj):Kids B g (w.alloc o) kv vs:=h.same (aq.alloc _ _ _)
end

section
variable{name:ByteArray} {aj kind kj m n pos:Int} {cs:List Value} {B b cap j rb tb:Nat} {S:Nat->Prop} {g:Prop} {t:Tk} {W w:World}
theorem ck.uU {c:Array Value} (h:ck w b c) {a:Nat} (d:b≠a) (c0 c1 c2 c3 e f i k l o q:Value):ck (Go.Proofs.YtdghkacbpebcoaaGreat.aK w a c0 c1 c2 c3 e f i k l o q) b c:=
 (ck.other (p:=⟨a,10,I⟩) (ck.other (p:=⟨a,9,I⟩) (ck.other (p:=⟨a,8,I⟩) (ck.other (p:=⟨a,7,I⟩) (ck.other (p:=⟨a,6,I⟩) (ck.other (p:=⟨a,5,I⟩) (ck.other (p:=⟨a,4,I⟩) (ck.other (p:=⟨a,3,I⟩) (ck.other (p:=⟨a,2,I⟩) (ck.other (p:=⟨a,1,I⟩) (ck.other (p:=⟨a,0,I⟩) h d _) d _) d _) d _) d _) d _) d _) d _) d _) d _) d _)
theorem St.aK (h:St w rb tb cap t W j kj aj) (a:E (U w)<=b) (c0 c1 c2 c3 c d e f i k l:Value):St w rb tb cap t (Go.Proofs.YtdghkacbpebcoaaGreat.aK W b c0 c1 c2 c3 c d e f i k l) j kj aj:=
 (St.put (St.put (St.put (St.put (St.put (St.put (St.put (St.put (St.put (St.put (St.put h a 0 _) a 1 _) a 2 _) a 3 _) a 4 _) a 5 _) a 6 _) a 7 _) a 8 _) a 9 _) a 10 _)
def eW (S:Nat->Prop) (g:Prop) (w:World) (cs:List Value):Prop:=∃h,isNode S g h w cs
theorem eW.same {w':World} (h:eW S g w cs) (a:aq S w w'):eW S g w' cs:=by
 obtain⟨n,c⟩:=h;exact⟨n,isNode.frame a n cs c⟩
theorem eW.weaken {S':Nat->Prop} {g':Prop} (h:eW S g w cs) (a:∀b,S b->S' b) (c:g'->g):eW S' g' w cs:=by
 obtain⟨n,d⟩:=h;exact⟨n,isNode.weaken a c n cs d⟩
theorem isNode.low:(h:Nat)->(cs:List Value)->isNode S g h w cs->isNode (λb=>S b/\b<E (U w)) g h w cs
 |0,_,hn=>hn
 |h+1,_,⟨kind,pos,n,m,name,kv,vs,h1,h2,h3,h3',h4,h5,h6,h7⟩=>
  ⟨kind,pos,n,m,name,kv,vs,h1,h2,h3,h3',h4,λb a=>⟨h5 b a,(h4.lt b a).2⟩,λc d=>isNode.low h c (h6 c d),h7⟩
theorem eW.low (h:eW S g w cs):eW (λb=>S b/\b<E (U w)) g w cs:=by
 obtain⟨n,a⟩:=h;exact⟨n,isNode.low n cs a⟩
theorem bf.s (h:bf B g w cs):eW (λb=>B<=b) g w cs:=h
abbrev iW (akind apos an am:Int) (aname:ByteArray) (akv:Value) (bkind bpos bn bm:Int) (bname:ByteArray) (bkv:Value):Array Value:=#[vN akind,vN apos,vN an,vN am,.string aname,akv,vN 0,vN 0,J I 0 0,J I 0 0,J I 0 0,vN bkind,vN bpos,vN bn,vN bm,.string bname,bkv,vN 0,vN 0,J I 0 0,J I 0 0,J I 0 0]
theorem eW.two {a c d f:Int} {i:ByteArray} {k:Value} {l o p q:Int} {r:ByteArray} {s:Value} (x:eW S g W (ae a c d f i k).toList) (u:eW S g W (ae l o p q r s).toList) {ad:Nat} (y:ad=E (U W)) (hS:S ad)
 (z:name.size<=20000) (A:0<=pos/\pos<=7000) (C:20<=kind):
  eW S g (W.alloc (Ob (iW a c d f i k l o p q r s) 48)) (ae kind pos n m name (J (aS ad) 2 2)).toList:=by
  subst y;obtain⟨D,F⟩:=x;obtain⟨G,H⟩:=u;have K:=World.ownsRow_lit (base:=0) (e:=48) (size:=11) W (iW a c d f i k l o p q r s) 2 (zL _) dC Q;refine⟨max D G+1,kind,pos,n,m,name,_,[(ae a c d f i k).toList,(ae l o p q r s).toList],Q,z,A,sQ,K,?_,?_,λ_=>Gr.free (.inl C)⟩
  ·intro b u;simp[Value.ownBlock] at u;exact u▸hS
  ·intro L v;simp only[List.mem_cons,List.not_mem_nil,or_false] at v;rcases v with rfl|rfl
   ·exact isNode.frame (aq.alloc _ _ _) _ _ (isNode.le F _ (Nat.le_max_left _ _))
   ·exact isNode.frame (aq.alloc _ _ _) _ _ (isNode.le H _ (Nat.le_max_right _ _))
structure Ln (w:World) (rb tb cap:Nat) (t:Tk) (i:Nat) (k:Int) (b1:Nat) (wr:World) (kind pos n m:Int) (name:ByteArray) (kv:Value) (j:Nat) (kj aj:Int):Prop where
 st:St w rb tb cap t wr j kj aj
 z:ck wr (E (U w)) aB
 l:ck wr b1 (ae kind pos n m name kv)
 tree:eW (λb=>E (U w)<b/\b≠b1) (kj=0) wr (ae kind pos n m name kv).toList
 lt:E (U w)<b1
 le:i<=j
 ok:kj=0->k=0
 go:kj=0->i<j
theorem Ln.next {wr a:World} {i:Nat} {k:Int} {d:Nat} {kv:Value} (e:Ln w rb tb cap t i k d wr kind pos n m name kv j kj aj)
 {c:Nat} (ac:E (U wr)<=c) (ad:c<B) {q:Nat} {o u:Int} (r:St wr rb tb cap t a q o u) (y:St w rb tb cap t a q o u) {z A C D:Int} {F:ByteArray} {G:Value} (L:bf B (o=0) a (ae z A C D F G).toList)
 (af:j<=q) (v:o=0->kj=0) {K P:Int} {s:ByteArray} (hK:20<=K) (M:0<=P/\P<=7000) (N:s.size<=20000):
  Ln w rb tb cap t i k d ((Go.Proofs.YtdghkacbpebcoaaGreat.aK (a.setCell ⟨c,5,I⟩ (J (aS (E (U a))) 2 2)) d (vN K) (vN P) (vN 0) (vN 0) (.string s) (J (aS (E (U a))) 2 2) (vN 0) (vN 0) (J I 0 0) (J I 0 0) (J I 0 0)).alloc (Ob (iW kind pos n m name kv z A C D F G) 48)) K P 0 0 s (J (aS (E (U a))) 2 2) q o u:=by
  have ag:=y.lb;have ah:=e.l.lt;have ai:=e.z.lt;have R:=e.lt;have ak:=r.size;have T:d≠rb:=oM;have V:d≠c:=oM;have X:ck a (E (U w)) aB:=e.z.kp r.kp oM;have Y:ck a d (ae kind pos n m name kv):=e.l.kp r.kp T
  have H:aq (λb=>b≠d/\b≠c) a (Go.Proofs.YtdghkacbpebcoaaGreat.aK (a.setCell ⟨c,5,I⟩ (J (aS (E (U a))) 2 2)) d (vN K) (vN P) (vN 0) (vN 0) (.string s) (J (aS (E (U a))) 2 2) (vN 0) (vN 0) (J I 0 0) (J I 0 0) (J I 0 0)):=
   (aq.setCell a ⟨c,5,I⟩ _ (λl=>l.2 Q)).trans (aq.aK (λl=>l.1 Q) _ _ _ _ _ _ _ _ _ _ _) sQ
  refine⟨((y.put (b:=c) oM 5 _).aK oM _ _ _ _ _ _ _ _ _ _ _).alloc _,((X.other (p:=⟨c,5,I⟩) (by show E (U w)≠c;omega) _).uU oM _ _ _ _ _ _ _ _ _ _ _).alloc _,((ck.aK (Y.other (p:=⟨c,5,I⟩) V _) _ _ _ _ _ _ _ _ _ _ _)).alloc _,?_,R,oH e.le,λx=>e.ok (v x),λx=>oH (e.go (v x))⟩;refine eW.two ?_ ?_ sQ ⟨oM,oM⟩ N M hK
  ·have Z:eW (λb=>(E (U w)<b/\b≠d)/\b<E (U wr)) (o=0) wr (ae kind pos n m name kv).toList:=e.tree.low.weaken (λb f=>f) v;have aa:=Z.same (aq.kp r.kp oM);have ab:=aa.same (H.mono (λb f=>⟨f.1.2,oH f.2⟩));exact ab.weaken (λb f=>f.1) (λl=>l)
  ·have al:d<B:=oM;exact(L.s.same (H.mono (λb f=>⟨oM,oM⟩))).weaken (λb f=>⟨oM,oM⟩) (λl=>l)
end
theorem jZ {w:World} {rb u v i:Nat} {t:Tk} {k a:Int} (h:Rd w rb u v t i k a) {sb:Nat} (b:List ByteArray) (n:∀(j:Nat) (y:j<O b),w.cell? ⟨sb,j,I⟩=some (.string b[j])) (z:sb<E (U w)) (L:O b<=10) (A:∀x∈b,x.size<=10):
 Calls Tryz.prog 114 #[.pointer (aS rb),J (aS sb) (O b) (O b)] w λe B=>∃f:ByteArray,e=.returned (.string f)/\Below (E (U w)) w B/\f.size<=10/\(f.toList.isEmpty=false->bS t i k 0 f=true/\f∈b):=by
 have C:Hid (∀(j:Nat) (y:j<O b),w.cell? ⟨sb,j,I⟩=some (.string b[j])):=n;clear n;go_enter Tryz.func114,Tryz.ntmps114
 go_wp2_with fail;go_loopg [9,6] (O b) (λg D _ wr=>∃c:Nat,c<=O b/\g=O b - c/\D=vN c/\Below (E (U w)) w wr)
 case atStart=>exact⟨0,zL _,oM,Q,Below.refl _ _⟩
 case round=>
  obtain⟨c,M,o,rfl,d⟩:=hrel;have F:Hid (gk=O b - c):=o;clear o;by_cases q:c<O b
  ·have N:(c:Int)<(O b:Int):=oM;have G:wr.cell? ⟨sb,c,I⟩=some (.string b[c]):=by rw[d.cell (p:=⟨sb,c,I⟩) z];exact C.out c q
   have r:=h.below d;obtain⟨x,l⟩:∃x,x=b[c]:=⟨_,Q⟩;have s:Hid (x=b[c]):=l;rw[<-l] at G;clear l
   cases H:bS t i k 0 x
   ·go_wp2_with (go_at_call 35;refine(aX r 0 dC _).mono ?_;rintro e K ⟨rfl,m⟩)
    go_roundg (O b - (c+1))
    case measure=>rw[F.out];omega
    case rel=>exact⟨c+1,q,Q,by go_num,d.trans (m.mono d.size)⟩
   ·go_wp2_with (go_at_call 35;refine(aX r 0 dC _).mono ?_;rintro e K ⟨rfl,m⟩)
    go_ret;exact⟨x,Q,d.trans (m.mono d.size),by rw[s.out];exact A _ (List.getElem_mem _),λ_=>⟨H,by rw[s.out];exact List.getElem_mem _⟩⟩
  ·go_wp2_with fail;go_ret;exact⟨⟨#[]⟩,Q,d,dC,λe=>by simp[Lib.toList_data] at e⟩
theorem jY (w:World) (b:List ByteArray):∀(a:Nat) (c:a<O b),(w.alloc (Ob (b.map Value.string).toArray 9)).cell? ⟨E (U w),a,I⟩=some (.string b[a]):=by
 intro a c;rw[cell_of_row _ (E (U w)) a _ 9 (0,0) (heap_alloc_new w _)];simp[c]

section
variable{c':Array Value} {name:ByteArray} {a' k' kind m pos:Int} {c:List Value} {b i' n r:Nat} {must:Prop} {us vs':VV} {kv' v':Value}
def Out (w:World) (A:List Nat) (kv:Value) (b:Nat):Prop:=E (U w)<=b/\b∉A/\kv.ownBlock≠some b
def ja (p:Nat × Array Value):Nat:=p.1
structure br (w:World) (rb tb cap:Nat) (t:Tk) (i:Nat) (k:Int) (g:Prop) (W:World) (j:Nat) (kj aj:Int) (L:List (Nat × Array Value)) (T:VV) (kv:Value) (vs:VV):Prop where
 st:St w rb tb cap t W j kj aj
 le:i<=j
 ok:kj=0->k=0
 go:g->kj=0->i<j
 dV:∀(n:Nat) (p:Nat × Array Value),L[n]? =some p->E (U w)<=ja p/\ck W (ja p) p.2
 nd:(L.map ja).Nodup
 row:W.ownsRow (E (U w)) 48 11 kv (O vs) vs.flatten
 eK:∀b,kv.ownBlock=some b->b∉L.map ja
 all:∃h,∀x,x∈vs\/x∈T->isNode (Out w (L.map ja) kv) (kj=0) h W x
section
variable{w W w':World} {rb tb cap i j:Nat} {t:Tk} {k kj aj:Int} {g:Prop} {L:List (Nat × Array Value)} {T:VV} {kv:Value} {vs:VV}
theorem br.start {a:Int} (h:Rd w rb tb cap t i k a):br w rb tb cap t i k False w i k a [] [] (J I 0 0) []:=
 ⟨h.st,lR _,λd=>d,λd=>absurd d (λe=>e),λn l d=>by simp at d,sQ,World.ownsRow_nil _ _ _ _,λb d=>by simp,0,λe f=>by simp at f⟩
theorem br.lt (q:br w rb tb cap t i k g W j kj aj L T kv vs):∀b∈L.map ja,b<E (U W):=by
 intro b a;obtain⟨d,e,rfl⟩:=List.mem_map.1 a;obtain⟨n,f⟩:=List.getElem?_of_mem e;exact(q.dV n d f).2.lt
theorem br.xJ (q:br w rb tb cap t i k g W j kj aj L T kv vs):∀b,kv.ownBlock=some b->b<E (U W):=λb a=>(q.row.lt b a).2
theorem br.rk (q:br w rb tb cap t i k g W j kj aj L T kv vs) (s:Rd w' rb tb cap t i' k' a') (d:Kp (E (U W)) rb W w') (p:j<=i') (e:k'=0->kj=0):br w rb tb cap t i k g w' i' k' a' L T kv vs:=by
 have y:=q.st.lb;refine⟨q.st.rk s d,lT q.le p,λa=>q.ok (e a),λf a=>Nat.lt_of_lt_of_le (q.go f (e a)) p,λn l a=>⟨(q.dV n l a).1,(q.dV n l a).2.kp d (oH (q.dV n l a).1)⟩,q.nd,ah q.row (λb o u=>d.block b u (oH (q.row.lt b o).1)),q.eK,?_⟩;obtain⟨h,v⟩:=q.all;exact⟨h,λf x=>isNode.weaken (λb o=>o) e _ _ (isNode.frame (aq.kp d (λa=>oH a.1)) _ _ (v f x))⟩
theorem br.nx (q:br w rb tb cap t i k g W j kj aj L T kv vs) (a:Nx W rb tb cap t j kj must w' i' k' a'):br w rb tb cap t i k g w' i' k' a' L T kv vs:=q.rk a.rd a.kp a.le a.ok
theorem br.up (q:br w rb tb cap t i k g W j kj aj L T kv vs) {g':Prop} (a:g'->kj=0->i<j):br w rb tb cap t i k g' W j kj aj L T kv vs:=⟨q.st,q.le,q.ok,a,q.dV,q.nd,q.row,q.eK,q.all⟩
theorem br.pX (q:br w rb tb cap t i k g W j kj aj L T kv vs) (a:Nx W rb tb cap t j kj True w' i' k' a'):br w rb tb cap t i k True w' i' k' a' L T kv vs:=(q.nx a).up (λ_ d=>Nat.lt_of_le_of_lt q.le (a.go trivial d))
theorem br.below (q:br w rb tb cap t i k g W j kj aj L T kv vs) (a:Below (E (U W)) W w'):br w rb tb cap t i k g w' j kj aj L T kv vs:=q.nx (Nx.below q.st.rd a)
theorem br.drew (q:br w rb tb cap t i k g W j kj aj L T kv vs):br w rb tb cap t i k g W.drew j kj aj L T kv vs:=q.below (Below.refl _ _).drew
theorem br.alloc (q:br w rb tb cap t i k g W j kj aj L T kv vs) (o:Obj):br w rb tb cap t i k g (W.alloc o) j kj aj L T kv vs:=q.below ((Below.refl _ _).alloc (lR _) o)
theorem br.new (q:br w rb tb cap t i k g W j kj aj L T kv vs) (c:Array Value):br w rb tb cap t i k g (W.alloc (Ob c 48)) j kj aj ((E (U W),c)::L) T kv vs:=by
 have d:=q.alloc (Ob c 48);refine⟨d.st,d.le,d.ok,d.go,?_,?_,d.row,?_,?_⟩
 ·intro n f a
  cases n with
  |zero=>
   obtain rfl:(E (U W),c)=f:=sU a;exact⟨q.st.size,ck.new W c⟩
  |succ n=>exact d.dV n f (sU a)
 ·rw[List.map_cons,List.nodup_cons];exact⟨λa=>absurd (q.lt _ a) (Nat.lt_irrefl _),q.nd⟩
 ·intro b l a;rw[List.map_cons,List.mem_cons] at a;rcases a with a|a
  ·have:=q.xJ b l;simp[ja] at a;omega
  ·exact q.eK b l a
 ·obtain⟨h,o⟩:=q.all;refine⟨h,λe p=>isNode.frame (aq.alloc _ _ _) _ _ (isNode.weaken ?_ (λe=>e) _ _ (isNode.low _ _ (o e p)))⟩;rintro b ⟨⟨s,u,v⟩,x⟩;refine⟨s,?_,v⟩;rw[List.map_cons,List.mem_cons];rintro(a|a)
  ·simp[ja] at a;omega
  ·exact u a
theorem nO {c:Array Value} (a:L[n]? =some (b,c)):(L.set n (b,c')).map ja=L.map ja:=by
 apply List.ext_getElem?
 intro m;rw[List.getElem?_map,List.getElem?_map,List.getElem?_set];by_cases d:n=m
 ·subst d;rw[if_pos Q,a];have:n<O L:=(gS a).1;simp[this,ja]
 ·rw[if_neg d]
theorem br.put (q:br w rb tb cap t i k g W j kj aj L T kv vs) (n:Nat) {c:Array Value} (d:L[n]? =some (b,c)) (o:Nat) (u:Value):br w rb tb cap t i k g (W.setCell ⟨b,o,I⟩ u) j kj aj (L.set n (b,c.setIfInBounds o u)) T kv vs:=by
 have x:=(q.dV n _ d).1;have z:=(q.dV n _ d).2;have y:b∈L.map ja:=List.mem_map.2 ⟨_,mG d,Q⟩;have e:(L.set n (b,c.setIfInBounds o u)).map ja=L.map ja:=nO d;refine⟨q.st.put x o u,q.le,q.ok,q.go,?_,by rw[e];exact q.nd,?_,by rw[e];exact q.eK,?_⟩
 ·intro m p a;rw[List.getElem?_set] at a;by_cases f:n=m
  ·subst f;rw[if_pos rfl] at a;have l:n<O L:=(gS d).1;rw[if_pos l] at a;obtain rfl:(b,c.setIfInBounds o u)=p:=sU a;exact⟨x,z.set o u⟩
  ·rw[if_neg f] at a;refine⟨(q.dV m p a).1,(q.dV m p a).2.other (p:=⟨b,o,I⟩) (λA=>f ?_) u⟩;have l:n<O (L.map ja):=by rw[List.length_map];exact(gS d).1
   refine(List.getElem?_inj l q.nd).1 ?_;rw[List.getElem?_map,List.getElem?_map,d,a];show some b=some (ja p);rw[A]
 ·exact ah q.row (λs v _=>Below.heap_setCell _ _ _ _ (λa=>q.eK s v (by rw[a];exact y)))
 ·obtain⟨h,B⟩:=q.all;rw[e];exact⟨h,λs v=>isNode.frame (aq.setCell _ ⟨b,o,I⟩ _ (λa=>a.2.1 y)) _ _ (B s v)⟩
theorem br.jB (q:br w rb tb cap t i k g W j kj aj L T kv vs) {j':Nat} (d:j'<t.len) (a:j<j'):br w rb tb cap t i k True (W.setCell ⟨rb,1,I⟩ (vN j')) j' kj aj L T kv vs:=
 (q.rk (q.st.rd.sj d) (Kp.setCell (p:=⟨rb,1,I⟩) (Kp.refl _ _ _) (.inr Q) _) (Nat.le_of_lt a) (λe=>e)).up (λ_ _=>Nat.lt_of_le_of_lt q.le a)
theorem br.hold (q:br w rb tb cap t i k g W j kj aj L T kv vs) {e:Nat} (o:E (U w)<=e) (p:∀b∈L.map ja,b<e) (s:∀b,kv.ownBlock=some b->b<e) (u:bf e (kj=0) W c):br w rb tb cap t i k g W j kj aj L (c::T) kv vs:=by
 obtain⟨h,v⟩:=q.all;obtain⟨x,y⟩:=u;refine⟨q.st,q.le,q.ok,q.go,q.dV,q.nd,q.row,q.eK,max h x,λd a=>?_⟩
 have z:(d∈vs\/d∈T)\/d=c:=by
  rcases a with a|a
  ·exact .inl (.inl a)
  ·rcases List.mem_cons.1 a with a|a
   ·exact .inr a
   ·exact .inl (.inr a)
 rcases z with a|rfl
 ·exact isNode.le (v d a) _ (Nat.le_max_left _ _)
 ·exact isNode.le (isNode.weaken (λb f=>⟨lT o f,λl=>absurd (p b l) (Nat.not_lt.2 f),λl=>absurd (s b l) (Nat.not_lt.2 f)⟩) (λd=>d) _ _ y) _ (Nat.le_max_right _ _)
theorem br.node (q:br w rb tb cap t i k g W j kj aj L T kv vs) (a:Nx W rb tb cap t j kj must w' i' k' a') (d:bf (E (U W)) (k'=0) w' c):br w rb tb cap t i k g w' i' k' a' L (c::T) kv vs:=
 (q.nx a).hold q.st.size q.lt q.xJ d
theorem br.tj (q:br w rb tb cap t i k g W j kj aj L T kv vs) (a:Nx W rb tb cap t j kj True w' i' k' a') (d:bf (E (U W)) (k'=0) w' c):br w rb tb cap t i k True w' i' k' a' L (c::T) kv vs:=
 (q.pX a).hold q.st.size q.lt q.xJ d
theorem br.holds (q:br w rb tb cap t i k g W j kj aj L T kv vs) (a:Nx W rb tb cap t j kj must w' i' k' a') (hK:Kids (E (U W)) (k'=0) w' kv' vs'):br w rb tb cap t i k g w' i' k' a' L (vs'++T) kv vs:=by
 have d:=q.nx a;obtain⟨h,o⟩:=d.all;obtain⟨p,s⟩:=hK.all;refine⟨d.st,d.le,d.ok,d.go,d.dV,d.nd,d.row,d.eK,max h p,λe a=>?_⟩
 have u:(e∈vs\/e∈T)\/e∈vs':=by
  rcases a with a|a
  ·exact .inl (.inl a)
  ·rcases List.mem_append.1 a with a|a
   ·exact .inr a
   ·exact .inl (.inr a)
 rcases u with a|a
 ·exact isNode.le (o e a) _ (Nat.le_max_left _ _)
 ·exact isNode.le (isNode.weaken (λb f=>⟨lT q.st.size f.1,λl=>absurd (q.lt b l) (Nat.not_lt.2 f.1),λl=>absurd (q.xJ b l) (Nat.not_lt.2 f.1)⟩) (λe=>e) _ _ (s e a)) _ (Nat.le_max_right _ _)
theorem br.list (q:br w rb tb cap t i k g W j kj aj L T (J I 0 0) []) (o:Nx W rb tb cap t j kj must w' i' k' a') (hK:Kids (E (U W)) (k'=0) w' kv' vs'):br w rb tb cap t i k g w' i' k' a' L T kv' vs':=by
 have d:=q.nx o;obtain⟨h,p⟩:=q.all;obtain⟨s,u⟩:=hK.all;refine⟨d.st,d.le,d.ok,d.go,d.dV,d.nd,dJ hK.row q.st.size,λb e a=>absurd (q.lt b a) (Nat.not_lt.2 (hK.row.lt b e).1),max h s,λl f=>?_⟩;rcases f with f|f
 ·exact isNode.le (isNode.weaken (λb e=>⟨lT q.st.size e.1,λa=>absurd (q.lt b a) (Nat.not_lt.2 e.1),e.2⟩) (λl=>l) _ _ (u l f)) _ (Nat.le_max_right _ _)
 ·have v:=isNode.frame (aq.kp o.kp (λa=>oI a.1.1 q.st.lb)) _ _ (isNode.low _ _ (p l (.inr f)));refine isNode.le (isNode.weaken ?_ o.ok _ _ v) _ (Nat.le_max_left _ _);rintro b ⟨⟨x,y,_⟩,z⟩;exact⟨x,y,λa=>absurd (hK.row.lt b a).1 (Nat.not_le.2 z)⟩
theorem br.sub (q:br w rb tb cap t i k g W j kj aj L T kv vs) {T':VV} (a:∀x∈T',x∈T):br w rb tb cap t i k g W j kj aj L T' kv vs:=by
 obtain⟨h,d⟩:=q.all;exact⟨q.st,q.le,q.ok,q.go,q.dV,q.nd,q.row,q.eK,h,λx e=>d x (e.imp (λx=>x) (a x))⟩
theorem br.app (q:br w rb tb cap t i k g W j kj aj L (us++T) kv vs) (s:w'.ownsRow (E (U w)) 48 11 v' (O vs+O us) (vs.flatten++us.flatten)) (o:W.grownBy w' kv.ownBlock) (a:v'.ownBlock=kv.ownBlock\/v'.ownBlock=some (E (U W))):br w rb tb cap t i k g w' j kj aj L T v' (vs++us):=by
 obtain⟨h,u⟩:=q.all;refine⟨q.st.grown o (λb f=>(q.row.lt b f).1),q.le,q.ok,q.go,λn p d=>⟨(q.dV n p d).1,(q.dV n p d).2.grown o (λv=>q.eK _ v.symm (List.mem_map.2 ⟨p,mG d,Q⟩))⟩,q.nd,sU s,?_,h,λl e=>?_⟩
 ·intro b f d;rcases a with a|a
  ·exact q.eK b (by rw[<-a];exact f) d
  ·rw[a] at f;have:=q.lt b d;simp at f;omega
 ·have x:l∈vs\/l∈us++T:=by
   rcases e with e|e
   ·rcases List.mem_append.1 e with e|e
    ·exact .inl e
    ·exact .inr (List.mem_append.2 (.inl e))
   ·exact .inr (List.mem_append.2 (.inr e))
  refine isNode.weaken ?_ (λl=>l) _ _ (isNode.frame (aq.grown o (λb d f=>f.1.2.2 d)) _ _ (isNode.low _ _ (u l x)));rintro b ⟨⟨y,z,A⟩,B⟩;refine⟨y,z,?_⟩;rcases a with a|a
  ·rw[a];exact A
  ·rw[a];intro d;simp at d;omega
theorem br.snoc (q:br w rb tb cap t i k g W j kj aj L (c::T) kv vs) (a:w'.ownsRow (E (U w)) 48 11 v' (O vs+1) (vs.flatten++c)) (d:W.grownBy w' kv.ownBlock) (e:v'.ownBlock=kv.ownBlock\/v'.ownBlock=some (E (U W))):br w rb tb cap t i k g w' j kj aj L T v' (vs++[c]):=
 br.app (us:=[c]) q (sU a) d e
theorem br.made (q:br w rb tb cap t i k g W j kj aj L (us++T) (J I 0 0) []) (cs:Array Value) (d:cs.toList=us.flatten) (hl:O us<=20000) (f:∀x∈us,O x=11) {ad:Nat} (o:ad=E (U W)) (p:n=O us):
 br w rb tb cap t i k g (W.alloc (Ob cs 48)) j kj aj L T (J (aS ad) n n) us:=by
 subst o p;have a:=q.alloc (Ob cs 48)
 have s:O us.flatten=O us*11:=by
  clear d hl q a;induction us with
  |nil=>rfl
  |cons x r u=>simp only[List.flatten_cons,List.length_append,List.length_cons];rw[u (λv y=>f v (List.mem_cons_of_mem _ y)),f x (List.mem_cons_self ..)];omega
 have l:=World.ownsRow_lit (base:=E (U w)) (e:=48) (size:=11) W cs (O us) q.st.size (by unfold maxLen;omega) (by rw[<-Array.length_toList,d,s]);rw[d] at l;obtain⟨h,z⟩:=q.all;refine⟨a.st,a.le,a.ok,a.go,a.dV,a.nd,l,?_,h,λx A=>isNode.frame (aq.alloc _ _ _) _ _ (isNode.weaken ?_ (λx=>x) _ _ (isNode.low _ _ (z x (.inr (List.mem_append.2 A)))))⟩
 ·intro b B e;have:=q.lt b e;simp[Value.ownBlock] at B;omega
 ·rintro b ⟨⟨C,D,_⟩,F⟩;refine⟨C,D,λe=>?_⟩;simp[Value.ownBlock] at e;omega
theorem br.fold (q:br w rb tb cap t i k g W j kj aj L T kv vs) (hl:O vs<=20000) {n:Int} (l:name.size<=20000) (o:0<=pos/\pos<=7000) (p:kj=0->Gr kind n name (vs.map az)):br w rb tb cap t i k g W j kj aj L ((ae kind pos n m name kv).toList::T) (J I 0 0) []:=by
 obtain⟨h,s⟩:=q.all;have f:∀a,a∈vs\/a∈T->isNode (Out w (L.map ja) (J I 0 0)) (kj=0) h W a:=λa d=>isNode.weaken (λb e=>⟨e.1,e.2.1,by simp[Value.ownBlock]⟩) (λa=>a) _ _ (s a d);refine⟨q.st,q.le,q.ok,q.go,q.dV,q.nd,World.ownsRow_nil _ _ _ _,λb u=>by simp[Value.ownBlock] at u,h+1,λa d=>?_⟩
 have v:a=(ae kind pos n m name kv).toList\/a∈T:=by
  rcases d with d|d
  ·simp at d
  ·exact List.mem_cons.1 d
 rcases v with rfl|d
 ·exact⟨kind,pos,n,m,name,kv,vs,Q,l,o,hl,dJ q.row (zL _),λb e=>⟨(q.row.lt b e).1,q.eK b e,by simp[Value.ownBlock]⟩,λa d=>f a (.inl d),p⟩
 ·exact isNode.up _ _ (f a (.inr d))
theorem br.bd {a:Nat} (q:br w rb tb cap t i k True W j kj aj L T kv vs) (e:∀i' k' d,(k'=0->i<i')->d<64->Bd a t i' k' d) (f:r<64):Bd a t j kj r:=e _ _ _ (q.go trivial) f
theorem br.tree (q:br w rb tb cap t i k g W j kj aj L (c::T) kv vs) {z:Array Value} (d:L[n]? =some (E (U w),z)):bf (E (U w)+1) (kj=0) W c:=by
 obtain⟨h,e⟩:=q.all;refine⟨h,isNode.weaken (λb a=>?_) (λf=>f) _ _ (e c (.inr (List.mem_cons_self ..)))⟩;have o:=a.1;have p:b≠E (U w):=λl=>a.2.1 (List.mem_map.2 ⟨_,mG d,l▸rfl⟩);omega
theorem br.ret {d:Func} (l:d.results=#[.cell r 48]) {a:Act} (o:a.defers=[]) (p:a.tmps.getD r undef=.pointer (aS (E (U w)))) {C:Int->Prop} {n:Int} {ko:OA} {kl kc:Nat}
 (q:br w rb tb cap t i k g W j kj aj L ((ae kind pos n m name (J ko kl kc)).toList::T) kv vs) (e:Nat) (f:L[e]? =some (E (U w),aB)) (s:kj=0->C (az (ae kind pos n m name (J ko kl kc)).toList)):
  bodyPost Tryz.prog d (eI w rb tb cap t i k g C) .ret a (Go.Proofs.YtdghkacbpebcoaaGreat.aK W (E (U w)) (vN kind) (vN pos) (vN n) (vN m) (.string name) (J ko kl kc) (vN 0) (vN 0) (J I 0 0) (J I 0 0) (J I 0 0)):=
  sE l o p (q.dV e _ f).2 q.st q.le q.ok q.go (q.tree f) s
theorem br.at (q:br w rb tb cap t i k g W j kj aj L T kv vs) (n:Nat) {c:Array Value} (d:L[n]? =some (b,c)):(Ce W b c)/\(∀e,W.frozen? ⟨b,e,I⟩=false)/\b<E (U W)/\b≠rb:=by
 have a:=q.dV n _ d;have f:=q.st.lb;exact⟨a.2.cell,a.2.fz,a.2.lt,by have:=a.1;simp only[ja] at this;omega⟩
theorem br.ne (q:br w rb tb cap t i k g W j kj aj L T kv vs) (n m:Nat) {a:Nat} {c:Array Value} (e:L[n]? =some (b,c)) (f:L[m]? =some (a,c')) (h:n≠m):b≠a/\a≠b:=by
 have:b≠a:=by
  intro d;have l:n<O (L.map ja):=by rw[List.length_map];exact(gS e).1
  refine h ((List.getElem?_inj l q.nd).1 ?_);rw[List.getElem?_map,List.getElem?_map,e,f];show some b=some a;rw[d]
 exact⟨this,λd=>this d.symm⟩
theorem br.shape (q:br w rb tb cap t i k g W j kj aj L T kv vs):∃d e,kv=J d (O vs) e:=by
 rcases q.row.2 with⟨a,f⟩|⟨b,cap,cur,a,_⟩
 ·exact⟨I,0,by rw[a,f]⟩
 ·exact⟨_,_,a⟩
end
def dQ (c:Nat) (vs:VV) (j:Nat) (kj:Int):Prop:=(kj=0->O vs<=j+c)/\O vs<=6002+c
end
section
variable{a:Act} {name:ByteArray} {k' kind m n pos:Int} {ad b i':Nat} {g:Prop} {us:VV} {v xv:Value} {w:World}
theorem isNode.pe {S:Nat->Prop}:(h:Nat)->(cs:List Value)->isNode S g h w cs->O cs=11/\∀o∈cs,o.oneCell'=true
 |0,_,hn=>absurd hn (λd=>d)
 |h+1,_,⟨kind,pos,n,m,name,kv,vs,h1,h2,h3,h3',h4,h5,h6,h7⟩=>by
  subst h1;refine⟨Q,?_⟩
  have p:∃e f l,kv=J e f l:=by
   rcases h4.2 with⟨c,_⟩|⟨d,y,z,c,_⟩
   ·exact⟨_,_,_,c⟩
   ·exact⟨_,_,_,c⟩
  obtain⟨e,f,l,rfl⟩:=p;exact oa
theorem lX (h:∀x∈us,O x=11/\∀u∈x,u.oneCell'=true):O us.flatten=O us*11/\∀u∈us.flatten,u.oneCell'=true:=by
 induction us with
 |nil=>exact⟨Q,λu c=>by simp at c⟩
 |cons x p d=>
  obtain⟨q,e⟩:=d (λf l=>h f (List.mem_cons_of_mem _ l));obtain⟨r,o⟩:=h x (List.mem_cons_self ..);refine⟨by simp only[List.flatten_cons,List.length_append,List.length_cons];omega,λu c=>?_⟩;rw[List.flatten_cons,List.mem_append] at c;exact c.elim (o u) (e u)
section
variable{w W w':World} {rb tb cap i j:Nat} {t:Tk} {k kj aj:Int} {g:Prop} {L:List (Nat × Array Value)} {T:VV} {kv:Value} {vs:VV}
theorem br.jg (q:br w rb tb cap t i k g W j kj aj L (us++T) kv vs) (R:O vs<=19000) (S:O us<=6010) (l:TypeId) (o:(xv=J I 0 0/\us=[])\/∃ad c,xv=J (some ad) (O us) c/\∀j u,us.flatten[j]? =some u->W.cell? (ad.add j)=some u):
 ∃p w',(Builtin.append_ #[46,46] l #[kv,xv]).run Tryz.prog W=.ok p w'/\∃d e,p=J d (O vs+O us) e/\br w rb tb cap t i k g w' j kj aj L T (J d (O vs+O us) e) (vs++us):=by
 obtain⟨r,s,z,A,B⟩:=info_parts tK;rcases o with⟨rfl,rfl⟩|⟨ad,c,rfl,hc⟩
 ·refine⟨kv,W,run_append_owned_none (P:=Tryz.prog) (w:=W) (E (U w)) 46 l 48 r 11 Tryz.underlying46 s kv (O vs) vs.flatten q.row,?_⟩;obtain⟨d,e,f⟩:=q.shape;refine⟨d,e,sU f,?_⟩;have x:br w rb tb cap t i k g W j kj aj L T kv (vs++[]):=sU q;rw[f] at x;simpa using x
 ·obtain⟨h,C⟩:=q.all;obtain⟨D,F⟩:=lX (us:=us) (λG o=>isNode.pe _ _ (C G (.inr (List.mem_append.2 (.inl o)))));obtain⟨p,w',H,K,M,_,N⟩:=run_append_own_at (P:=Tryz.prog) W (E (U w)) 46 l 48 r _ 11 160 Tryz.underlying46 s z A B Q dC kv (O vs) vs.flatten q.row ad (O us) c us.flatten D hc F (by unfold maxLen;omega) oM q.st.size;have y:=q.app K M N;obtain⟨d,e,f⟩:=y.shape;rw[List.length_append] at f;subst f;exact⟨_,w',H,d,e,Q,y⟩
theorem br.kF {ko:OA} {kl kc:Nat} (q:br w rb tb cap t i k g W j kj aj L ((ae kind pos n m name (J ko kl kc)).toList::T) kv vs) (l:O vs<=19000) (c:TypeId) (o:ad=E (U W)):
 ∃d w',(Builtin.append_ #[46,46] c #[kv,J (aS ad) 1 1]).run Tryz.prog (W.alloc (Ob (ae kind pos n m name (J ko kl kc)) 48))=.ok d w'/\∃e f,d=J e (O vs+1) f/\br w rb tb cap t i k g w' j kj aj L T (J e (O vs+1) f) (vs++[(ae kind pos n m name (J ko kl kc)).toList]):=by
 subst o;exact br.jg (us:=[(ae kind pos n m name (J ko kl kc)).toList]) (q.alloc _) l sQ c (.inr ⟨_,_,Q,sU (jQ W kind pos n m name (J ko kl kc) 48)⟩)
theorem br.fX {c:OA} {d o:Nat} {G:Prop} (q:br w rb tb cap t i k g W j kj aj L (us++T) kv vs) (hK:Kids o G W (J c (O us) d) us) (p:O vs<=19000) (r:O us<=6010) (f:TypeId):
 ∃l w',(Builtin.append_ #[46,46] f #[kv,J c (O us) d]).run Tryz.prog W=.ok l w'/\∃c d,l=J c (O vs+O us) d/\br w rb tb cap t i k g w' j kj aj L T (J c (O vs+O us) d) (vs++us):=by
 refine q.jg p r f ?_;rcases hK.row.2 with⟨e,s⟩|⟨b,c2,cur,e,_⟩
 ·exact .inl ⟨sU e,List.eq_nil_of_length_eq_zero s⟩
 ·obtain⟨rfl,_,rfl⟩:c=some ⟨b,0,I⟩/\O us=O us/\d=c2:=sU e;exact .inr ⟨_,_,Q,hK.row.cells (g:=b) Q⟩
theorem oC {e:Array Oper} {f:List Oper} {o:Oper} {l:Exit->Act->World->Prop} (p:o.guard=I) {s x:Operand} (q:o.op=.call {callee:=.builtin .append,args:=#[s,x],argTypes:=#[46,46]}) (r:a.eval s=v) (u:a.eval x=xv) {R:Value->World->Prop}
 (d:∃c w',(Builtin.append_ #[46,46] o.type #[v,xv]).run Tryz.prog W=.ok c w'/\R c w') (h:∀c w',R c w'->wpList Tryz.prog e l f (a.put o.dst c) w'):wpList Tryz.prog e l (o::f) a W:=by
  refine wpList_plain p λz hK=>?_;obtain⟨c,w',d,y⟩:=d;unfold Oper.wp execOp;simp only[q,resolve,invoke,builtin,Sem.run_bind,Sem.run_pure,Result.andThen_ok,List.map_toArray,List.map_cons,List.map_nil,r,u,d];exact hK _ _ (h c w' y)
theorem jf {e:Array Oper} {o:Oper} {K:Act->World->Prop} {f:Exit->Act->World->Prop} {l:Prop} (p:o.guard=I) {s x:Operand} (q:o.op=.call {callee:=.builtin .append,args:=#[s,x],argTypes:=#[46,46]}) (r:a.eval s=v) (u:a.eval x=xv) {R:Value->World->Prop}
 (d:∃c w',(Builtin.append_ #[46,46] o.type #[v,xv]).run Tryz.prog W=.ok c w'/\R c w') (h:∀c w',R c w'->K (a.put o.dst c) w'):if Region.wanted o (yielded e a.tmps)=true then Oper.wp Tryz.prog o a W K f else l:=by
  have y:Region.wanted o (yielded e a.tmps)=true:=by simp[Region.wanted,p]
  rw[if_pos y];obtain⟨c,w',d,z⟩:=d;unfold Oper.wp execOp;simp only[q,resolve,invoke,builtin,Sem.run_bind,Sem.run_pure,Result.andThen_ok,List.map_toArray,List.map_cons,List.map_nil,r,u,d];exact h c w' z
theorem br.newAt (q:br w rb tb cap t i k g W j kj aj L T kv vs) (d:ad=E (U W)) (c:Array Value):br w rb tb cap t i k g (W.alloc (Ob c 48)) j kj aj ((ad,c)::L) T kv vs:=d▸q.new c
theorem br.lH {n:Nat} {c:Array Value} (q:br w rb tb cap t i k g W j kj aj (L.set n (b,c)) T kv vs) (hl:n<O L) (o:Nat) (u:Value):br w rb tb cap t i k g (W.setCell ⟨b,o,I⟩ u) j kj aj (L.set n (b,c.setIfInBounds o u)) T kv vs:=by
 have:=q.put n (b:=b) (c:=c) (by rw[List.getElem?_set,if_pos Q,if_pos hl]) o u;rwa [List.set_set] at this
theorem br.jG (q:br w rb tb cap t i k g W j kj aj L T kv vs) (n:Nat) {H F D C A z x u r o f:Value} (G:L[n]? =some (b,#[H,F,D,C,A,z,x,u,r,o,f])) (c0 c1 c2 c3 c d e l s y B:Value):br w rb tb cap t i k g (aK W b c0 c1 c2 c3 c d e l s y B) j kj aj (L.set n (b,#[c0,c1,c2,c3,c,d,e,l,s,y,B])) T kv vs:=by
 have p:n<O L:=(gS G).1;have K:br w rb tb cap t i k g (W.setCell ⟨b,0,I⟩ c0) j kj aj (L.set n (b,#[c0,F,D,C,A,z,x,u,r,o,f])) T kv vs:=q.put n G 0 c0;have M:br w rb tb cap t i k g ((W.setCell ⟨b,0,I⟩ c0).setCell ⟨b,1,I⟩ c1) j kj aj (L.set n (b,#[c0,c1,D,C,A,z,x,u,r,o,f])) T kv vs:=K.lH p 1 c1;have N:br w rb tb cap t i k g (((W.setCell ⟨b,0,I⟩ c0).setCell ⟨b,1,I⟩ c1).setCell ⟨b,2,I⟩ c2) j kj aj (L.set n (b,#[c0,c1,c2,C,A,z,x,u,r,o,f])) T kv vs:=M.lH p 2 c2;have P:br w rb tb cap t i k g ((((W.setCell ⟨b,0,I⟩ c0).setCell ⟨b,1,I⟩ c1).setCell ⟨b,2,I⟩ c2).setCell ⟨b,3,I⟩ c3) j kj aj (L.set n (b,#[c0,c1,c2,c3,A,z,x,u,r,o,f])) T kv vs:=N.lH p 3 c3;have R:br w rb tb cap t i k g (((((W.setCell ⟨b,0,I⟩ c0).setCell ⟨b,1,I⟩ c1).setCell ⟨b,2,I⟩ c2).setCell ⟨b,3,I⟩ c3).setCell ⟨b,4,I⟩ c) j kj aj (L.set n (b,#[c0,c1,c2,c3,c,z,x,u,r,o,f])) T kv vs:=P.lH p 4 c;have S:br w rb tb cap t i k g ((((((W.setCell ⟨b,0,I⟩ c0).setCell ⟨b,1,I⟩ c1).setCell ⟨b,2,I⟩ c2).setCell ⟨b,3,I⟩ c3).setCell ⟨b,4,I⟩ c).setCell ⟨b,5,I⟩ d) j kj aj (L.set n (b,#[c0,c1,c2,c3,c,d,x,u,r,o,f])) T kv vs:=R.lH p 5 d;have V:br w rb tb cap t i k g (((((((W.setCell ⟨b,0,I⟩ c0).setCell ⟨b,1,I⟩ c1).setCell ⟨b,2,I⟩ c2).setCell ⟨b,3,I⟩ c3).setCell ⟨b,4,I⟩ c).setCell ⟨b,5,I⟩ d).setCell ⟨b,6,I⟩ e) j kj aj (L.set n (b,#[c0,c1,c2,c3,c,d,e,u,r,o,f])) T kv vs:=S.lH p 6 e;have X:br w rb tb cap t i k g ((((((((W.setCell ⟨b,0,I⟩ c0).setCell ⟨b,1,I⟩ c1).setCell ⟨b,2,I⟩ c2).setCell ⟨b,3,I⟩ c3).setCell ⟨b,4,I⟩ c).setCell ⟨b,5,I⟩ d).setCell ⟨b,6,I⟩ e).setCell ⟨b,7,I⟩ l) j kj aj (L.set n (b,#[c0,c1,c2,c3,c,d,e,l,r,o,f])) T kv vs:=V.lH p 7 l;have Y:br w rb tb cap t i k g (((((((((W.setCell ⟨b,0,I⟩ c0).setCell ⟨b,1,I⟩ c1).setCell ⟨b,2,I⟩ c2).setCell ⟨b,3,I⟩ c3).setCell ⟨b,4,I⟩ c).setCell ⟨b,5,I⟩ d).setCell ⟨b,6,I⟩ e).setCell ⟨b,7,I⟩ l).setCell ⟨b,8,I⟩ s) j kj aj (L.set n (b,#[c0,c1,c2,c3,c,d,e,l,s,o,f])) T kv vs:=X.lH p 8 s;have Z:br w rb tb cap t i k g ((((((((((W.setCell ⟨b,0,I⟩ c0).setCell ⟨b,1,I⟩ c1).setCell ⟨b,2,I⟩ c2).setCell ⟨b,3,I⟩ c3).setCell ⟨b,4,I⟩ c).setCell ⟨b,5,I⟩ d).setCell ⟨b,6,I⟩ e).setCell ⟨b,7,I⟩ l).setCell ⟨b,8,I⟩ s).setCell ⟨b,9,I⟩ y) j kj aj (L.set n (b,#[c0,c1,c2,c3,c,d,e,l,s,y,f])) T kv vs:=Y.lH p 9 y;have aa:br w rb tb cap t i k g (((((((((((W.setCell ⟨b,0,I⟩ c0).setCell ⟨b,1,I⟩ c1).setCell ⟨b,2,I⟩ c2).setCell ⟨b,3,I⟩ c3).setCell ⟨b,4,I⟩ c).setCell ⟨b,5,I⟩ d).setCell ⟨b,6,I⟩ e).setCell ⟨b,7,I⟩ l).setCell ⟨b,8,I⟩ s).setCell ⟨b,9,I⟩ y).setCell ⟨b,10,I⟩ B) j kj aj (L.set n (b,#[c0,c1,c2,c3,c,d,e,l,s,y,B])) T kv vs:=Z.lH p 10 B;exact aa
theorem br.swap {a b:List Value} (q:br w rb tb cap t i k g W j kj aj L (a::b::T) kv vs):br w rb tb cap t i k g W j kj aj L (b::a::T) kv vs:=
 q.sub (λd c=>by simp only[List.mem_cons] at c⊢;rcases c with h|h|h<;>simp[h])
theorem br.drop {a:List Value} (q:br w rb tb cap t i k g W j kj aj L (a::T) kv vs):br w rb tb cap t i k g W j kj aj L T kv vs:=q.sub (λ_ c=>List.mem_cons_of_mem _ c)
theorem br.lit (q:br w rb tb cap t i k g W j kj aj L (us++T) kv vs) (cs:Array Value) (l:cs.toList=us.flatten) (hl:O us<=20000) (o:∀x∈us,O x=11) {c:Nat} (u:ad=E (U W)) (y:c=O us)
 (z:name.size<=20000) (A:0<=pos/\pos<=7000) (p:kj=0->Gr kind n name (us.map az)):br w rb tb cap t i k g (W.alloc (Ob cs 48)) j kj aj L ((ae kind pos n m name (J (aS ad) c c)).toList::T) kv vs:=by
  subst u y;have f:=q.alloc (Ob cs 48)
  have B:O us.flatten=O us*11:=by
   clear l hl q f p;induction us with
   |nil=>rfl
   |cons x K C=>simp only[List.flatten_cons,List.length_append,List.length_cons];rw[C (λD F=>o D (List.mem_cons_of_mem _ F)),o x (List.mem_cons_self ..)];omega
  have r:=World.ownsRow_lit (base:=0) (e:=48) (size:=11) W cs (O us) (zL _) (by unfold maxLen;omega) (by rw[<-Array.length_toList,l,B]);rw[l] at r;obtain⟨h,s⟩:=f.all;refine⟨f.st,f.le,f.ok,f.go,f.dV,f.nd,f.row,f.eK,h+1,λx d=>?_⟩
  have G:x=(ae kind pos n m name (J (aS (E (U W))) (O us) (O us))).toList\/(x∈vs\/x∈us++T):=by
   rcases d with d|d
   ·exact .inr (.inl d)
   ·rcases List.mem_cons.1 d with d|d
    ·exact .inl d
    ·exact .inr (.inr (List.mem_append.2 (.inr d)))
  rcases G with rfl|d
  ·refine⟨kind,pos,n,m,name,_,us,Q,z,A,hl,r,λb H=>?_,λx d=>s x (.inr (List.mem_append.2 (.inl d))),p⟩;obtain rfl:E (U W)=b:=by simpa[Value.ownBlock] using H
   exact⟨q.st.size,λe=>absurd (q.lt _ e) (Nat.lt_irrefl _),λe=>absurd (q.xJ _ e) (Nat.lt_irrefl _)⟩
  ·exact isNode.up _ _ (s x d)
theorem br.leaf (q:br w rb tb cap t i k g W j kj aj L T kv vs) (e:name.size<=20000) (f:0<=pos/\pos<=7000) (l:kj=0->Gr kind n name []):br w rb tb cap t i k g W j kj aj L ((ae kind pos n m name (J I 0 0)).toList::T) kv vs:=by
 obtain⟨h,o⟩:=q.all;refine⟨q.st,q.le,q.ok,q.go,q.dV,q.nd,q.row,q.eK,h+1,λd c=>?_⟩
 have p:d=(ae kind pos n m name (J I 0 0)).toList\/(d∈vs\/d∈T):=by
  rcases c with c|c
  ·exact .inr (.inl c)
  ·exact(List.mem_cons.1 c).imp (λd=>d) .inr
 rcases p with rfl|c
 ·exact⟨kind,pos,n,m,name,_,[],Q,e,f,sQ,World.ownsRow_nil _ _ _ _,λb r=>by simp[Value.ownBlock] at r,λd c=>by simp at c,l⟩
 ·exact isNode.up _ _ (o d c)
theorem br.bP (q:br w rb tb cap t i k g W j kj aj L T kv vs):br w rb tb cap t j kj False W j kj aj L T kv vs:=⟨q.st,lR _,λc=>c,λc=>absurd c (λd=>d),q.dV,q.nd,q.row,q.eK,q.all⟩
theorem br.aE {g':Prop} (q:br w rb tb cap t i k g W j kj aj L T kv vs) (d:i'<=i) (e:k=0->k'=0) (f:g'->k=0->i'<i):br w rb tb cap t i' k' g' W j kj aj L T kv vs:=
 ⟨q.st,lT d q.le,λc=>e (q.ok c),λl c=>Nat.lt_of_lt_of_le (f l (q.ok c)) q.le,q.dV,q.nd,q.row,q.eK,q.all⟩
theorem br.pop {p:Nat × Array Value} (q:br w rb tb cap t i k g W j kj aj (p::L) T kv vs):br w rb tb cap t i k g W j kj aj L T kv vs:=by
 obtain⟨h,l⟩:=q.all;have f:=q.nd;rw[List.map_cons,List.nodup_cons] at f;refine⟨q.st,q.le,q.ok,q.go,λn c d=>q.dV (n+1) c (sU d),f.2,q.row,λb e d=>q.eK b e (by rw[List.map_cons];exact List.mem_cons_of_mem _ d),h,λc o=>isNode.weaken (λb e=>⟨e.1,λd=>e.2.1 (by rw[List.map_cons];exact List.mem_cons_of_mem _ d),e.2.2⟩) (λc=>c) _ _ (l c o)⟩
theorem dQ.snoc {m:Nat} {c:List Value} (h:dQ m vs j kj) (d:kj=0) (o:j<t.len) (e:t.Good) (f:k'=0->j<i'):dQ m (vs++[c]) i' k':=by
 have p:=h.1 d;have q:=e.bj;refine⟨λl=>?_,?_⟩
 ·have:=f l;simp;omega
 ·simp;omega
theorem dQ.on {m:Nat} (h:dQ m vs j kj) (c:k'=0->kj=0) (e:j<=i'):dQ m vs i' k':=⟨λd=>oH (h.1 (c d)),h.2⟩
end
def zs (f r N:Nat):Prop:=∀{w:World} {rb tb cap i:Nat} {t:Tk} {a:Int},Rd w rb tb cap t i 0 a->Bd N t i 0 r->Calls Tryz.prog f #[.pointer (aS rb)] w (eI w rb tb cap t i 0 True λ_=>True)
end
section
variable{a k:Int} {N cap i rb tb:Nat} {t:Tk} {w:World}
theorem cZ (d:t.Good) (f:i<t.len) (h:t.kind i≠0):i+1<t.len:=by
 rcases Nat.lt_or_ge (i+1) t.len with b|b
 ·exact b
 ·have e:i=t.len - 1:=oM;have c:=d.last;rw[<-e] at c;exact absurd c h
section
variable{w W w':World} {rb tb cap i j:Nat} {t:Tk} {k kj aj:Int} {g:Prop} {L:List (Nat × Array Value)} {T:VV} {kv:Value} {vs:VV}
theorem br.kids (q:br w rb tb cap t i k g W j kj aj L T kv vs):Kids (E (U w)) (kj=0) W kv vs:=by
 obtain⟨h,d⟩:=q.all;exact⟨q.row,h,λb e=>isNode.weaken (λf c=>⟨c.1,c.2.2⟩) (λb=>b) _ _ (d b (.inl e))⟩
theorem br.wT (q:br w rb tb cap t i k g W j kj aj L T kv vs):br w rb tb cap t i k g W j kj aj L (vs++T) (J I 0 0) []:=by
 obtain⟨h,e⟩:=q.all;refine⟨q.st,q.le,q.ok,q.go,q.dV,q.nd,World.ownsRow_nil _ _ _ _,λf l=>by simp[Value.ownBlock] at l,h,λc b=>isNode.weaken (λf d=>⟨d.1,d.2.1,by simp[Value.ownBlock]⟩) (λc=>c) _ _ (e c ?_)⟩;rcases b with b|b
 ·simp at b
 ·exact List.mem_append.1 b
theorem br.first {o:OA} {r:Nat} (q:br w rb tb cap t i k g W j kj aj L T (J o (O vs) r) vs) (s:O vs=1):∃b,o=some ⟨b,0,I⟩/\b<E (U W)/\b≠rb/\b∉L.map ja/\∃c pos d e f l m n,vs=[(ae c pos d e f (J l m n)).toList]/\∀p,p<11->W.cell? ⟨b,p,I⟩=(ae c pos d e f (J l m n))[p]? :=by
 obtain⟨u,rfl⟩:=List.length_eq_one_iff.1 s;have hK:Kids (E (U w)) (kj=0) W (J o 1 r) [u]:=q.kids;obtain⟨b,rfl,y,v,c,pos,d,e,f,l,m,n,rfl,x,_⟩:=hK.first
 have z:=q.st.lb;exact⟨b,Q,v,oM,q.eK b Q,c,pos,d,e,f,l,m,n,Q,x⟩
theorem br.jJ {b:Nat} (q:br w rb tb cap t i k g W j kj aj L T kv vs) (l:b∉L.map ja) (n:Nat) {d:Nat} {c:Array Value} (m:L[n]? =some (d,c)):b≠d/\d≠b:=by
 have _:=q.nd;have f:b≠d:=λe=>l (List.mem_map.2 ⟨_,mG m,e▸rfl⟩);exact⟨f,λe=>f e.symm⟩
end
theorem zs.qj {f r:Nat} (b:zs f r N) (c:k=0) (h:Rd w rb tb cap t i k a) (d:Bd N t i k r):Calls Tryz.prog f #[.pointer (aS rb)] w (eI w rb tb cap t i k True λ_=>True):=by
 subst c;exact b h d
def zr (N:Nat):Prop:=∀{w:World} {rb tb cap i:Nat} {t:Tk} {a:Int},t.kind i=3->Rd w rb tb cap t i 0 a->Bd N t i 0 9->Calls Tryz.prog 97 #[.pointer (aS rb)] w (eI w rb tb cap t i 0 True λ_=>True)
theorem zr.qj (b:zr N) (c:k=0) (hw:t.kind i=3) (h:Rd w rb tb cap t i k a) (d:Bd N t i k 9):Calls Tryz.prog 97 #[.pointer (aS rb)] w (eI w rb tb cap t i k True λ_=>True):=by
 subst c;exact b hw h d
end
def oA (e:Ending):Prop:=∃b:Bool,e=.returned (.bool b)
theorem pB {w:World} {rb d e i:Nat} {t:Tk} {k a:Int} (h:Rd w rb d e t i k a):
 Calls Tryz.prog 80 #[.pointer (aS rb)] w λc f=>oA c/\Below (E (U w)) w f:=by
 have b:=Below.refl (E (U w)) w;go_enter Tryz.func80,Tryz.ntmps80
 go_wp2_with (go_at_call 35;refine(aX (h.below b) 0 dC _).mono ?_;rintro c l ⟨rfl,j⟩;have b:=b.trans (j.mono b.size))
 all_goals
  go_ret;exact⟨⟨_,Q⟩,b⟩
theorem sJ (s:ByteArray) (w:World) (f:s.size<=20000):
 Calls Tryz.prog 112 #[.string s] w λd e=>oA d/\e=w:=by
 go_enter Tryz.func112,Tryz.ntmps112
 go_wp2_with fail;go_loop [3] (λb=>∃a:Nat,a<=s.size/\b=vN a) (λb=>s.size - (intOf b).toNat)
 case atStart=>exact⟨0,zL _,Q⟩
 case round=>
  obtain⟨a,i,rfl⟩:=hrel;by_cases c:a<s.size
  ·cases j:(((s[a]'c).toNat:Int)==58)
   ·go_wp2_with fail;go_round
    case rel=>exact⟨a+1,c,by go_num⟩
    case measure=>simp[intOf];omega
   ·go_wp2_with fail;go_ret;exact⟨⟨_,Q⟩,Q⟩
  ·go_wp2_with fail;go_ret;exact⟨⟨_,Q⟩,Q⟩
section
variable{act:Act} {name:ByteArray} {fn:Func} {k kind n pos:Int} {cap cp gb i r rb tb:Nat} {t:Tk} {w w':World}
theorem Bd.dh {d:Nat} (h:Bd (d+1) t i k r) (e:k=0) (hl:i<t.len):∀a b c,(b=0->i<a)->c<64->Bd d t a b c:=by
 intro a b c f m;have o:=h.1 e;have p:1*64<=(t.len - i)*64:=Nat.mul_le_mul_right _ oM;refine⟨λl=>?_,oM⟩;have:=f l;have q:(t.len - a+1)*64<=(t.len - i)*64:=Nat.mul_le_mul_right _ oM;omega
theorem fM (t:Tk) (i:Nat) (k:Int) (r:Nat):Bd ((t.len - i)*64+r) t i k r:=⟨λ_=>lR _,oM⟩
def lp (w:World) (rb tb cap:Nat) (t:Tk) (i:Nat) (k:Int) (e:Ending) (w':World):Prop:=
 ∃(pos n:Int) (name:ByteArray) (ao:OA) (cp:Nat) (vs:VV) (i':Nat) (k' a':Int),e=.returned (.agg (ae 8 pos n 0 name (J ao (O vs) cp)))/\Nx w rb tb cap t i k True w' i' k' a'/\Kids (E (U w)) (k'=0) w' (J ao (O vs) cp) vs/\O vs<=6010/\name.size<=20000/\(0<=pos/\pos<=7000)/\
  (k'=0->∃ps x,vs.map az=9::(ps++[x])/\(O ps:Int)=n/\(∀p∈ps,p=12)/\cx x)
theorem lp.node {e:Ending} (h:lp w rb tb cap t i k e w'):eI w rb tb cap t i k True (λa=>a=8) e w':=by
 obtain⟨pos,n,name,d,cp,vs,p,q,s,rfl,u,hK,z,v,x,f⟩:=h;refine⟨8,pos,n,0,name,d,O vs,cp,p,q,s,Q,u,hK.node oM v x (λe=>?_),λe=>?_⟩
 ·obtain⟨b,a,c,l,m,o⟩:=f e;exact Gr.pV ⟨b,a,[],by rw[c],l,m,o,sQ⟩
 ·obtain⟨b,a,c,l,m,o⟩:=f e;have A:O vs=O b+2:=by have:=congrArg List.length c;simpa using this
  show fJ 8 n (lenOf (J d (O vs) cp))=8;unfold fJ lenOf;rw[if_neg,if_neg (show ¬(8:Int)=108 by decide)];rintro⟨_,y⟩;have B:(O vs:Int)=n+3:=y;omega
section
variable{w W w':World} {rb tb cap i j:Nat} {t:Tk} {k kj aj:Int} {g:Prop} {L:List (Nat × Array Value)} {T:VV} {kv:Value} {vs:VV}
theorem br.kI (l:fn.results=#[.cell r 48]) (m:act.defers=[]) (o:act.tmps.getD r undef=.pointer (aS (E (U w)))) {b:OA} {c:Nat} (s:c=O vs) (q:br w rb tb cap t i k True W j kj aj L T (J b c cp) vs) (d:Nat) (f:L[d]? =some (E (U w),aB)) (hl:O vs<=6010) (u:name.size<=20000) (v:0<=pos/\pos<=7000)
 (y:kj=0->∃e x,vs.map az=9::(e++[x])/\(O e:Int)=n/\(∀p∈e,p=12)/\cx x):
  bodyPost Tryz.prog fn (lp w rb tb cap t i k) .ret act (Go.Proofs.YtdghkacbpebcoaaGreat.aK W (E (U w)) (vN 8) (vN pos) (vN n) (vN 0) (.string name) (J b c cp) (vN 0) (vN 0) (J I 0 0) (J I 0 0) (J I 0 0)):=by
  subst s;have a:=q.jG d f (vN 8) (vN pos) (vN n) (vN 0) (.string name) (J b (O vs) cp) (vN 0) (vN 0) (J I 0 0) (J I 0 0) (J I 0 0);have z:ck _ (E (U w)) _:=(a.dV d (E (U w),_) (by rw[List.getElem?_set,if_pos Q,if_pos (gS f).1])).2;exact bodyPost_ret (eB l o z) m ⟨pos,n,name,b,cp,vs,j,kj,aj,Q,⟨a.st.rd,a.st.kp,a.le,a.ok,a.go⟩,a.kids,hl,u,v,y⟩
def Rest (c:Array Value) (vs:VV) (cp:Nat):Prop:=O vs<=cp/\cp<=maxLen/\c.size=cp*11/\c.toList.take (O vs*11)=vs.flatten/\O vs.flatten=O vs*11
theorem br.sN (q:br w rb tb cap t i k g W j kj aj L T (J (aS gb) (O vs) cp) vs):∃f,Rest f vs cp/\br w rb tb cap t i k g W j kj aj ((gb,f)::L) (vs++T) (J I 0 0) []:=by
 obtain⟨h,o⟩:=q.all;have l:=q.row;rcases l.2 with⟨d,_⟩|⟨g',cap',cur,d,b,hg,hnc,hcm,hcs,htake⟩
 ·simp at d
 ·obtain⟨rfl,rfl⟩:gb=g'/\cp=cap':=sU d;have p:gb∉L.map ja:=q.eK gb Q;refine⟨cur,⟨hnc,hcm,hcs,htake,l.1⟩,q.st,q.le,q.ok,q.go,?_,?_,World.ownsRow_nil _ _ _ _,λs a=>by simp[Value.ownBlock] at a,h,λe c=>?_⟩
  ·intro n m a
   cases n with
   |zero=>
    obtain rfl:(gb,cur)=m:=sU a;exact⟨b,hg⟩
   |succ n=>exact q.dV n m (sU a)
  ·rw[List.map_cons,List.nodup_cons];exact⟨p,q.nd⟩
  ·refine isNode.weaken (λs b=>⟨b.1,?_,by simp[Value.ownBlock]⟩) (λe=>e) _ _ (o e ?_)
   ·rcases c with c|c
    ·simp at c
    ·exact List.mem_append.1 c
   ·rw[List.map_cons,List.mem_cons];rintro(a|a)
    ·exact b.2.2 (by rw[a];rfl)
    ·exact b.2.1 a
theorem br.l8 {c:Array Value} (l:Rest c vs cp) (q:br w rb tb cap t i k g W j kj aj ((gb,c)::L) (vs++T) (J I 0 0) []):br w rb tb cap t i k g W j kj aj L T (J (aS gb) (O vs) cp) vs:=by
 obtain⟨h,m⟩:=q.all;obtain⟨o,p,s,u,v⟩:=l;have e:=q.nd;rw[List.map_cons,List.nodup_cons] at e;have b:=q.dV 0 (gb,c) Q;refine⟨q.st,q.le,q.ok,q.go,λn d a=>q.dV (n+1) d (sU a),e.2,⟨v,.inr ⟨gb,cp,c,Q,b.1,b.2,o,p,s,u⟩⟩,?_,h,λd x=>?_⟩
 ·intro f a;obtain rfl:gb=f:=by simpa[Value.ownBlock] using a
  exact e.1
 ·refine isNode.weaken (λf b=>⟨b.1,λa=>b.2.1 (by rw[List.map_cons];exact List.mem_cons_of_mem _ a),λa=>b.2.1 ?_⟩) (λd=>d) _ _ (m d (.inr (List.mem_append.2 x)));obtain rfl:gb=f:=by simpa[Value.ownBlock] using a
  rw[List.map_cons];exact List.mem_cons_self ..
theorem cY {l:Nat} (h:kind≠8/\kind≠108):fJ kind n l=kind:=by unfold fJ;rw[if_neg (λa=>h.1 a.1),if_neg h.2]
theorem br.cq (f:fn.results=#[.cell r 48]) (l:act.defers=[]) {b:Nat} (o:act.tmps.getD r undef=.pointer (aS b)) {C:Int->Prop} {m:Int} {ko:OA} {kl kc:Nat}
 (q:br w rb tb cap t i k g W j kj aj L ((ae kind pos n m name (J ko kl kc)).toList::T) kv vs) (c:Nat) (d:L[c]? =some (b,aB)) (p:kj=0->C (az (ae kind pos n m name (J ko kl kc)).toList)) {e:World}
 (s:e=Go.Proofs.YtdghkacbpebcoaaGreat.aK W b (vN kind) (vN pos) (vN n) (vN m) (.string name) (J ko kl kc) (vN 0) (vN 0) (J I 0 0) (J I 0 0) (J I 0 0)):
  bodyPost Tryz.prog fn (eI w rb tb cap t i k g C) .ret act e:=by
  subst s;have a:=q.jG c d (vN kind) (vN pos) (vN n) (vN m) (.string name) (J ko kl kc) (vN 0) (vN 0) (J I 0 0) (J I 0 0) (J I 0 0);have u:ck _ b _:=(a.dV c (b,_) (by rw[List.getElem?_set,if_pos Q,if_pos (gS d).1])).2;obtain⟨h,v⟩:=a.all;exact bodyPost_ret (eB f o u) l ⟨kind,pos,n,m,name,ko,kl,kc,j,kj,aj,Q,⟨a.st.rd,a.st.kp,a.le,a.ok,a.go⟩,⟨h,isNode.weaken (λb x=>x.1) (λy=>y) _ _ (v _ (.inr (List.mem_cons_self ..)))⟩,p⟩
end
end
section
section
variable{w W w':World} {rb tb cap i j:Nat} {t:Tk} {k kj aj:Int} {g:Prop} {L:List (Nat × Array Value)} {T:VV} {kv:Value} {vs:VV}
theorem br.pK {a b:Nat × Array Value} (q:br w rb tb cap t i k g W j kj aj (a::b::L) T kv vs):br w rb tb cap t i k g W j kj aj (b::a::L) T kv vs:=by
 obtain⟨h,p⟩:=q.all
 have o:∀d,d∈(b::a::L).map ja↔d∈(a::b::L).map ja:=by
  intro d;simp only[List.map_cons,List.mem_cons];constructor<;>(rintro(c|c|c)<;>simp[c])
 refine⟨q.st,q.le,q.ok,q.go,?_,?_,q.row,λd f c=>q.eK d f ((o d).1 c),h,λd f=>isNode.weaken (λr l=>⟨l.1,λc=>l.2.1 ((o r).1 c),l.2.2⟩) (λd=>d) _ _ (p d f)⟩
 ·intro m n c;match m,c with
  |0,c=>exact q.dV 1 n c
  |1,c=>exact q.dV 0 n c
  |m+2,c=>exact q.dV (m+2) n c
 ·have e:=q.nd;simp only[List.map_cons,List.nodup_cons,List.mem_cons,not_or] at e⊢;exact⟨⟨λc=>e.1.1 c.symm,e.2.1⟩,e.1.2,e.2.2⟩
theorem br.vL (q:br w rb tb cap t i k g W j kj aj L T kv vs) (h:1<=O vs):∃a c,kv=J (aS a) (O vs) c:=by
 rcases q.row.2 with⟨_,d⟩|⟨b,cap,cur,h1,_⟩
 ·omega
 ·exact⟨_,_,h1⟩
theorem br.kD {b:OA} {d:Nat} (q:br w rb tb cap t i k g W j kj aj L T (J b (O vs) d) vs) (h:1<=O vs):∃a,b=some ⟨a,0,I⟩:=by
 obtain⟨a,e,c⟩:=q.vL h;exact⟨a,by simp at c;exact c.1⟩
end
end
section
variable{us:VV}
theorem kV (b:∀x∈us,O x=11):∀{idx:Nat} {x:List Value},us[idx]? =some x->∀a,a<11->us.flatten[idx*11+a]? =x[a]? :=by
 induction us with
 |nil=>intro idx x h;simp at h
 |cons c n d=>
  intro idx x h a e;have f:=b c (List.mem_cons_self ..);rw[List.flatten_cons]
  cases idx with
  |zero=>
   obtain rfl:c=x:=sU h;rw[List.getElem?_append_left oM];congr 1
   omega
  |succ idx=>
   rw[List.getElem?_append_right oM,f];have:=d (λl m=>b l (List.mem_cons_of_mem _ m)) (idx:=idx) (x:=x) (sU h) a e;rw[<-this];congr 1
   omega
section
variable{w W w':World} {rb tb cap i j:Nat} {t:Tk} {k kj aj:Int} {g:Prop} {L:List (Nat × Array Value)} {T:VV} {kv:Value} {vs:VV}
theorem br.look (q:br w rb tb cap t i k g W j kj aj L T kv vs) {x:List Value} (o:x∈T):∃d pos e f l a b c,x=(ae d pos e f l (J a b c)).toList/\(0<=pos/\pos<=7000):=by
 obtain⟨h,p⟩:=q.all;have n:=p x (.inr o)
 cases h with
 |zero=>exact absurd n (λx=>x)
 |succ h=>
  obtain⟨d,pos,e,f,l,r,B,s,C,u,D,v,F,G,H⟩:=n
  have A:∃a b c,r=J a b c:=by
   rcases v.2 with⟨m,_⟩|⟨x,y,z,m,_⟩
   ·exact⟨_,_,_,m⟩
   ·exact⟨_,_,_,m⟩
  obtain⟨a,b,c,rfl⟩:=A;exact⟨d,pos,e,f,l,a,b,c,s,u⟩
theorem br.nth {p v:Nat} {c:Array Value} (q:br w rb tb cap t i k g W j kj aj L T kv vs) (y:Rest c us v) (n:Nat) (z:L[n]? =some (p,c)) (r:∀x∈us,x∈T) {idx:Nat} (s:idx<O us):
 ∃b pos n d e f l m,us[idx]? =some (ae b pos n d e (J f l m)).toList/\(0<=pos/\pos<=7000)/\∀a,a<11->W.cell? ⟨p,idx*11+a,I⟩=(ae b pos n d e (J f l m))[a]? :=by
 have o:us[idx]? =some us[idx]:=gG s;have A:us[idx]∈us:=List.getElem_mem s;obtain⟨b,pos,B,d,e,f,l,m,u,C⟩:=q.look (r _ A);refine⟨b,pos,B,d,e,f,l,m,by rw[o,u],C,λa D=>?_⟩;obtain⟨h,F⟩:=q.all;have G:∀x∈us,O x=11:=λx o=>(isNode.pe _ _ (F x (.inr (r x o)))).1;have H:=kV G o a D;have K:=(q.dV n _ z).2;have M:idx*11+a<O us*11:=oM;have N:W.cell? ⟨p,idx*11+a,I⟩=c[idx*11+a]? :=K.cell _;rw[N];have P:(c.toList.take (O us*11))[idx*11+a]? =c[idx*11+a]? :=by rw[List.getElem?_take,if_pos M];simp
 rw[<-P,y.2.2.2.1,H,u];simp
end
end
section
variable{name:ByteArray} {a' d k' kind m n pos:Int} {vs vs':List (List Value)} {a c:List Value} {ad b base f h i':Nat} {S:Nat->Prop} {g must:Prop} {kv kv':Value} {w w':World}
variable{wt:Nat}
def fF (w:World):Value->List (List Value)
 |J (some p) n _=>(List.range n).map (λi=>(List.range 11).map (λo=>(w.cell? ⟨p.block,i*11+o,I⟩).getD undef))
 |_=>[]
theorem jP {e:Nat} {v:Value} (h:w.ownsRow base e 11 v (O vs) vs.flatten) (hl:∀x∈vs,O x=11):fF w v=vs:=by
 rcases h.2 with⟨o,u⟩|⟨g,cap,cur,o,hb,hg,hnc,hcm,hcs,htake⟩
 ·obtain rfl:vs=[]:=List.eq_nil_of_length_eq_zero u;rw[o];rfl
 ·rw[o];unfold fF;apply List.ext_getElem?
  intro i;by_cases p:i<O vs
  ·have q:vs[i]? =some vs[i]:=gG p;have A:=hl _ (List.getElem_mem p);rw[List.getElem?_map,List.getElem?_range p,q];show some _=some _;congr 1
   apply List.ext_getElem?
   intro l;by_cases r:l<11
   ·rw[List.getElem?_map,List.getElem?_range r];have y:i*11+l<O vs*11:=oM;show some ((w.cell? ⟨g,i*11+l,I⟩).getD undef)=_;have z:(cur.toList.take (O vs*11))[i*11+l]? =cur[i*11+l]? :=by rw[List.getElem?_take,if_pos y];simp
    rw[cell_of_row w g (i*11+l) cur e (0,0) hg,<-z,htake,kV hl q l r,gG oM];rfl
   ·rw[List.getElem?_eq_none (by simp;omega),List.getElem?_eq_none oM]
  ·rw[List.getElem?_eq_none (by simp;omega),List.getElem?_eq_none oM]
def aG:Nat->World->List Value->Nat
 |0,_,_=>0
 |f+1,w,cs=>1+((fF w (cs.getD 5 undef)).map (aG f w)).sum
theorem pj (e:w.ownsRow base 48 11 kv (O vs) vs.flatten) (l:∀x∈vs,isNode S g h w x):aG (f+1) w (ae kind pos n m name kv).toList=1+(vs.map (aG f w)).sum:=by
 have o:=jP e (λx p=>(isNode.pe _ _ (l x p)).1);show 1+((fF w kv).map (aG f w)).sum=_;rw[o]
theorem aT (l:aq S w w'):(h:Nat)->(cs:List Value)->isNode S g h w cs->∀f,aG f w' cs=aG f w cs
 |0,_,hn,_=>absurd hn (λe=>e)
 |_+1,_,_,0=>rfl
 |h+1,_,⟨kind,pos,n,m,name,kv,vs,h1,h2,h3,h3',h4,h5,h6,h7⟩,f+1=>by
  subst h1;rw[pj h4 h6,pj (ah h4 (λb p q=>l b (h5 b p) q)) (λe o=>isNode.frame l h e (h6 e o))];have:vs.map (aG f w')=vs.map (aG f w):=List.map_congr_left (λe o=>aT l h e (h6 e o) f);rw[this]
theorem ku {f g:List Value->Nat} (vs:List (List Value)) (h:∀x∈vs,f x<=g x):(vs.map f).sum<=(vs.map g).sum:=by
 induction vs with
 |nil=>simp
 |cons x p e=>
  simp only[List.map_cons,List.sum_cons];have q:=h x (List.mem_cons_self ..);have r:=e (λl o=>h l (List.mem_cons_of_mem _ o));omega
def f' (wt:Nat):Nat->World->List Value->Nat
 |0,_,_=>0
 |f+1,w,cs=>wt+((fF w (cs.getD 5 undef)).map (f' wt f w)).sum
theorem jz (e:w.ownsRow base 48 11 kv (O vs) vs.flatten) (l:∀x∈vs,isNode S g h w x):f' wt (f+1) w (ae kind pos n m name kv).toList=wt+(vs.map (f' wt f w)).sum:=by
 have o:=jP e (λx p=>(isNode.pe _ _ (l x p)).1);show wt+((fF w kv).map (f' wt f w)).sum=_;rw[o]
theorem fZ (l:aq S w w'):(h:Nat)->(cs:List Value)->isNode S g h w cs->∀f,f' wt f w' cs=f' wt f w cs
 |0,_,hn,_=>absurd hn (λe=>e)
 |_+1,_,_,0=>rfl
 |h+1,_,⟨kind,pos,n,m,name,kv,vs,h1,h2,h3,h3',h4,h5,h6,h7⟩,f+1=>by
  subst h1;rw[jz h4 h6,jz (ah h4 (λb p q=>l b (h5 b p) q)) (λe o=>isNode.frame l h e (h6 e o))];have:vs.map (f' wt f w')=vs.map (f' wt f w):=List.map_congr_left (λe o=>fZ l h e (h6 e o) f);rw[this]
theorem pY:(f:Nat)->(w:World)->(cs:List Value)->f' wt f w cs<=f' wt (f+1) w cs
 |0,_,_=>zL _
 |f+1,w,cs=>by
  show wt+((fF w (cs.getD 5 undef)).map (f' wt f w)).sum<=wt+((fF w (cs.getD 5 undef)).map (f' wt (f+1) w)).sum;have:=ku (f:=f' wt f w) (g:=f' wt (f+1) w) (fF w (cs.getD 5 undef)) (λe _=>pY f w e);omega
theorem jl wt (f:Nat) (w:World) (vs:List (List Value)):(vs.map (f' wt f w)).sum<=(vs.map (f' wt (f+1) w)).sum:=ku vs (λe _=>pY f w e)
theorem jk:(f:Nat)->(w:World)->(cs:List Value)->f' wt f w cs=wt*aG f w cs
 |0,_,_=>rfl
 |f+1,w,cs=>by
  show wt+((fF w (cs.getD 5 undef)).map (f' wt f w)).sum=wt*(1+((fF w (cs.getD 5 undef)).map (aG f w)).sum)
  have:∀vs:List (List Value),(vs.map (f' wt f w)).sum=wt*(vs.map (aG f w)).sum:=by
   intro vs;induction vs with
   |nil=>rfl
   |cons e vs l=>rw[List.map_cons,List.map_cons,List.sum_cons,List.sum_cons,l,jk f w e,Nat.mul_add]
  rw[this,Nat.mul_add,Nat.mul_one]
def eU (wt f:Nat) (w:World) (vs:List (List Value)):Int:=(((vs.map (f' wt f w)).sum:Nat):Int)
theorem cX (f:Nat) (w:World):eU wt f w []=0:=rfl
theorem cL (f:Nat) (w:World) (x:List Value) (vs:List (List Value)):eU wt f w (x::vs)=(f' wt f w x:Int)+eU wt f w vs:=by simp[eU]
theorem bK (f:Nat) (w:World) (a b:List (List Value)):eU wt f w (a++b)=eU wt f w a+eU wt f w b:=by simp[eU]
theorem cK (wt f:Nat) (w:World) (vs:List (List Value)):0<=eU wt f w vs:=by unfold eU;omega
theorem r7 (f:Nat) (w:World) (vs:List (List Value)):eU wt f w vs=(wt:Int)*eU 1 f w vs:=by
 induction vs with
 |nil=>simp[eU]
 |cons l vs e=>rw[cL,cL,e,jk,jk,Int.mul_add];simp
structure Mz (wt:Nat) (w:World) (rb tb cap:Nat) (t:Tk) (i:Nat) (k:Int) (g:Prop) (s:Int) (W:World) (j:Nat) (kj aj:Int) (L:List (Nat × Array Value)) (T:List (List Value)) (kv:Value) (vs:List (List Value)):Prop where
 cV:br w rb tb cap t i k g W j kj aj L T kv vs
 sz:kj=0->∀f,eU wt f W vs+eU wt f W T<=16*((j:Int) - (i:Int))+s
def aZ (wt:Nat) (w:World) (rb tb cap:Nat) (t:Tk) (i:Nat) (k:Int) (must:Prop) (d:Int) (C:Int->Prop) (e:Ending) (w':World):Prop:=
 ∃(kind pos n m:Int) (name:ByteArray) (ko:Option Addr) (kl kc:Nat) (i':Nat) (k' a':Int),e=.returned (.agg (ae kind pos n m name (J ko kl kc)))/\Nx w rb tb cap t i k must w' i' k' a'/\bf (E (U w)) (k'=0) w' (ae kind pos n m name (J ko kl kc)).toList/\(k'=0->C (az (ae kind pos n m name (J ko kl kc)).toList))/\(k'=0->∀f,(f' wt f w' (ae kind pos n m name (J ko kl kc)).toList:Int)+d<=16*((i':Int) - (i:Int)))
def iR (wt:Nat) (w:World) (rb tb cap:Nat) (t:Tk) (i:Nat) (k:Int) (must:Prop) (d:Int) (C:List Int->Prop) (e:Ending) (w':World):Prop:=
 ∃(ao:Option Addr) (cp:Nat) (vs:List (List Value)) (i':Nat) (k' a':Int),e=.returned (J ao (O vs) cp)/\Nx w rb tb cap t i k must w' i' k' a'/\Kids (E (U w)) (k'=0) w' (J ao (O vs) cp) vs/\O vs<=6002/\(k'=0->C (vs.map az))/\(k'=0->∀f,eU wt f w' vs+d<=16*((i':Int) - (i:Int)))
section
variable{w W w':World} {rb tb cap i j:Nat} {t:Tk} {k kj aj:Int} {g:Prop} {s:Int} {L:List (Nat × Array Value)} {T:List (List Value)} {kv:Value} {vs:List (List Value)}
theorem br.vH (q:br w rb tb cap t i k g W j kj aj L T kv vs) (o:aq (Out w (L.map ja) kv) W w') (f:Nat):eU wt f w' vs=eU wt f W vs/\eU wt f w' T=eU wt f W T:=by
 obtain⟨h,p⟩:=q.all;constructor
 ·unfold eU;rw[List.map_congr_left (λe l=>fZ o _ _ (p e (.inl l)) f)]
 ·unfold eU;rw[List.map_congr_left (λe l=>fZ o _ _ (p e (.inr l)) f)]
theorem br.gq (q:br w rb tb cap t i k g W j kj aj L T kv vs) (e:Kp (E (U W)) rb W w') (f:Nat):eU wt f w' vs=eU wt f W vs/\eU wt f w' T=eU wt f W T:=
 q.vH (wt:=wt) (aq.kp e (λl=>oI l.1 q.st.lb)) f
theorem Mz.start {a:Int} (h:Rd w rb tb cap t i k a):Mz wt w rb tb cap t i k False 0 w i k a [] [] (J I 0 0) []:=⟨br.start h,λ_ f=>by rw[cX];omega⟩
theorem Mz.less (q:Mz wt w rb tb cap t i k g s W j kj aj L T kv vs) {s':Int} (h:s<=s'):Mz wt w rb tb cap t i k g s' W j kj aj L T kv vs:=⟨q.cV,λe f=>oH (q.sz e f)⟩
theorem Mz.rk (q:Mz wt w rb tb cap t i k g s W j kj aj L T kv vs) (p:Rd w' rb tb cap t i' k' a') (e:Kp (E (U W)) rb W w') (r:j<=i') (l:k'=0->kj=0):Mz wt w rb tb cap t i k g s w' i' k' a' L T kv vs:=
 ⟨q.cV.rk p e r l,λu f=>by have h:=q.sz (l u) f;have o:=q.cV.gq (wt:=wt) e f;rw[o.1,o.2];omega⟩
theorem Mz.nx (q:Mz wt w rb tb cap t i k g s W j kj aj L T kv vs) (e:Nx W rb tb cap t j kj must w' i' k' a'):Mz wt w rb tb cap t i k g s w' i' k' a' L T kv vs:=q.rk e.rd e.kp e.le e.ok
theorem Mz.up (q:Mz wt w rb tb cap t i k g s W j kj aj L T kv vs) {g':Prop} (e:g'->kj=0->i<j):Mz wt w rb tb cap t i k g' s W j kj aj L T kv vs:=⟨q.cV.up e,q.sz⟩
theorem Mz.pX (q:Mz wt w rb tb cap t i k g s W j kj aj L T kv vs) (e:Nx W rb tb cap t j kj True w' i' k' a'):Mz wt w rb tb cap t i k True (s - 16) w' i' k' a' L T kv vs:=
 ⟨q.cV.pX e,λl f=>by have h:=q.sz (e.ok l) f;have o:=q.cV.gq (wt:=wt) e.kp f;have p:=e.go trivial l;rw[o.1,o.2];omega⟩
theorem Mz.below (q:Mz wt w rb tb cap t i k g s W j kj aj L T kv vs) (e:Below (E (U W)) W w'):Mz wt w rb tb cap t i k g s w' j kj aj L T kv vs:=q.nx (Nx.below q.cV.st.rd e)
theorem Mz.drew (q:Mz wt w rb tb cap t i k g s W j kj aj L T kv vs):Mz wt w rb tb cap t i k g s W.drew j kj aj L T kv vs:=q.below (Below.refl _ _).drew
theorem Mz.alloc (q:Mz wt w rb tb cap t i k g s W j kj aj L T kv vs) (o:Obj):Mz wt w rb tb cap t i k g s (W.alloc o) j kj aj L T kv vs:=q.below ((Below.refl _ _).alloc (lR _) o)
theorem Mz.newAt (q:Mz wt w rb tb cap t i k g s W j kj aj L T kv vs) (e:ad=E (U W)) (c:Array Value):Mz wt w rb tb cap t i k g s (W.alloc (Ob c 48)) j kj aj ((ad,c)::L) T kv vs:=⟨q.cV.newAt e c,(q.alloc _).sz⟩
theorem Mz.put (q:Mz wt w rb tb cap t i k g s W j kj aj L T kv vs) (n:Nat) {c:Array Value} (e:L[n]? =some (b,c)) (o:Nat) (u:Value):Mz wt w rb tb cap t i k g s (W.setCell ⟨b,o,I⟩ u) j kj aj (L.set n (b,c.setIfInBounds o u)) T kv vs:=
 ⟨q.cV.put n e o u,λp f=>by
  have l:=q.cV.vH (wt:=wt) (w':=W.setCell ⟨b,o,I⟩ u) (aq.setCell _ ⟨b,o,I⟩ _ (λr=>r.2.1 (List.mem_map.2 ⟨_,mG e,Q⟩))) f;rw[l.1,l.2];exact q.sz p f⟩
theorem Mz.jG (q:Mz wt w rb tb cap t i k g s W j kj aj L T kv vs) (n:Nat) {z A B C D F G H K M N:Value} (x:L[n]? =some (b,#[z,A,B,C,D,F,G,H,K,M,N])) (c0 c1 c2 c3 e l o p r u v:Value):Mz wt w rb tb cap t i k g s (aK W b c0 c1 c2 c3 e l o p r u v) j kj aj (L.set n (b,#[c0,c1,c2,c3,e,l,o,p,r,u,v])) T kv vs:=
 ⟨q.cV.jG n x c0 c1 c2 c3 e l o p r u v,λP f=>by
  have y:=q.cV.vH (wt:=wt) (w':=aK W b c0 c1 c2 c3 e l o p r u v) (aq.aK (λR=>R.2.1 (List.mem_map.2 ⟨_,mG x,Q⟩)) _ _ _ _ _ _ _ _ _ _ _) f;rw[y.1,y.2];exact q.sz P f⟩
theorem Mz.jB (q:Mz wt w rb tb cap t i k g s W j kj aj L T kv vs) {j':Nat} (l:j'<t.len) (o:j<j'):Mz wt w rb tb cap t i k True (s - 16) (W.setCell ⟨rb,1,I⟩ (.int .i64 j')) j' kj aj L T kv vs:=
 ⟨q.cV.jB l o,λr f=>by
  have e:=q.cV.gq (wt:=wt) (w':=W.setCell ⟨rb,1,I⟩ (.int .i64 j')) (Kp.setCell (p:=⟨rb,1,I⟩) (Kp.refl _ _ _) (.inr Q) _) f;have u:=q.sz r f;rw[e.1,e.2];omega⟩
theorem Mz.node (q:Mz wt w rb tb cap t i k g s W j kj aj L T kv vs) (e:Nx W rb tb cap t j kj must w' i' k' a') (p:bf (E (U W)) (k'=0) w' c) (r:k'=0->∀f,(f' wt f w' c:Int)+d<=16*((i':Int) - (j:Int))):Mz wt w rb tb cap t i k g (s - d) w' i' k' a' L (c::T) kv vs:=
 ⟨q.cV.node e p,λl f=>by
  have h:=q.sz (e.ok l) f;have o:=q.cV.gq (wt:=wt) e.kp f;have u:=r l f;rw[cL,o.1,o.2];omega⟩
theorem Mz.tj (q:Mz wt w rb tb cap t i k g s W j kj aj L T kv vs) (e:Nx W rb tb cap t j kj True w' i' k' a') (l:bf (E (U W)) (k'=0) w' c) (o:k'=0->∀f,(f' wt f w' c:Int)+d<=16*((i':Int) - (j:Int))):Mz wt w rb tb cap t i k True (s - d) w' i' k' a' L (c::T) kv vs:=
 ⟨q.cV.tj e l,(q.node e l o).sz⟩
theorem Mz.holds (q:Mz wt w rb tb cap t i k g s W j kj aj L T kv vs) (e:Nx W rb tb cap t j kj must w' i' k' a') (hK:Kids (E (U W)) (k'=0) w' kv' vs') (p:k'=0->∀f,eU wt f w' vs'+d<=16*((i':Int) - (j:Int))):Mz wt w rb tb cap t i k g (s - d) w' i' k' a' L (vs'++T) kv vs:=
 ⟨q.cV.holds e hK,λl f=>by
  have h:=q.sz (e.ok l) f;have o:=q.cV.gq (wt:=wt) e.kp f;have r:=p l f;rw[bK,o.1,o.2];omega⟩
theorem Mz.list (q:Mz wt w rb tb cap t i k g s W j kj aj L T (J I 0 0) []) (e:Nx W rb tb cap t j kj must w' i' k' a') (hK:Kids (E (U W)) (k'=0) w' kv' vs') (o:k'=0->∀f,eU wt f w' vs'+d<=16*((i':Int) - (j:Int))):Mz wt w rb tb cap t i k g (s - d) w' i' k' a' L T kv' vs':=
 ⟨q.cV.list e hK,λl f=>by
  have h:=q.sz (e.ok l) f;have p:=q.cV.gq (wt:=wt) e.kp f;have r:=o l f;rw[cX] at h;rw[p.2];omega⟩
theorem Mz.swap {b:List Value} (q:Mz wt w rb tb cap t i k g s W j kj aj L (a::b::T) kv vs):Mz wt w rb tb cap t i k g s W j kj aj L (b::a::T) kv vs:=
 ⟨q.cV.swap,λe f=>by have h:=q.sz e f;rw[cL,cL] at h⊢;omega⟩
theorem Mz.drop (q:Mz wt w rb tb cap t i k g s W j kj aj L (a::T) kv vs):Mz wt w rb tb cap t i k g s W j kj aj L T kv vs:=
 ⟨q.cV.drop,λe f=>by have h:=q.sz e f;rw[cL] at h;omega⟩
theorem Mz.pop {p:Nat × Array Value} (q:Mz wt w rb tb cap t i k g s W j kj aj (p::L) T kv vs):Mz wt w rb tb cap t i k g s W j kj aj L T kv vs:=⟨q.cV.pop,q.sz⟩
theorem Mz.wT (q:Mz wt w rb tb cap t i k g s W j kj aj L T kv vs):Mz wt w rb tb cap t i k g s W j kj aj L (vs++T) (J I 0 0) []:=
 ⟨q.cV.wT,λe f=>by have h:=q.sz e f;rw[bK,cX];omega⟩
theorem Mz.made {us:List (List Value)} (q:Mz wt w rb tb cap t i k g s W j kj aj L (us++T) (J I 0 0) []) (cs:Array Value) (e:cs.toList=us.flatten) (hl:O us<=20000) (l:∀x∈us,O x=11) {n:Nat} (o:ad=E (U W)) (p:n=O us):
 Mz wt w rb tb cap t i k g s (W.alloc (Ob cs 48)) j kj aj L T (J (some ⟨ad,0,I⟩) n n) us:=
 ⟨q.cV.made cs e hl l o p,λr f=>by
  have h:=(q.alloc (Ob cs 48)).sz r f;rw[bK,cX] at h;omega⟩
theorem Mz.fold (q:Mz wt w rb tb cap t i k g s W j kj aj L T kv vs) (hl:O vs<=20000) (l:name.size<=20000) (o:0<=pos/\pos<=7000) (p:kj=0->Gr kind n name (vs.map az)):Mz wt w rb tb cap t i k g (s+(wt:Int)) W j kj aj L ((ae kind pos n m name kv).toList::T) (J I 0 0) []:=
 ⟨q.cV.fold hl l o p,λe f=>by
  obtain⟨h,r⟩:=q.cV.all;rw[cL,cX];have u:=q.sz e f;have A:=cK wt f W vs
  cases f with
  |zero=>
   have v:f' wt 0 W (ae kind pos n m name kv).toList=0:=rfl;rw[v];omega
  |succ f=>
   have x:f' wt (f+1) W (ae kind pos n m name kv).toList=wt+(vs.map (f' wt f W)).sum:=jz q.cV.row (λy z=>r y (.inl z));have B:=q.sz e f;have C:(vs.map (f' wt f W)).sum<=(vs.map (f' wt (f+1) W)).sum:=jl wt f W vs;rw[x];unfold eU at u⊢;omega⟩
end
end
section
variable{c:Array Value} {name:ByteArray} {kind m n pos:Int} {us:List (List Value)} {ad b b' cp gb kc kl r:Nat} {ao ko:Option Addr}
variable{wt:Nat}
section
variable{w W w':World} {rb tb cap i j:Nat} {t:Tk} {k kj aj:Int} {g:Prop} {s:Int} {L:List (Nat × Array Value)} {T:List (List Value)} {kv:Value} {vs:List (List Value)}
theorem Mz.st (q:Mz wt w rb tb cap t i k g s W j kj aj L T kv vs):St w rb tb cap t W j kj aj:=q.cV.st
theorem Mz.le (q:Mz wt w rb tb cap t i k g s W j kj aj L T kv vs):i<=j:=q.cV.le
theorem Mz.ok (q:Mz wt w rb tb cap t i k g s W j kj aj L T kv vs):kj=0->k=0:=q.cV.ok
theorem Mz.go (q:Mz wt w rb tb cap t i k g s W j kj aj L T kv vs):g->kj=0->i<j:=q.cV.go
theorem Mz.at (q:Mz wt w rb tb cap t i k g s W j kj aj L T kv vs) (n:Nat) (d:L[n]? =some (b,c)):(∀a,W.cell? ⟨b,a,I⟩=c[a]?)/\(∀a,W.frozen? ⟨b,a,I⟩=false)/\b<E (U W)/\b≠rb:=q.cV.at n d
theorem Mz.ne (q:Mz wt w rb tb cap t i k g s W j kj aj L T kv vs) (n m:Nat) {a:Array Value} (d:L[n]? =some (b,c)) (e:L[m]? =some (b',a)) (h:n≠m):b≠b'/\b'≠b:=q.cV.ne n m d e h
theorem Mz.shape (q:Mz wt w rb tb cap t i k g s W j kj aj L T kv vs):∃ao cp,kv=J ao (O vs) cp:=q.cV.shape
theorem Mz.kD (q:Mz wt w rb tb cap t i k g s W j kj aj L T (J ao (O vs) cp) vs) (h:1<=O vs):∃gb,ao=some ⟨gb,0,I⟩:=q.cV.kD h
theorem Mz.bd {a:Nat} (q:Mz wt w rb tb cap t i k True s W j kj aj L T kv vs) (e:∀i' k' d,(k'=0->i<i')->d<64->Bd a t i' k' d) (f:r<64):Bd a t j kj r:=q.cV.bd e f
theorem Mz.first (q:Mz wt w rb tb cap t i k g s W j kj aj L T (J ao (O vs) cp) vs) (d:O vs=1):∃gb,ao=some ⟨gb,0,I⟩/\gb<E (U W)/\gb≠rb/\gb∉L.map ja/\∃kind pos n m name ko kl kc,vs=[(ae kind pos n m name (J ko kl kc)).toList]/\∀a,a<11->W.cell? ⟨gb,a,I⟩=(ae kind pos n m name (J ko kl kc))[a]? :=q.cV.first d
theorem Mz.jJ (q:Mz wt w rb tb cap t i k g s W j kj aj L T kv vs) (a:b∉L.map ja) (n:Nat) (d:L[n]? =some (b',c)):b≠b'/\b'≠b:=q.cV.jJ a n d
theorem Mz.bP (q:Mz wt w rb tb cap t i k g s W j kj aj L T kv vs):Mz wt w rb tb cap t j kj False (16*((j:Int) - (i:Int))+s) W j kj aj L T kv vs:=⟨q.cV.bP,λa d=>oH (q.sz a d)⟩
theorem Mz.aE {i':Nat} {k':Int} {g':Prop} {s':Int} (q:Mz wt w rb tb cap t i k g s W j kj aj L T kv vs) (a:i'<=i) (d:k=0->k'=0) (e:g'->k=0->i'<i) (o:s<=16*((i:Int) - (i':Int))+s'):Mz wt w rb tb cap t i' k' g' s' W j kj aj L T kv vs:=
 ⟨q.cV.aE a d e,λf l=>oH (q.sz f l)⟩
theorem Mz.leaf (q:Mz wt w rb tb cap t i k g s W j kj aj L T kv vs) (e:name.size<=20000) (f:0<=pos/\pos<=7000) (l:kj=0->Gr kind n name []):Mz wt w rb tb cap t i k g (s+(wt:Int)) W j kj aj L ((ae kind pos n m name (J I 0 0)).toList::T) kv vs:=
 ⟨q.cV.leaf e f l,λo a=>by
  have p:=q.sz o a;rw[cL]
  cases a with
  |zero=>
   have d:f' wt 0 W (ae kind pos n m name (J I 0 0)).toList=0:=rfl;rw[d];omega
  |succ a=>
   have d:f' wt (a+1) W (ae kind pos n m name (J I 0 0)).toList=wt:=rfl;rw[d];omega⟩
theorem Mz.lit (q:Mz wt w rb tb cap t i k g s W j kj aj L (us++T) kv vs) (cs:Array Value) (d:cs.toList=us.flatten) (hl:O us<=20000) (f:∀x∈us,O x=11) {c:Nat} (p:ad=E (U W)) (u:c=O us)
 (A:name.size<=20000) (B:0<=pos/\pos<=7000) (v:kj=0->Gr kind n name (us.map az)):Mz wt w rb tb cap t i k g (s+(wt:Int)) (W.alloc (Ob cs 48)) j kj aj L ((ae kind pos n m name (J (some ⟨ad,0,I⟩) c c)).toList::T) kv vs:=
  ⟨q.cV.lit cs d hl f p u A B v,λe a=>by
   subst p u;have l:=q.alloc (Ob cs 48);have o:=l.sz e a;rw[bK] at o;rw[cL]
   cases a with
   |zero=>
    have C:f' wt 0 (W.alloc (Ob cs 48)) (ae kind pos n m name (J (some ⟨E (U W),0,I⟩) (O us) (O us))).toList=0:=rfl;have N:=cK wt 0 (W.alloc (Ob cs 48)) us;rw[C];omega
   |succ a=>
    obtain⟨h,y⟩:=l.cV.all
    have D:O us.flatten=O us*11:=by
     clear d hl q l v o y;induction us with
     |nil=>rfl
     |cons x r F=>simp only[List.flatten_cons,List.length_append,List.length_cons];rw[F (λG H=>f G (List.mem_cons_of_mem _ H)),f x (List.mem_cons_self ..)];omega
    have z:=World.ownsRow_lit (base:=0) (e:=48) (size:=11) W cs (O us) (zL _) (by unfold maxLen;omega) (by rw[<-Array.length_toList,d,D]);rw[d] at z;have K:f' wt (a+1) (W.alloc (Ob cs 48)) (ae kind pos n m name (J (some ⟨E (U W),0,I⟩) (O us) (O us))).toList=wt+(us.map (f' wt a (W.alloc (Ob cs 48)))).sum:=jz z (λx M=>y x (.inr (List.mem_append.2 (.inl M))));have P:=jl wt a (W.alloc (Ob cs 48)) us;rw[K];unfold eU at o⊢;omega⟩
theorem br.oK (q:br w rb tb cap t i k g W j kj aj L T kv vs) (o:W.grownBy w' kv.ownBlock) (f:Nat):eU wt f w' vs=eU wt f W vs/\eU wt f w' T=eU wt f W T:=by
 obtain⟨h,e⟩:=q.all;have l:aq (λb=>Out w (L.map ja) kv b/\b<E (U W)) W w':=aq.grown o (λb p u=>u.1.2.2 p);constructor
 ·unfold eU;rw[List.map_congr_left (λa d=>fZ l _ _ (isNode.low _ _ (e a (.inl d))) f)]
 ·unfold eU;rw[List.map_congr_left (λa d=>fZ l _ _ (isNode.low _ _ (e a (.inr d))) f)]
theorem Mz.jg (q:Mz wt w rb tb cap t i k g s W j kj aj L (us++T) kv vs) (S:O vs<=19000) (V:O us<=6010) (d:TypeId) {xv:Value} (e:(xv=J I 0 0/\us=[])\/∃ad c,xv=J (some ad) (O us) c/\∀j u,us.flatten[j]? =some u->W.cell? (ad.add j)=some u):
 ∃f w',(Builtin.append_ #[46,46] d #[kv,xv]).run Tryz.prog W=.ok f w'/\∃ao cp,f=J ao (O vs+O us) cp/\Mz wt w rb tb cap t i k g s w' j kj aj L T (J ao (O vs+O us) cp) (vs++us):=by
 obtain⟨l,o,A,B,C⟩:=info_parts tK;rcases e with⟨rfl,rfl⟩|⟨ad,c,rfl,hc⟩
 ·refine⟨kv,W,run_append_owned_none (P:=Tryz.prog) (w:=W) (E (U w)) 46 d 48 l 11 Tryz.underlying46 o kv (O vs) vs.flatten q.cV.row,?_⟩;obtain⟨ao,cp,a⟩:=q.cV.shape;refine⟨ao,cp,sU a,?_⟩;have p:Mz wt w rb tb cap t i k g s W j kj aj L T kv (vs++[]):=sU q;rw[a] at p;simpa using p
 ·obtain⟨h,D⟩:=q.cV.all;obtain⟨F,G⟩:=lX (us:=us) (λH e=>isNode.pe _ _ (D H (.inr (List.mem_append.2 (.inl e)))));obtain⟨f,w',K,M,v,_,N⟩:=run_append_own_at (P:=Tryz.prog) W (E (U w)) 46 d 48 l _ 11 160 Tryz.underlying46 o A B C Q dC kv (O vs) vs.flatten q.cV.row ad (O us) c us.flatten F hc G (by unfold maxLen;omega) oM q.cV.st.size;have x:=q.cV.app M v N;obtain⟨ao,cp,a⟩:=x.shape;rw[List.length_append] at a;subst a;refine⟨_,w',K,ao,cp,Q,x,λa y=>?_⟩;have R:=q.sz a y;have z:=q.cV.oK (wt:=wt) v y;rw[bK] at R;rw[bK,bK] at z;rw[bK,z.1];omega
theorem Mz.kF (q:Mz wt w rb tb cap t i k g s W j kj aj L ((ae kind pos n m name (J ko kl kc)).toList::T) kv vs) (e:O vs<=19000) (a:TypeId) (f:ad=E (U W)):
 ∃d w',(Builtin.append_ #[46,46] a #[kv,J (some ⟨ad,0,I⟩) 1 1]).run Tryz.prog (W.alloc (Ob (ae kind pos n m name (J ko kl kc)) 48))=.ok d w'/\∃ao cp,d=J ao (O vs+1) cp/\Mz wt w rb tb cap t i k g s w' j kj aj L T (J ao (O vs+1) cp) (vs++[(ae kind pos n m name (J ko kl kc)).toList]):=by
 subst f;exact Mz.jg (us:=[(ae kind pos n m name (J ko kl kc)).toList]) (q.alloc _) e sQ a (.inr ⟨_,_,Q,sU (jQ W kind pos n m name (J ko kl kc) 48)⟩)
theorem Mz.fX {f:Nat} {G:Prop} (q:Mz wt w rb tb cap t i k g s W j kj aj L (us++T) kv vs) (hK:Kids f G W (J ao (O us) cp) us) (l:O vs<=19000) (o:O us<=6010) (d:TypeId):
 ∃e w',(Builtin.append_ #[46,46] d #[kv,J ao (O us) cp]).run Tryz.prog W=.ok e w'/\∃ao cp,e=J ao (O vs+O us) cp/\Mz wt w rb tb cap t i k g s w' j kj aj L T (J ao (O vs+O us) cp) (vs++us):=by
 refine q.jg l o d ?_;rcases hK.row.2 with⟨a,p⟩|⟨b,c2,cur,a,_⟩
 ·exact .inl ⟨sU a,List.eq_nil_of_length_eq_zero p⟩
 ·obtain⟨rfl,_,rfl⟩:ao=some ⟨b,0,I⟩/\O us=O us/\cp=c2:=sU a;exact .inr ⟨_,_,Q,hK.row.cells (g:=b) Q⟩
theorem Mz.cq {o:Func} (v:o.results=#[.cell r 48]) {e:Act} (x:e.defers=[]) (y:e.tmps.getD r undef=.pointer (some ⟨b,0,I⟩)) {C:Int->Prop}
 (q:Mz wt w rb tb cap t i k g s W j kj aj L ((ae kind pos n m name (J ko kl kc)).toList::T) kv vs) (f:Nat) (p:L[f]? =some (b,aB)) (z:kj=0->C (az (ae kind pos n m name (J ko kl kc)).toList)) {d:Int} (M:s+d<=0) {u:World}
 (A:u=Go.Proofs.YtdghkacbpebcoaaGreat.aK W b (.int .i64 kind) (.int .i64 pos) (.int .i64 n) (.int .i64 m) (.string name) (J ko kl kc) (.int .i64 0) (.int .i64 0) (J I 0 0) (J I 0 0) (J I 0 0)):
  bodyPost Tryz.prog o (aZ wt w rb tb cap t i k g d C) .ret e u:=by
  subst A;have a:=q.jG f p (.int .i64 kind) (.int .i64 pos) (.int .i64 n) (.int .i64 m) (.string name) (J ko kl kc) (.int .i64 0) (.int .i64 0) (J I 0 0) (J I 0 0) (J I 0 0);have B:ck _ b _:=(a.cV.dV f (b,_) (by rw[List.getElem?_set,if_pos Q,if_pos (gS p).1])).2;obtain⟨h,D⟩:=a.cV.all;refine bodyPost_ret (eB v y B) x ⟨kind,pos,n,m,name,ko,kl,kc,j,kj,aj,Q,⟨a.cV.st.rd,a.cV.st.kp,a.cV.le,a.cV.ok,a.cV.go⟩,⟨h,isNode.weaken (λb F=>F.1) (λG=>G) _ _ (D _ (.inr (List.mem_cons_self ..)))⟩,z,λH l=>?_⟩;have K:=a.sz H l;have N:=cK wt l (aK W b (.int .i64 kind) (.int .i64 pos) (.int .i64 n) (.int .i64 m) (.string name) (J ko kl kc) (.int .i64 0) (.int .i64 0) (J I 0 0) (J I 0 0) (J I 0 0)) vs;have P:=cK wt l (aK W b (.int .i64 kind) (.int .i64 pos) (.int .i64 n) (.int .i64 m) (.string name) (J ko kl kc) (.int .i64 0) (.int .i64 0) (J I 0 0) (J I 0 0) (J I 0 0)) T;rw[cL] at K;omega
theorem Mz.pK {a b:Nat × Array Value} (q:Mz wt w rb tb cap t i k g s W j kj aj (a::b::L) T kv vs):Mz wt w rb tb cap t i k g s W j kj aj (b::a::L) T kv vs:=⟨q.cV.pK,q.sz⟩
theorem Mz.sN (q:Mz wt w rb tb cap t i k g s W j kj aj L T (J (some ⟨gb,0,I⟩) (O vs) cp) vs):∃c,Rest c vs cp/\Mz wt w rb tb cap t i k g s W j kj aj ((gb,c)::L) (vs++T) (J I 0 0) []:=by
 obtain⟨c,a,d⟩:=q.cV.sN;exact⟨c,a,d,λe f=>by have:=q.sz e f;rw[bK,cX];omega⟩
theorem Mz.l8 (a:Rest c vs cp) (q:Mz wt w rb tb cap t i k g s W j kj aj ((gb,c)::L) (vs++T) (J I 0 0) []):Mz wt w rb tb cap t i k g s W j kj aj L T (J (some ⟨gb,0,I⟩) (O vs) cp) vs:=
 ⟨br.l8 a q.cV,λd e=>by have:=q.sz d e;rw[bK,cX] at this;omega⟩
end
end
section
variable{wt:Nat}
def eS (f r N:Nat):Prop:=∀{w:World} {rb tb cap i:Nat} {t:Tk} {k a:Int},Rd w rb tb cap t i k a->Bd N t i k r->Calls Tryz.prog f #[.pointer (some ⟨rb,0,I⟩)] w (aZ 1 w rb tb cap t i k True 8 λ_=>True)
def iI (f r N:Nat):Prop:=∀{w:World} {rb tb cap i:Nat} {t:Tk} {k a:Int},Rd w rb tb cap t i k a->Bd N t i k r->Calls Tryz.prog f #[.pointer (some ⟨rb,0,I⟩)] w (iR 1 w rb tb cap t i k True 0 λ_=>True)
def gz (f r N:Nat):Prop:=∀{w:World} {rb tb cap i:Nat} {t:Tk} {a:Int},Rd w rb tb cap t i 0 a->Bd N t i 0 r->Calls Tryz.prog f #[.pointer (some ⟨rb,0,I⟩)] w (aZ 1 w rb tb cap t i 0 True 8 λ_=>True)
def nh (wt N:Nat):Prop:=∀{w:World} {rb tb cap i:Nat} {t:Tk} {k a:Int},Rd w rb tb cap t i k a->Bd N t i k 3->Calls Tryz.prog 75 #[.pointer (some ⟨rb,0,I⟩)] w (aZ wt w rb tb cap t i k True 8 cx)
end
section
variable{a k:Int} {N cap i rb tb:Nat} {t:Tk} {w:World}
variable{wt:Nat}
theorem gz.qj {f r:Nat} (b:gz f r N) (c:k=0) (h:Rd w rb tb cap t i k a) (d:Bd N t i k r):Calls Tryz.prog f #[.pointer (some ⟨rb,0,I⟩)] w (aZ 1 w rb tb cap t i k True 8 λ_=>True):=by
 subst c;exact b h d
def tV (N:Nat):Prop:=∀{w:World} {rb tb cap i:Nat} {t:Tk} {a:Int},t.kind i=3->Rd w rb tb cap t i 0 a->Bd N t i 0 9->Calls Tryz.prog 97 #[.pointer (some ⟨rb,0,I⟩)] w (aZ 1 w rb tb cap t i 0 True 8 λ_=>True)
theorem tV.qj (b:tV N) (c:k=0) (hw:t.kind i=3) (h:Rd w rb tb cap t i k a) (d:Bd N t i k 9):Calls Tryz.prog 97 #[.pointer (some ⟨rb,0,I⟩)] w (aZ 1 w rb tb cap t i k True 8 λ_=>True):=by
 subst c;exact b hw h d
def tD (f:Nat) (must:Prop) (C:List Int->Prop):Prop:=∀{w:World} {rb tb cap i:Nat} {t:Tk} {k a:Int},Rd w rb tb cap t i k a->Calls Tryz.prog f #[.pointer (some ⟨rb,0,I⟩)] w (iR 1 w rb tb cap t i k must 0 C)
def mH (wt f:Nat) (must:Prop) (d:Int) (C:Int->Prop):Prop:=∀{w:World} {rb tb cap i:Nat} {t:Tk} {k a:Int},Rd w rb tb cap t i k a->Calls Tryz.prog f #[.pointer (some ⟨rb,0,I⟩)] w (aZ wt w rb tb cap t i k must d C)
theorem Mz.dead {W:World} {j:Nat} {b c:Int} {g:Prop} {s s':Int} {d:List (Nat × Array Value)} {T:List (List Value)} {kv:Value} {vs:List (List Value)} (q:Mz wt w rb tb cap t i k g s W j b c d T kv vs) (e:b≠0):Mz wt w rb tb cap t i k g s' W j b c d T kv vs:=⟨q.cV,λf=>absurd f e⟩
end
section
variable{wt:Nat}
theorem Mz.sub {w W:World} {rb a b i j:Nat} {t:Tk} {k c d:Int} {g:Prop} {s:Int} {e:List (Nat × Array Value)} {T T':List (List Value)} {kv:Value} {vs:List (List Value)} (q:Mz wt w rb a b t i k g s W j c d e T kv vs) (l:∀x∈T',x∈T) (m:∀f (X:World),eU wt f X T'<=eU wt f X T):Mz wt w rb a b t i k g s W j c d e T' kv vs:=
 ⟨q.cV.sub l,λn f=>by have o:=q.sz n f;have p:=m f W;omega⟩
end
section
variable{wt:Nat}
structure Nf where
 k:Int
 p:Int
 n:Int
 m:Int
 s:ByteArray
 o:Option Addr
 l:Nat
 c:Nat
abbrev Nf.v (x:Nf):Value:=J x.o x.l x.c
abbrev Nf.a (x:Nf):Array Value:=ae x.k x.p x.n x.m x.s (J x.o x.l x.c)
abbrev Nf.t (x:Nf):List Value:=(ae x.k x.p x.n x.m x.s (J x.o x.l x.c)).toList
abbrev sz (w:World):Nat:=E (U w)
abbrev nl:Value:=J I 0 0
abbrev sl (b n:Nat):Value:=J (some ⟨b,0,I⟩) n n
abbrev nk (k p:Int) (v:Value):Array Value:=ae k p 0 0 ⟨#[]⟩ v
abbrev Fc (W:World) (rb b:Nat) (c:Array Value):Prop:=(∀o,W.cell? ⟨b,o,I⟩=c[o]?)/\(∀o,W.frozen? ⟨b,o,I⟩=false)/\b<E (U W)/\b≠rb/\rb≠b
section
variable{w W w':World} {rb tb cap i j:Nat} {t:Tk} {k kj aj:Int} {g:Prop} {s:Int} {L:List (Nat × Array Value)} {T:List (List Value)} {kv:Value} {vs:List (List Value)} {a b c d:Nat} {x y z u:Array Value}
theorem Mz.fa (q:Mz wt w rb tb cap t i k g s W j kj aj L T kv vs) (n:Nat) {b:Nat} {c:Array Value} (l:L[n]? =some (b,c)):Fc W rb b c:=by
 obtain⟨o,r,A,e⟩:=q.at n l;exact⟨o,r,A,e,λF=>e F.symm⟩
theorem Mz.f1 (q:Mz wt w rb tb cap t i k g s W j kj aj ((a,x)::L) T kv vs):Fc W rb a x:=q.fa 0 Q
theorem Mz.f2 (q:Mz wt w rb tb cap t i k g s W j kj aj ((a,x)::(b,y)::L) T kv vs):Fc W rb a x/\Fc W rb b y/\a≠b/\b≠a:=⟨q.fa 0 Q,q.fa 1 Q,q.ne 0 1 Q Q dC⟩
theorem Mz.f3 (q:Mz wt w rb tb cap t i k g s W j kj aj ((a,x)::(b,y)::(c,z)::L) T kv vs):Fc W rb a x/\Fc W rb b y/\Fc W rb c z/\(a≠b/\b≠a)/\(a≠c/\c≠a)/\b≠c/\c≠b:=⟨q.fa 0 Q,q.fa 1 Q,q.fa 2 Q,q.ne 0 1 Q Q dC,q.ne 0 2 Q Q dC,q.ne 1 2 Q Q dC⟩
theorem Mz.f4 (q:Mz wt w rb tb cap t i k g s W j kj aj ((a,x)::(b,y)::(c,z)::(d,u)::L) T kv vs):Fc W rb a x/\Fc W rb b y/\Fc W rb c z/\Fc W rb d u/\(a≠b/\b≠a)/\(a≠c/\c≠a)/\(b≠c/\c≠b)/\(a≠d/\d≠a)/\(b≠d/\d≠b)/\c≠d/\d≠c:=⟨q.fa 0 Q,q.fa 1 Q,q.fa 2 Q,q.fa 3 Q,q.ne 0 1 Q Q dC,q.ne 0 2 Q Q dC,q.ne 1 2 Q Q dC,q.ne 0 3 Q Q dC,q.ne 1 3 Q Q dC,q.ne 2 3 Q Q dC⟩
variable{b0 b1 b2 b3:Nat} {c0 c1 c2 c3:Array Value} {ki po n m:Int} {na:ByteArray} {v:Value}
theorem Mz.fA (q:Mz wt w rb tb cap t i k g s W j kj aj ((b,ae ki po n m na v)::L) T kv vs) (X:Int):Mz wt w rb tb cap t i k g s (W.setCell ⟨b,0,I⟩ (.int .i64 X)) j kj aj ((b,ae X po n m na v)::L) T kv vs:=q.put 0 Q 0 (.int .i64 X)
theorem Mz.jV (q:Mz wt w rb tb cap t i k g s W j kj aj ((b,ae ki po n m na v)::L) T kv vs) (X:Int):Mz wt w rb tb cap t i k g s (W.setCell ⟨b,2,I⟩ (.int .i64 X)) j kj aj ((b,ae ki po X m na v)::L) T kv vs:=q.put 0 Q 2 (.int .i64 X)
theorem Mz.uT (q:Mz wt w rb tb cap t i k g s W j kj aj ((b,ae ki po n m na v)::L) T kv vs) (X:Int):Mz wt w rb tb cap t i k g s (W.setCell ⟨b,3,I⟩ (.int .i64 X)) j kj aj ((b,ae ki po n X na v)::L) T kv vs:=q.put 0 Q 3 (.int .i64 X)
theorem Mz.gI (q:Mz wt w rb tb cap t i k g s W j kj aj ((b,ae ki po n m na v)::L) T kv vs) (X:ByteArray):Mz wt w rb tb cap t i k g s (W.setCell ⟨b,4,I⟩ (.string X)) j kj aj ((b,ae ki po n m X v)::L) T kv vs:=q.put 0 Q 4 (.string X)
theorem Mz.dT (q:Mz wt w rb tb cap t i k g s W j kj aj ((b,ae ki po n m na v)::L) T kv vs) (X:Value):Mz wt w rb tb cap t i k g s (W.setCell ⟨b,5,I⟩ (X)) j kj aj ((b,ae ki po n m na X)::L) T kv vs:=q.put 0 Q 5 (X)
theorem Mz.yS (q:Mz wt w rb tb cap t i k g s W j kj aj ((b,ae ki po n m na v)::L) T kv vs) (K P e M:Int) (l:ByteArray) (o:Value):Mz wt w rb tb cap t i k g s (aK W b (.int .i64 K) (.int .i64 P) (.int .i64 e) (.int .i64 M) (.string l) o (.int .i64 0) (.int .i64 0) nl nl nl) j kj aj ((b,ae K P e M l o)::L) T kv vs:=q.jG 0 Q _ _ _ _ _ _ _ _ _ _ _
theorem Mz.yy (q:Mz wt w rb tb cap t i k g s W j kj aj ((b0,c0)::(b,ae ki po n m na v)::L) T kv vs) (X:Int):Mz wt w rb tb cap t i k g s (W.setCell ⟨b,0,I⟩ (.int .i64 X)) j kj aj ((b0,c0)::(b,ae X po n m na v)::L) T kv vs:=q.put 1 Q 0 (.int .i64 X)
theorem Mz.qR (q:Mz wt w rb tb cap t i k g s W j kj aj ((b0,c0)::(b,ae ki po n m na v)::L) T kv vs) (X:Int):Mz wt w rb tb cap t i k g s (W.setCell ⟨b,2,I⟩ (.int .i64 X)) j kj aj ((b0,c0)::(b,ae ki po X m na v)::L) T kv vs:=q.put 1 Q 2 (.int .i64 X)
theorem Mz.zv (q:Mz wt w rb tb cap t i k g s W j kj aj ((b0,c0)::(b,ae ki po n m na v)::L) T kv vs) (X:Int):Mz wt w rb tb cap t i k g s (W.setCell ⟨b,3,I⟩ (.int .i64 X)) j kj aj ((b0,c0)::(b,ae ki po n X na v)::L) T kv vs:=q.put 1 Q 3 (.int .i64 X)
theorem Mz.pP (q:Mz wt w rb tb cap t i k g s W j kj aj ((b0,c0)::(b,ae ki po n m na v)::L) T kv vs) (X:ByteArray):Mz wt w rb tb cap t i k g s (W.setCell ⟨b,4,I⟩ (.string X)) j kj aj ((b0,c0)::(b,ae ki po n m X v)::L) T kv vs:=q.put 1 Q 4 (.string X)
theorem Mz.iU (q:Mz wt w rb tb cap t i k g s W j kj aj ((b0,c0)::(b,ae ki po n m na v)::L) T kv vs) (X:Value):Mz wt w rb tb cap t i k g s (W.setCell ⟨b,5,I⟩ (X)) j kj aj ((b0,c0)::(b,ae ki po n m na X)::L) T kv vs:=q.put 1 Q 5 (X)
theorem Mz.mX (q:Mz wt w rb tb cap t i k g s W j kj aj ((b0,c0)::(b,ae ki po n m na v)::L) T kv vs) (K P e M:Int) (l:ByteArray) (o:Value):Mz wt w rb tb cap t i k g s (aK W b (.int .i64 K) (.int .i64 P) (.int .i64 e) (.int .i64 M) (.string l) o (.int .i64 0) (.int .i64 0) nl nl nl) j kj aj ((b0,c0)::(b,ae K P e M l o)::L) T kv vs:=q.jG 1 Q _ _ _ _ _ _ _ _ _ _ _
theorem Mz.yx (q:Mz wt w rb tb cap t i k g s W j kj aj ((b0,c0)::(b1,c1)::(b,ae ki po n m na v)::L) T kv vs) (X:Int):Mz wt w rb tb cap t i k g s (W.setCell ⟨b,2,I⟩ (.int .i64 X)) j kj aj ((b0,c0)::(b1,c1)::(b,ae ki po X m na v)::L) T kv vs:=q.put 2 Q 2 (.int .i64 X)
theorem Mz.yw (q:Mz wt w rb tb cap t i k g s W j kj aj ((b0,c0)::(b1,c1)::(b,ae ki po n m na v)::L) T kv vs) (X:ByteArray):Mz wt w rb tb cap t i k g s (W.setCell ⟨b,4,I⟩ (.string X)) j kj aj ((b0,c0)::(b1,c1)::(b,ae ki po n m X v)::L) T kv vs:=q.put 2 Q 4 (.string X)
theorem Mz.rI (q:Mz wt w rb tb cap t i k g s W j kj aj ((b0,c0)::(b1,c1)::(b,ae ki po n m na v)::L) T kv vs) (X:Value):Mz wt w rb tb cap t i k g s (W.setCell ⟨b,5,I⟩ (X)) j kj aj ((b0,c0)::(b1,c1)::(b,ae ki po n m na X)::L) T kv vs:=q.put 2 Q 5 (X)
theorem Mz.zu (q:Mz wt w rb tb cap t i k g s W j kj aj ((b0,c0)::(b1,c1)::(b2,c2)::(b,ae ki po n m na v)::L) T kv vs) (X:ByteArray):Mz wt w rb tb cap t i k g s (W.setCell ⟨b,4,I⟩ (.string X)) j kj aj ((b0,c0)::(b1,c1)::(b2,c2)::(b,ae ki po n m X v)::L) T kv vs:=q.put 3 Q 4 (.string X)
theorem Mz.zo (q:Mz wt w rb tb cap t i k g s W j kj aj ((b0,c0)::(b1,c1)::(b2,c2)::(b,ae ki po n m na v)::L) T kv vs) (X:Value):Mz wt w rb tb cap t i k g s (W.setCell ⟨b,5,I⟩ (X)) j kj aj ((b0,c0)::(b1,c1)::(b2,c2)::(b,ae ki po n m na X)::L) T kv vs:=q.put 3 Q 5 (X)
theorem Mz.ne' (q:Mz wt w rb tb cap t i k g s W j kj aj L T kv vs) (ad:Nat) (c:Array Value) (e:ad=E (U W):=by simp):Mz wt w rb tb cap t i k g s (W.alloc (Ob c 48)) j kj aj ((ad,c)::L) T kv vs:=q.newAt e c
theorem Mz.m1 (q:Mz wt w rb tb cap t i k g s W j kj aj L ((ae ki po n m na v).toList::T) nl []) (ad:Nat) (e:ad=E (U W):=by simp):Mz wt w rb tb cap t i k g s (W.alloc (Ob (ae ki po n m na v) 48)) j kj aj L T (sl ad 1) [(ae ki po n m na v).toList]:=Mz.made (us:=[(ae ki po n m na v).toList]) (T:=T) q _ sQ sQ sQ e Q
theorem Mz.fo (q:Mz wt w rb tb cap t i k g s W j kj aj L T kv vs) (ki po n m:Int) (na:ByteArray) (hl:O vs<=20000) (e:0<=po/\po<=7000) (l:na.size<=20000:=by decide) (o:kj=0->Gr ki n na (vs.map az):=by exact λ_=>Gr.free (.inl dC)):Mz wt w rb tb cap t i k g (s+(wt:Int)) W j kj aj L ((ae ki po n m na kv).toList::T) nl []:=q.fold hl l e o
theorem Mz.fk (q:Mz wt w rb tb cap t i k g s W j kj aj L T kv vs) (ki po:Int) (hl:O vs<=20000) (e:0<=po/\po<=7000) (l:kj=0->Gr ki 0 ⟨#[]⟩ (vs.map az):=by exact λ_=>Gr.free (.inl dC)):Mz wt w rb tb cap t i k g (s+(wt:Int)) W j kj aj L ((nk ki po kv).toList::T) nl []:=q.fold hl dC e l
theorem Mz.lk (q:Mz wt w rb tb cap t i k g s W j kj aj L T kv vs) (ki po n m:Int) (na:ByteArray) (e:0<=po/\po<=7000) (l:na.size<=20000:=by decide) (o:kj=0->Gr ki n na []:=by exact λ_=>Gr.free (.inl dC)):Mz wt w rb tb cap t i k g (s+(wt:Int)) W j kj aj L ((ae ki po n m na nl).toList::T) kv vs:=q.leaf l e o
variable{f:Nat} {args:Array Value} {R:Value} {Qz:Ending->World->Prop}
theorem Mz.lf (q:Mz wt w rb tb cap t i k g s W j kj aj L T kv vs) (h:Rd W rb tb cap t j kj aj->Calls Tryz.prog f args W λe w'=>e=.returned R/\Below (E (U W)) W w') (K:∀w',Mz wt w rb tb cap t i k g s w' j kj aj L T kv vs->Qz (.returned R) w'):Calls Tryz.prog f args W Qz:=(h q.st.rd).mono λe w' p=>p.1▸K w' (q.below p.2)
theorem Mz.wn (q:Mz wt w rb tb cap t i k g s W j kj aj L T kv vs) (h:Rd W rb tb cap t j kj aj->Calls Tryz.prog f args W λe w'=>e=.returned R/\∃i' k' l,Nx W rb tb cap t j kj True w' i' k' l) (K:∀w' i' k' l,Hid (k'=0->kj=0)->Mz wt w rb tb cap t i k True (s - 16) w' i' k' l L T kv vs->Qz (.returned R) w'):Calls Tryz.prog f args W Qz:=(h q.st.rd).mono λe w' p=>by
 obtain⟨rfl,i',k',l,o⟩:=p;exact K w' i' k' l o.ok (q.pX o)
variable{kx px nx mx ky py ny my:Int} {ax ay:ByteArray} {vx vy:Value}
theorem Mz.l1 (q:Mz wt w rb tb cap t i k g s W j kj aj L ((ae kx px nx mx ax vx).toList::T) kv vs) (ad:Nat) (ki po n m:Int) (na:ByteArray) (e:0<=po/\po<=7000) (l:na.size<=20000:=by decide) (o:kj=0->Gr ki n na ([(ae kx px nx mx ax vx).toList].map az):=by exact λ_=>Gr.free (.inl dC)) (r:ad=E (U W):=by simp):Mz wt w rb tb cap t i k g (s+(wt:Int)) (W.alloc (Ob (ae kx px nx mx ax vx) 48)) j kj aj L ((ae ki po n m na (sl ad 1)).toList::T) kv vs:=Mz.lit (us:=[(ae kx px nx mx ax vx).toList]) (T:=T) q _ sQ sQ sQ r Q l e o
theorem Mz.l2 (q:Mz wt w rb tb cap t i k g s W j kj aj L ((ae kx px nx mx ax vx).toList::(ae ky py ny my ay vy).toList::T) kv vs) (ad:Nat) (ki po n m:Int) (na:ByteArray) (e:0<=po/\po<=7000) (l:na.size<=20000:=by decide) (o:kj=0->Gr ki n na ([(ae kx px nx mx ax vx).toList,(ae ky py ny my ay vy).toList].map az):=by exact λ_=>Gr.free (.inl dC)) (r:ad=E (U W):=by simp):Mz wt w rb tb cap t i k g (s+(wt:Int)) (W.alloc (Ob (iW kx px nx mx ax vx ky py ny my ay vy) 48)) j kj aj L ((ae ki po n m na (sl ad 2)).toList::T) kv vs:=Mz.lit (us:=[(ae kx px nx mx ax vx).toList,(ae ky py ny my ay vy).toList]) (T:=T) q (iW kx px nx mx ax vx ky py ny my ay vy) sQ sQ sQ r Q l e o
theorem Mz.m2 (q:Mz wt w rb tb cap t i k g s W j kj aj L ((ae kx px nx mx ax vx).toList::(ae ky py ny my ay vy).toList::T) nl []) (ad:Nat) (e:ad=E (U W):=by simp):Mz wt w rb tb cap t i k g s (W.alloc (Ob (iW kx px nx mx ax vx ky py ny my ay vy) 48)) j kj aj L T (sl ad 2) [(ae kx px nx mx ax vx).toList,(ae ky py ny my ay vy).toList]:=Mz.made (us:=[(ae kx px nx mx ax vx).toList,(ae ky py ny my ay vy).toList]) (T:=T) q (iW kx px nx mx ax vx ky py ny my ay vy) sQ sQ sQ e Q
variable{B:Nat} {P:ByteArray->Prop}
theorem Mz.nm (q:Mz wt w rb tb cap t i k g s W j kj aj L T kv vs) (h:Rd W rb tb cap t j kj aj->Calls Tryz.prog f args W λe w'=>∃x,e=.returned (.string x)/\x.size<=B/\∃i' k' l,Nx W rb tb cap t j kj True w' i' k' l/\(k'=0->P x)) (K:∀w' x i' k' l,x.size<=B->(k'=0->P x)->Hid (k'=0->kj=0)->Mz wt w rb tb cap t i k True (s - 16) w' i' k' l L T kv vs->Qz (.returned (.string x)) w'):Calls Tryz.prog f args W Qz:=(h q.st.rd).mono λe w' p=>by
 obtain⟨x,rfl,r,i',k',l,o,A⟩:=p;exact K w' x i' k' l r A o.ok (q.pX o)
variable{xs:ByteArray}
theorem Mz.et (q:Mz wt w rb tb cap t i k g s W j kj aj L T kv vs) (h:Rd W rb tb cap t j kj aj->Calls Tryz.prog f args W λe w'=>∃b i',e=.returned (.bool b)/\lx t xs j kj b i'/\Rd w' rb tb cap t i' kj aj/\Kp (E (U W)) rb W w') (K:∀w' b i',lx t xs j kj b i'->Mz wt w rb tb cap t i k g s w' i' kj aj L T kv vs->Qz (.returned (.bool b)) w'):Calls Tryz.prog f args W Qz:=(h q.st.rd).mono λe w' p=>by
 obtain⟨b,i',rfl,l,o,r⟩:=p;exact K w' b i' l (q.rk o r l.le (λe=>e))
theorem Mz.ey (q:Mz wt w rb tb cap t i k g s W j kj aj L T kv vs) (h:Rd W rb tb cap t j kj aj->Calls Tryz.prog f args W λe w'=>e=.returned R/\Nx W rb tb cap t j kj True w' (j+1) kj aj) (K:∀w',Mz wt w rb tb cap t i k True (s - 16) w' (j+1) kj aj L T kv vs->Qz (.returned R) w'):Calls Tryz.prog f args W Qz:=(h q.st.rd).mono λe w' p=>p.1▸K w' (q.pX p.2)
variable{D:Int} {C:Int->Prop} {Ez:List Int->Prop} {must:Prop}
theorem Mz.nd (q:Mz wt w rb tb cap t i k g s W j kj aj L T kv vs) (h:Rd W rb tb cap t j kj aj->Calls Tryz.prog f args W (aZ wt W rb tb cap t j kj True D C)) (K:∀w' (x:Nf) i' k' e,(k'=0->C (az x.t))->Hid (k'=0->kj=0)->Mz wt w rb tb cap t i k True (s - D) w' i' k' e L (x.t::T) kv vs->Qz (.returned (.agg x.a)) w'):Calls Tryz.prog f args W Qz:=(h q.st.rd).mono λZ w' p=>by
 obtain⟨o,r,A,F,G,H,M,N,i',k',e,rfl,l,V,X,Y⟩:=p;exact K w' ⟨o,r,A,F,G,H,M,N⟩ i' k' e X l.ok (q.tj l V Y)
theorem Mz.nn (q:Mz wt w rb tb cap t i k g s W j kj aj L T kv vs) (h:Rd W rb tb cap t j kj aj->Calls Tryz.prog f args W (aZ wt W rb tb cap t j kj must D C)) (K:∀w' (x:Nf) i' k' e,(k'=0->C (az x.t))->Hid (k'=0->kj=0)->Mz wt w rb tb cap t i k g (s - D) w' i' k' e L (x.t::T) kv vs->Qz (.returned (.agg x.a)) w'):Calls Tryz.prog f args W Qz:=(h q.st.rd).mono λZ w' p=>by
 obtain⟨o,r,A,F,G,H,M,N,i',k',e,rfl,l,V,X,Y⟩:=p;exact K w' ⟨o,r,A,F,G,H,M,N⟩ i' k' e X l.ok (q.node l V Y)
theorem Mz.li (q:Mz wt w rb tb cap t i k g s W j kj aj L T nl []) (h:Rd W rb tb cap t j kj aj->Calls Tryz.prog f args W (iR wt W rb tb cap t j kj True D Ez)) (K:∀w' l o e i' k' r,O e<=6002->(k'=0->Ez (e.map az))->Hid (k'=0->kj=0)->Mz wt w rb tb cap t i k True (s - D) w' i' k' r L T (J l (O e) o) e->Qz (.returned (J l (O e) o)) w'):Calls Tryz.prog f args W Qz:=(h q.st.rd).mono λF w' p=>by
 obtain⟨l,o,e,i',k',r,rfl,A,hK,G,H,M⟩:=p;exact K w' l o e i' k' r G H A.ok ((q.list A hK M).up (λ_ F=>Nat.lt_of_le_of_lt q.le (A.go trivial F)))
theorem Mz.ln (q:Mz wt w rb tb cap t i k g s W j kj aj L T nl []) (h:Rd W rb tb cap t j kj aj->Calls Tryz.prog f args W (iR wt W rb tb cap t j kj must D Ez)) (K:∀w' l o e i' k' r,O e<=6002->(k'=0->Ez (e.map az))->Hid (k'=0->kj=0)->Mz wt w rb tb cap t i k g (s - D) w' i' k' r L T (J l (O e) o) e->Qz (.returned (J l (O e) o)) w'):Calls Tryz.prog f args W Qz:=(h q.st.rd).mono λM w' p=>by
 obtain⟨l,o,e,i',k',r,rfl,A,hK,F,G,H⟩:=p;exact K w' l o e i' k' r F G A.ok (q.list A hK H)
variable{ko ro:Option Addr} {kl kc rl rc:Nat} {ops:Array Oper} {rest:List Oper} {p:Oper} {act:Act} {S:Exit->Act->World->Prop} {sv xo:Operand}
theorem Mz.ap (q:Mz wt w rb tb cap t i k g s W j kj aj L ((ae ki po n m na (J ko kl kc)).toList::T) (J ro rl rc) vs) (ad:Nat) (o:O vs<=19000) (K:∀w' e l,Mz wt w rb tb cap t i k g s w' j kj aj L T (J e (rl+1) l) (vs++[(ae ki po n m na (J ko kl kc)).toList])->wpList Tryz.prog ops S rest (act.put p.dst (J e (rl+1) l)) w') (r:p.guard=I:=by rfl) (A:p.op=.call {callee:=.builtin .append,args:=#[sv,xo],argTypes:=#[46,46]}:=by rfl) (F:act.eval sv=J ro rl rc:=by rfl) (G:act.eval xo=sl ad 1:=by rfl) (H:ad=E (U W):=by simp):wpList Tryz.prog ops S (p::rest) act (W.alloc (Ob (ae ki po n m na (J ko kl kc)) 48)):=
 by
 obtain⟨M,N,V⟩:=q.shape;obtain⟨rfl,rfl,rfl⟩:ro=M/\rl=O vs/\rc=N:=sU V;refine oC r A F G (Mz.kF q o _ H) λY w' h=>?_;obtain⟨e,l,rfl,X⟩:=h;exact K w' e l X
variable{Kk:Act->World->Prop} {Ee:Prop}
theorem Mz.as (q:Mz wt w rb tb cap t i k g s W j kj aj L ((ae ki po n m na (J ko kl kc)).toList::T) (J ro rl rc) vs) (ad:Nat) (o:O vs<=19000) (K:∀w' e l,Mz wt w rb tb cap t i k g s w' j kj aj L T (J e (rl+1) l) (vs++[(ae ki po n m na (J ko kl kc)).toList])->Kk (act.put p.dst (J e (rl+1) l)) w') (r:p.guard=I:=by rfl) (A:p.op=.call {callee:=.builtin .append,args:=#[sv,xo],argTypes:=#[46,46]}:=by rfl) (F:act.eval sv=J ro rl rc:=by rfl) (G:act.eval xo=sl ad 1:=by rfl) (H:ad=E (U W):=by simp):if Region.wanted p (yielded ops act.tmps)=true then Oper.wp Tryz.prog p act (W.alloc (Ob (ae ki po n m na (J ko kl kc)) 48)) Kk S else Ee:=
 by
 obtain⟨M,N,V⟩:=q.shape;obtain⟨rfl,rfl,rfl⟩:ro=M/\rl=O vs/\rc=N:=sU V;refine jf r A F G (Mz.kF q o _ H) λY w' h=>?_;obtain⟨e,l,rfl,X⟩:=h;exact K w' e l X
theorem Mz.rt {e:Func} {r:Nat} (q:Mz wt w rb tb cap t i k g s W j kj aj L ((ae ki po n m na (J ko kl kc)).toList::T) kv vs) (A:e.results=#[.cell r 48]) (l:Nat) {o:World} {b:Nat} (F:o=aK W b (.int .i64 ki) (.int .i64 po) (.int .i64 n) (.int .i64 m) (.string na) (J ko kl kc) (.int .i64 0) (.int .i64 0) nl nl nl:=by rfl) (G:act.defers=[]:=by rfl) (H:act.tmps.getD r undef=.pointer (some ⟨b,0,I⟩):=by rfl) (K:L[l]? =some (b,aB):=by rfl) (M:s+8<=0:=by omega):bodyPost Tryz.prog e (aZ wt w rb tb cap t i k g 8 λ_=>True) .ret act o:=Mz.cq A G H q l K (λ_=>trivial) M F
end
end
section
variable{wt:Nat}
theorem Mz.post {w W:World} {rb b c i j:Nat} {t:Tk} {k a e:Int} {g:Prop} {s:Int} {m:List (Nat × Array Value)} {T:List (List Value)} {kv:Value} {vs:List (List Value)} (q:Mz wt w rb b c t i k g s W j a e m T kv vs) {f:Prop} {d:Int} {C:List Int->Prop} (n:f->g) (hl:O vs<=6002) (o:a=0->C (vs.map az)) (x:s+d<=0):iR wt w rb b c t i k f d C (.returned kv) W:=by
 obtain⟨p,r,rfl⟩:=q.shape;refine⟨p,r,vs,j,a,e,Q,⟨q.st.rd,q.st.kp,q.le,q.ok,λu=>q.go (n u)⟩,q.cV.kids,hl,o,λv l=>?_⟩;have y:=q.sz v l;have z:=cK wt l W T;omega
end
section
variable{wt:Nat}
def qC (wt N:Nat):Prop:=∀{w:World} {rb tb cap i:Nat} {t:Tk} {k a:Int},Rd w rb tb cap t i k a->Bd N t i k 4->∀s,Calls Tryz.prog 76 #[.pointer (some ⟨rb,0,I⟩),.string s] w (iR wt w rb tb cap t i k True 0 λks=>∀x∈ks,cx x)
def sF (wt N:Nat):Prop:=∀{w:World} {rb tb cap i:Nat} {t:Tk} {k a:Int},Rd w rb tb cap t i k a->k=0->i+1<t.len->Bd N t i k 2->Calls Tryz.prog 93 #[.pointer (some ⟨rb,0,I⟩)] w (aZ wt w rb tb cap t i k True 8 cx)
def qk (wt N:Nat):Prop:=∀{w:World} {rb tb cap i:Nat} {t:Tk} {k a:Int},Rd w rb tb cap t i k a->Bd N t i k 4->Calls Tryz.prog 94 #[.pointer (some ⟨rb,0,I⟩)] w (iR wt w rb tb cap t i k True 0 lP)
end
section
variable{wt:Nat}
theorem Mz.pk {w W w':World} {rb c e i j:Nat} {t:Tk} {k l v:Int} {g:Prop} {s:Int} {o:List (Nat × Array Value)} {T:List (List Value)} {kv:Value} {vs:List (List Value)} (q:Mz wt w rb c e t i k g s W j l v o T kv vs) {x:Prop} {i':Nat} {k' p:Int} (y:Nx W rb c e t j l x w' i' k' p) {kind pos n m:Int} {name:ByteArray} {a:Value} {b:List (List Value)} (z:bf (E (U W)) (k'=0) w' (ae kind pos n m name a).toList) (hK:Kids (E (U W)) (k'=0) w' a b) {d:Int} (r:k'=0->∀f,eU wt f w' b+d<=16*((i':Int) - (j:Int))):Mz wt w rb c e t i k g (s - (d - (wt:Int))) w' i' k' p o ((ae kind pos n m name a).toList::T) kv vs:=by
 refine q.node y z (λu f=>?_);obtain⟨A,h,B⟩:=hK
 cases f with
 |zero=>
  have G:=r u 0;have C:f' wt 0 w' (ae kind pos n m name a).toList=0:=rfl;have H:=cK wt 0 w' b;rw[C];omega
 |succ f=>
  have D:f' wt (f+1) w' (ae kind pos n m name a).toList=wt+(b.map (f' wt f w')).sum:=jz A B;have F:=r u f;rw[D];unfold eU at F;omega
end
section
section
variable{P:Program} {md:Region.Mode} {ops:Array Oper} {Qz:Exit->Act->World->Prop} {S:World->Prop} {fuel:Nat} {listed ls:Array Bool} {a b:Act} {w:World} {oi oj:Oper}
theorem aM (i:Nat) {v:Value} (h:wpAnyH P md ops Qz S fuel ls b w) (d:ops[i]? =some oi:=by simp only[List.getElem?_toArray,List.getElem?_cons_succ,List.getElem?_cons_zero];rfl) (e:Region.noSelect ops=true:=by as_aux_lemma=>kernel_rfl) (f:Region.free md ops listed i=true:=by as_aux_lemma=>kernel_rfl) (j:(Region.ready md ops listed).contains i=true:=by as_aux_lemma=>kernel_rfl) (k:∀c a w,Qz (.panic c) (a.put oi.dst v) w->Qz (.panic c) a w:=by exact λ_ _ _ h=>h) (hw:Region.wanted oi (yielded ops a.tmps)=true:=by rfl) (l:∀w,S w->(execOp a.eval oi).run P w=.ok (.value v) w:=by(intro w hSw;(try dsimp only at hSw);go_simp<;>with_reducible rfl)) (hl:listed.setIfInBounds i true=ls:=by first|(simp only[List.setIfInBounds_toArray,List.set_cons_zero,List.set_cons_succ];rfl)|rfl) (m:a.put oi.dst v=b:=by first|(simp only[Act.put,List.setIfInBounds_toArray,List.set_cons_zero,List.set_cons_succ];rfl)|rfl) (hS:S w:=by assumption):wpAnyH P md ops Qz S (fuel+1) listed a w:=by
 subst hl m;exact wpAnyH_take d e f j k (Or.inl ⟨hw,l⟩) hS h
theorem eA (i:Nat) (h:∀K:Act->World->Prop,Shut (∀a w,S w->(S w->wpAnyH P md ops Qz S fuel (listed.setIfInBounds i true) a w)->K a w)->if Region.wanted oi (yielded ops a.tmps)=true then Oper.wp P oi a w K Qz else K (a.put oi.dst undef) w) (c:ops[i]? =some oi:=by simp only[List.getElem?_toArray,List.getElem?_cons_succ,List.getElem?_cons_zero];rfl) (d:Region.ready md ops listed=[i]:=by as_aux_lemma=>kernel_rfl):wpAnyH P md ops Qz S (fuel+1) listed a w:=wpAnyH_ready d sQ (AllReadyH.cons c h AllReadyH.nil)
theorem pM (i j:Nat) (h:∀K:Act->World->Prop,Shut (∀a w,S w->(S w->wpAnyH P md ops Qz S fuel (listed.setIfInBounds i true) a w)->K a w)->if Region.wanted oi (yielded ops a.tmps)=true then Oper.wp P oi a w K Qz else K (a.put oi.dst undef) w) (c:∀K:Act->World->Prop,Shut (∀a w,S w->(S w->wpAnyH P md ops Qz S fuel (listed.setIfInBounds j true) a w)->K a w)->if Region.wanted oj (yielded ops a.tmps)=true then Oper.wp P oj a w K Qz else K (a.put oj.dst undef) w) (d:ops[i]? =some oi:=by simp only[List.getElem?_toArray,List.getElem?_cons_succ,List.getElem?_cons_zero];rfl) (e:ops[j]? =some oj:=by simp only[List.getElem?_toArray,List.getElem?_cons_succ,List.getElem?_cons_zero];rfl) (f:Region.ready md ops listed=[i,j]:=by as_aux_lemma=>kernel_rfl):wpAnyH P md ops Qz S (fuel+1) listed a w:=wpAnyH_ready f sQ (AllReadyH.cons d h (AllReadyH.cons e c AllReadyH.nil))
theorem dH {K:Act->World->Prop} (hK:Shut (∀a w,S w->(S w->wpAnyH P md ops Qz S fuel listed a w)->K a w)) (h:S w->wpAnyH P md ops Qz S fuel ls b w) (hl:listed=ls:=by first|(simp only[List.setIfInBounds_toArray,List.set_cons_zero,List.set_cons_succ];rfl)|rfl) (c:a=b:=by first|(simp only[Act.put,List.setIfInBounds_toArray,List.set_cons_zero,List.set_cons_succ];rfl)|rfl) (hS:S w:=by first|trivial|((try dsimp only);first|assumption|exact KB.out ((Below.refl _ _).drew)|exact KB.out ((al1 _ _).1.drew)|exact KS10|exact KS11|exact KB29.out|exact hS12|exact hS13)):K a w:=by
 subst hl c;exact hK.out _ _ hS h
end
end
theorem wH {m:Nat} (D:eS 82 18 m):iI 96 19 (m+1):=by
 intro w p q r j t f F h s;have X:=h.l;have G:Hid (Bd (m+1) t j f 19):=s;clear s;go_enter Tryz.func96,Tryz.ntmps96
 have a:=Mz.start (wt:=1) h;go_wp2_with fail;refine a.et (aU · _) ?_;clear a;intro Y H u K a;go_wp2_with fail
 ·go_wp2_with fail;go_ret;exact Mz.post (d:=0) (a.up (g':=True) (λ_ _=>oH (K.yes ‹_›).1)) (λ_=>trivial) sQ (λ_=>trivial) oM
 ·obtain rfl:H=false:= ‹_›;go_wp2_with fail;go_loopg [3] (ml t u f) (λg L wr=>∃(c:List (List Value)) (b:Nat) (e n:Int),g=ml t b e/\dQ 0 c b e/\(e=0->(λ_=>True) (c.map az))/\Mz 1 w p q r t j f False (0) wr b e n [] [] L c)
  case atStart=>exact⟨[],u,f,F,Q,⟨λ_=>by simp,sQ⟩,(λi=>trivial),(a.up (λk=>k.elim)).less oM⟩
  case round=>
   clear a;obtain⟨c,b,e,n,v,hF,x,a⟩:=hrel;have y:Hid (e=0->(λ_=>True) (c.map az)):=x;clear x;have z:=a.st.rd.lt;have Z:(0:Int)<=(t.pos b:Int)/\(t.pos b:Int)<=7000:=oH (h.ar.aQ b);have M:Hid (gk=ml t b e):=v;clear v;obtain⟨N,P,rfl⟩:=a.shape
   cases o:(e==0)
   ·go_wp2_with fail;refine a.lf aW ?_;clear a;intro aa a;go_wp2_with fail;go_ret;exact Mz.post (d:=0) (a.up (g':=True) (λ_ i=>absurd i (sU o))) (λ_=>trivial) hF.2 (λi=>absurd i (sU o)) oM
   ·obtain rfl:e=0:=sU o;have l:Hid (j<=b/\f=0):=⟨a.le,a.ok Q⟩;replace y:Hid ((λ_=>True) (c.map az)):=y.out Q;have R:Hid (∀i' k',b<=i'->Bd m t i' k' 18):=λi' k' A=>G.out.down (lT a.le A) (λ_=>a.ok Q) dC;have S:O c<=6001:=oI (hF.1 Q) h.ar.bj;replace a:Mz 1 w p q r t b 0 False (16*((b:Int) - (j:Int))+(0)) wr b 0 n [] [] (J N (O c) P) c:=a.bP.less oM;go_wp2_with fail;refine a.lf aW ?_;clear a;intro ab a;go_wp2_with fail;refine a.nd (D · (R.out _ _ a.le)) ?_;clear a;intro T V ac ad ae af _ a;go_wp2_with (at_builtin;refine a.ap (sz T) (lT S dC) ?_;clear a;intro ag ah ai a)
    go_wp2_with fail;refine a.et (aU · _) ?_;clear a;intro aj ak al ao a;go_wp2_with fail
    ·go_wp2_with fail;go_ret;exact Mz.post (d:=0) ((a.aE (i':=j) (k':=f) (g':=False) (s':= -8) l.out.1 (λ_=>l.out.2) (λk=>k.elim) oM).up (g':=True) (λ_ i=>Nat.lt_of_le_of_lt l.out.1 (a.go trivial i))) (λ_=>trivial) (by have A:=hF.1 rfl;have ap:=h.ar.bj;simp only[List.length_append,List.length_cons,List.length_nil];omega) (λ_=>trivial) oM
    ·go_wp2_with fail;refine a.wn (aI · _) ?_;clear a;intro aq B C W ar a;go_wp2_with fail;go_roundg (ml t B C)
     case measure=>rw[M.out];exact bN z a.le (a.go trivial)
     case rel=>exact⟨(c++[V.t]),B,C,W,Q,dQ.snoc (t:=t) hF Q z h.ar (a.go trivial),(λ_=>trivial),a.aE (s':=0) l.out.1 (λ_=>l.out.2) (λk=>k.elim) oM⟩
theorem xA {m:Nat} (D:eS 109 3 m):iI 111 4 (m+1):=by
 intro w p q r j t f F h s;have X:=h.l;have G:Hid (Bd (m+1) t j f 4):=s;clear s;go_enter Tryz.func111,Tryz.ntmps111
 have a:=Mz.start (wt:=1) h;go_wp2_with fail;refine a.et (aU · _) ?_;clear a;intro Y H u K a;go_wp2_with fail
 ·go_wp2_with fail;go_ret;exact Mz.post (d:=0) (a.up (g':=True) (λ_ _=>oH (K.yes ‹_›).1)) (λ_=>trivial) sQ (λ_=>trivial) oM
 ·obtain rfl:H=false:= ‹_›;go_wp2_with fail;go_loopg [3] (ml t u f) (λg L wr=>∃(c:List (List Value)) (b:Nat) (e n:Int),g=ml t b e/\dQ 0 c b e/\(e=0->(λ_=>True) (c.map az))/\Mz 1 w p q r t j f False (0) wr b e n [] [] L c)
  case atStart=>exact⟨[],u,f,F,Q,⟨λ_=>by simp,sQ⟩,(λi=>trivial),(a.up (λk=>k.elim)).less oM⟩
  case round=>
   clear a;obtain⟨c,b,e,n,v,hF,x,a⟩:=hrel;have y:Hid (e=0->(λ_=>True) (c.map az)):=x;clear x;have z:=a.st.rd.lt;have Z:(0:Int)<=(t.pos b:Int)/\(t.pos b:Int)<=7000:=oH (h.ar.aQ b);have M:Hid (gk=ml t b e):=v;clear v;obtain⟨N,P,rfl⟩:=a.shape
   cases o:(e==0)
   ·go_wp2_with fail;refine a.lf aW ?_;clear a;intro aa a;go_wp2_with fail;go_ret;exact Mz.post (d:=0) (a.up (g':=True) (λ_ i=>absurd i (sU o))) (λ_=>trivial) hF.2 (λi=>absurd i (sU o)) oM
   ·obtain rfl:e=0:=sU o;have l:Hid (j<=b/\f=0):=⟨a.le,a.ok Q⟩;replace y:Hid ((λ_=>True) (c.map az)):=y.out Q;have R:Hid (∀i' k',b<=i'->Bd m t i' k' 3):=λi' k' A=>G.out.down (lT a.le A) (λ_=>a.ok Q) dC;have S:O c<=6001:=oI (hF.1 Q) h.ar.bj;replace a:Mz 1 w p q r t b 0 False (16*((b:Int) - (j:Int))+(0)) wr b 0 n [] [] (J N (O c) P) c:=a.bP.less oM;go_wp2_with fail;refine a.lf aW ?_;clear a;intro ab a;go_wp2_with fail;refine a.nd (D · (R.out _ _ a.le)) ?_;clear a;intro T V ac ad ae af _ a;go_wp2_with (at_builtin;refine a.ap (sz T) (lT S dC) ?_;clear a;intro ag ah ai a)
    go_wp2_with fail;refine a.et (aU · _) ?_;clear a;intro aj ak al ao a;go_wp2_with fail
    ·go_wp2_with fail;go_ret;exact Mz.post (d:=0) ((a.aE (i':=j) (k':=f) (g':=False) (s':= -8) l.out.1 (λ_=>l.out.2) (λk=>k.elim) oM).up (g':=True) (λ_ i=>Nat.lt_of_le_of_lt l.out.1 (a.go trivial i))) (λ_=>trivial) (by have A:=hF.1 rfl;have ap:=h.ar.bj;simp only[List.length_append,List.length_cons,List.length_nil];omega) (λ_=>trivial) oM
    ·go_wp2_with fail;refine a.wn (aI · _) ?_;clear a;intro aq B C W ar a;go_wp2_with fail;go_roundg (ml t B C)
     case measure=>rw[M.out];exact bN z a.le (a.go trivial)
     case rel=>exact⟨(c++[V.t]),B,C,W,Q,dQ.snoc (t:=t) hF Q z h.ar (a.go trivial),(λ_=>trivial),a.aE (s':=0) l.out.1 (λ_=>l.out.2) (λk=>k.elim) oM⟩
theorem uP (i:∀j,nh 1 j):mH 1 78 False (-1) cx:=by
 intro w o p q b c r s h;have t:=h.l;have k:(0:Int)<=(c.pos b:Int)/\(c.pos b:Int)<=7000:=oH (h.ar.aQ b);go_enter Tryz.func78,Tryz.ntmps78
 have a:=Mz.start (wt:=1) h;go_wp2_with fail;refine(a.ne' (sz w) (aB)).lf (aF · 15) ?_;clear a;intro l a;have e:=a.f1;go_wp2_with fail;refine(a.ne' (sz l) (nk 15 (c.pos b) nl)).et (aU · _) ?_;clear a e;intro u v x y a;have e:=a.f2;go_wp2_with fail
 ·go_wp2_with fail;refine a.nd (i _ · (fM _ _ _ 3)) ?_;clear a e;intro z A B D F m _ a;have e:=a.f2;go_wp2_with fail;go_light;exact Mz.cq (C:=cx) (d:= -1) Tryz.results78 Q Q (a.up (g':=False) (λf=>f.elim)) 1 Q m oM Q
 ·go_wp2_with fail;go_light;exact Mz.cq (C:=cx) (d:= -1) Tryz.results78 Q Q (a.lk 15 (c.pos b) 0 0 ⟨#[]⟩ k dC (λ_=>Gr.nJ (λf n=>by cases n))) 1 Q (λ_=>⟨by show(13:Int)<=15;decide,by show(15:Int)<=18;decide⟩) oM Q
end Go.Proofs.YtdghkacbpebcoaaGreat
