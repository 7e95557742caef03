import Derived.Test.YtdghkacbpebcoaaGreatS36
import Derived.Test.YtdghkacbpebcoaaGreatS37
import Derived.Test.YtdghkacbpebcoaaGreatS38
namespace Go.Proofs.YtdghkacbpebcoaaGreat
open Go.RowKit
open Value renaming slice→J
open List renaming length→O
open Option renaming none→I
open World renaming heap→U
open _root_.Array renaming size→E
open Obj renaming cells→Ob
set_option linter.all false
set_option maxRecDepth 100000
set_option maxHeartbeats 0
section
variable{K:CK} {fa how next one:Int} {cb:Nat} {S0:Nat->Prop} {w:World}
theorem ya {W c:World} {r:Array Value} {fk s t u:Int} {D X Y:Nat} (q:PM w cb K how one r W next fk fa) (v:Kp (E (U W)) cb W c) (x:bJ c cb K how s one t u) {i:OA} {j:Nat} {vs:VV} (C:O vs<=20000)
 (e:lj W cb (λb=>S0 b/\b<E (U w)) D c (J i (O vs) j) vs Y) (F:1+Y<=X) (k:Act) (y:k.defers=[]) (z:k.tmps.getD 4 undef=.pointer (aS (E (U w)+1))):
  bodyPost Tryz.prog Tryz.f44 (bE w cb K how one S0 D X) .ret k (bQ c (E (U w)+1) (vN 3) (vN 0) (J I 0 0) (J i (O vs) j)):=by
  have f:=q.step v x;have G:=q.zb.lt;obtain⟨H,A⟩:=e.all
  have n:∀b,((S0 b/\b<E (U w))\/E (U W)<=b)->(S0 b\/E (U w)<=b)/\b≠E (U w)+1:=by
   rintro b (d|d)
   ·exact⟨.inl d.1,oM⟩
   ·exact⟨.inr oM,oM⟩
  have o:ro c (λb=>(S0 b\/E (U w)<=b)/\b≠E (U w)+1) 4 (J i (O vs) j) (O vs) vs.flatten:=ro.bH e.row (λb d=>n b (.inr (e.row.lt b d).1));have p:∀l∈vs,af (λb=>(S0 b\/E (U w)<=b)/\b≠E (U w)+1) (Gd D) H c l:=λl B=>af.weaken (λb d _=>n b d.1) _ _ (A l B);refine gr Tryz.results44 y z f.zb oM f.eN f.c f.k (H:=H+1) (kR (ls:=[]) (mq _ _ _) o sQ oM ⟨sQ,λa=>absurd a dC,λa=>by rcases a with a|a<;>exact absurd a dC,λa=>absurd a dC⟩ p) (λm=>?_)
  cases m with
  |zero=>exact zL _
  |succ m=>
   rw[gP o p];have:=e.sz m;omega
theorem rV {h:Nat} (z:bV h) {M:MK} {T:Nat} {o i B0:Nat} (d:Cx w cb K M T S0 o i) (k:bJ w cb K how next one 0 fa) (Z:B0<=cb) {pos n m:Int} {name:ByteArray} {ko:OA} {kl kc:Nat} (A:isNode (λb=>b<B0) True (h+1) w (ae 15 pos n m name (J ko kl kc)).toList):
 Calls Tryz.prog 44 #[.pointer (some ⟨cb,0,I⟩),.agg (ae 15 pos n m name (J ko kl kc))] w (bE w cb K how one S0 (O M.ds) (aG (h+1) w (ae 15 pos n m name (J ko kl kc)).toList*i)):=by
 have aa:Hid (bV h):=@z;clear z;obtain⟨a,rfl,p,q,B,C,av,ab,-,-⟩:=A.kids;obtain⟨l,r⟩:∃l,l=aG (h+1) w (ae 15 pos n m name (J ko (O a) kc)).toList*i:=⟨_,Q⟩;rw[<-r];have D:l=(1+(a.map (aG h w)).sum)*i:=by rw[r,C]
 have F:=k.lt;have aw:=d.z1;have G:Hid (Cx w cb K M T (λb=>S0 b/\b<E (U w)) o i/\bJ w cb K how next one 0 fa):=⟨d.low,k⟩;obtain⟨s,H,L⟩:=dW w (Ob (ae 15 pos n m name (J ko (O a) kc)) 48) (Ob eJ 41);have c:PM w cb K how one (ae 15 pos n m name (J ko (O a) kc)) ((w.alloc (Ob (ae 15 pos n m name (J ko (O a) kc)) 48)).alloc (Ob eJ 41)) next 0 fa:=⟨Kp.al s,k.below s,F,H,L⟩;have t:Hid (∀{u:World},Kp (E (U w)) cb w u->aq (λb=>b<B0) w u):=λ{u} ac b e ad=>ac.block b ad oM;have af:Hid (∀b,(S0 b/\b<E (U w))->b≠cb/\b<E (U w)):=λb e=>⟨d.s0 b e.1,e.2⟩;have ag:Hid (Cx ((w.alloc (Ob (ae 15 pos n m name (J ko (O a) kc)) 48)).alloc (Ob eJ 41)) cb K M T (λb=>S0 b/\b<E (U w)) o i):=G.out.1.step G.out.2 c.k;have ah:Hid (cU B0 ((w.alloc (Ob (ae 15 pos n m name (J ko (O a) kc)) 48)).alloc (Ob eJ 41)) (J ko (O a) kc) a):=p.frame (t.out c.k) oM;have ai:Hid (∀j∈a,isNode (λb=>b<B0) True h ((w.alloc (Ob (ae 15 pos n m name (J ko (O a) kc)) 48)).alloc (Ob eJ 41)) j/\cx (az j)):=λj d=>⟨isNode.frame (t.out c.k) _ _ (q j d),B.tuple Q _ (List.mem_map_of_mem d)⟩;have aj:Hid ((a.map (aG h ((w.alloc (Ob (ae 15 pos n m name (J ko (O a) kc)) 48)).alloc (Ob eJ 41)))).sum=(a.map (aG h w)).sum):=congrArg List.sum (List.map_congr_left (λj d=>aT (t.out c.k) _ _ (q j d) h));have ak:Hid (1+(a.map (aG h w)).sum*i<=l):=by show _<=_;rw[D,Nat.add_mul,Nat.one_mul];omega
 have al:=p.len.2;clear r D p q B C ab A;clear s H L d k;go_enter Tryz.func44,Tryz.ntmps44
 have N:=λv=>cell_of_row _ _ v _ 48 (0,0) c.nb;have P:=(gE c.nb).1;have R:=c.zb.cell;have S:=c.zb.fz;have V:=c.zb.lt;go_wp2_with (go_at_call 64;refine(iQ c.c).mono ?_;rintro ao x ⟨rfl,rfl⟩)
 refine(fK @aa.out ag.out c.c Z ah.out ai.out).mono ?_;rintro ao x ⟨ax,ay,ap,aA,aB,aC,rfl,W,X,Y,y⟩;rw[aj.out] at y;have f:=c.step Y X;have ar:O ap<=20000:=by rw[W];exact al
 have au:=y.mono (S1:=λb=>S0 b/\b<E (U w)) (λb e=>e.1) (λb e=>⟨(af.out b e).1,oI e.2 c.k.size⟩);clear N P R S V y W;have N:=λv=>cell_of_row x _ v _ 48 (0,0) f.nb;have P:E (U w)<E (U x):=(gE f.nb).1;have R:=f.zb.cell;have S:=f.zb.fz;have V:=f.zb.lt;have aD:=f.c.cell;have aE:=f.c.fz;have F:=f.c.lt;go_wp2_with fail;go_light;exact ya c Y X ar au ak.out _ Q Q
end
theorem wZ {h:Nat} (a:bV h):bV (h+1):=by
 intro w l m n o p q r s how next one j t b c d f pos u v x y z A e k;by_cases i:j=0
 ·subst i;obtain⟨B,C⟩:=k;rcases(show f=13\/f=14\/f=15\/f=16\/f=17\/f=18 by omega) with rfl|rfl|rfl|rfl|rfl|rfl
  ·exact uB @a b c d e
  ·exact uA @a b c d e
  ·exact rV @a b c d e
  ·exact rU @a b c d e
  ·exact rT @a b c d e
  ·exact rS @a b c d e
 ·exact uC @a b c d e (sU i)
theorem yG (h:Nat):bV h:=by
 induction h with
 |zero=>
  intro w d e f i j k l m how next one n o p q r s pos t u v x y z a A;exact absurd a (λb=>b)
 |succ h c=>exact wZ @c
section
variable{kind n:Int} {x:List Value} {D H Y ac ad an lc ln:Nat} {S:Nat->Prop} {aao aD:OA} {w w':World}
theorem y9:(Tryz.prog.info? 140).map (λa=>(a.zero,a.size,a.bytes))=some (some (.agg #[.string ⟨#[]⟩,.bool false,vN 0,vN 0,J I 0 0,J I 0 0]),6,88):=by kernel_rfl
def TQ (w:World) (S0:Nat->Prop) (kv vv:Value) (b:Nat):Prop:=(S0 b\/E (U w)+3<=b)/\kv.ownBlock≠some b/\vv.ownBlock≠some b
abbrev ix (nm:ByteArray) (mu:Bool) (kind n:Int) (lv av:Value):Array Value:=#[.string nm,.bool mu,vN kind,vN n,lv,av]
def dZ (S:Nat->Prop) (D H:Nat) (w:World) (x:List Value):Prop:=∃(nm:ByteArray) (mu:Bool) (kind n:Int) (lo:OA) (ln lc:Nat) (ao:OA) (an ac:Nat),x=(ix nm mu kind n (J lo ln lc) (J ao an ac)).toList/\af S (Gd D) H w (ak kind n (J lo ln lc) (J ao an ac)).toList
theorem dZ.frame (h:dZ S D H w x) (b:aq S w w') (c:E (U w)<=E (U w')):dZ S D H w' x/\∀a,bW a w' (x.drop 2)=bW a w (x.drop 2):=by
 obtain⟨e,f,kind,n,i,ln,lc,j,an,ac,rfl,d⟩:=h;exact⟨⟨e,f,kind,n,i,ln,lc,j,an,ac,Q,af.frame b c _ _ d⟩,λa=>aL b c _ _ d a⟩
theorem dZ.weaken {S':Nat->Prop} (h:dZ S D H w x) (a:∀b,S b->b<E (U w)->S' b):dZ S' D H w x:=by
 obtain⟨c,d,kind,n,e,ln,lc,f,an,ac,rfl,i⟩:=h;exact⟨c,d,kind,n,e,ln,lc,f,an,ac,Q,af.weaken a _ _ i⟩
theorem dZ.le {H':Nat} (h:dZ S D H w x) (a:H<=H'):dZ S D H' w x:=by
 obtain⟨b,c,kind,n,d,ln,lc,e,an,ac,rfl,f⟩:=h;exact⟨b,c,kind,n,d,ln,lc,e,an,ac,Q,af.le f _ a⟩
structure oq (w:World) (cb mb:Nat) (S0:Nat->Prop) (D:Nat) (wr:World) (io:OA) (ic:Nat) (ts:VV) (vo:OA) (vc:Nat) (vs:VV) (Xi Xv:Nat):Prop where
 ri:wr.ownsRow (E (U w)+3) 41 4 (J io (O ts) ic) (O ts) ts.flatten
 rv:wr.ownsRow (E (U w)+3) 140 6 (J vo (O vs) vc) (O vs) vs.flatten
 sep:∀b,(Value.slice io (O ts) ic).ownBlock=some b->(Value.slice vo (O vs) vc).ownBlock≠some b
 ti:∃H,∀x∈ts,af (TQ w S0 (J io (O ts) ic) (J vo (O vs) vc)) (Gd D) H wr x
 tv:∃H,∀x∈vs,dZ (TQ w S0 (J io (O ts) ic) (J vo (O vs) vc)) D H wr x
 si:∀f,(ts.map (bW f wr)).sum<=Xi
 sv:∀f,(vs.map (λx=>bW f wr (x.drop 2))).sum<=Xv
 s0:∀b,S0 b->b≠cb/\b≠mb/\b<E (U w)
 size:E (U w)+3<=E (U wr)
section
variable{w wr w':World} {cb mb:Nat} {S0:Nat->Prop} {D:Nat} {io:OA} {ic:Nat} {ts:VV} {vo:OA} {vc:Nat} {vs:VV} {Xi Xv:Nat}
theorem oq.nil (w wr:World) (c:E (U w)+3<=E (U wr)) (h:∀b,S0 b->b≠cb/\b≠mb/\b<E (U w)):oq w cb mb S0 D wr I 0 [] I 0 [] 0 0:=
 ⟨World.ownsRow_nil _ _ _ _,World.ownsRow_nil _ _ _ _,λb d=>by simp[Value.ownBlock] at d,⟨0,λx a=>by cases a⟩,⟨0,λx a=>by cases a⟩,λ_=>lR _,λ_=>lR _,h,c⟩
theorem oq.step (q:oq w cb mb S0 D wr io ic ts vo vc vs Xi Xv) {X:Nat->Prop} (c:KX X (E (U wr)) wr w') (k:∀b,X b->b=cb\/b=mb\/(E (U w)<=b/\b<E (U w)+3)) (r:cb<E (U w)) (s:mb<E (U w)):oq w cb mb S0 D w' io ic ts vo vc vs Xi Xv:=by
 have j:∀b,E (U w)+3<=b->¬X b:=λb d a=>by rcases k b a with h|h|h<;>omega
 have i:aq (TQ w S0 (J io (O ts) ic) (J vo (O vs) vc)) wr w':=λb d e=>c.block b e (λa=>by
  rcases d.1 with h|h
  ·have t:=q.s0 b h;rcases k b a with l|l|l<;>omega
  ·exact j b h a)
 obtain⟨H,m⟩:=q.ti;obtain⟨p,o⟩:=q.tv;refine⟨ah q.ri (λb d e=>c.block b e (j b (q.ri.lt b d).1)),ah q.rv (λb d e=>c.block b e (j b (q.rv.lt b d).1)),q.sep,⟨H,λx a=>af.frame i c.size _ _ (m x a)⟩,⟨p,λx a=>((o x a).frame i c.size).1⟩,λf=>?_,λf=>?_,q.s0,lT q.size c.size⟩
 ·rw[List.map_congr_left (λx a=>aL i c.size _ _ (m x a) f)];exact q.si f
 ·rw[List.map_congr_left (λx a=>((o x a).frame i c.size).2 f)];exact q.sv f
theorem oq.out (q:oq w cb mb S0 D wr io ic ts vo vc vs Xi Xv) {W0:Nat} {cs:List Value} (d:∀b,(Value.slice io (O ts) ic).ownBlock=some b\/(Value.slice vo (O vs) vc).ownBlock=some b->b<W0) (f:E (U w)+3<=W0) (e:af (λb=>S0 b\/W0<=b) (Gd D) H wr cs):af (TQ w S0 (J io (O ts) ic) (J vo (O vs) vc)) (Gd D) H wr cs:=
 af.weaken (λb c _=>by
  rcases c with c|c
  ·have i:=q.s0 b c;exact⟨.inl c,λa=>oH (q.ri.lt b a).1,λa=>oH (q.rv.lt b a).1⟩
  ·exact⟨.inr oM,λa=>oH (d b (.inl a)),λa=>oH (d b (.inr a))⟩) _ _ e
theorem oq.wL (q:oq w cb mb S0 D wr io ic ts vo vc vs Xi Xv) (o:af (TQ w S0 (J io (O ts) ic) (J vo (O vs) vc)) (Gd D) H wr (ak kind n (J aD ln lc) (J aao an ac)).toList) (A:∀f,bW f wr (ak kind n (J aD ln lc) (J aao an ac)).toList<=Y) (au:O ts<=30000) (B:TypeId) (ae:ad=E (U wr)):
 ∃u w',(Builtin.append_ #[39,39] B #[J io (O ts) ic,J (some ⟨ad,0,I⟩) 1 1]).run Tryz.prog (wr.alloc (Ob (ak kind n (J aD ln lc) (J aao an ac)) 41))=.ok u w'/\∃i j,u=J i (O ts+1) j/\oq w cb mb S0 D w' i j (ts++[(ak kind n (J aD ln lc) (J aao an ac)).toList]) vo vc vs (Xi+Y) Xv/\af (TQ w S0 (J i (O ts+1) j) (J vo (O vs) vc)) (Gd D) H w' (ak kind n (J aD ln lc) (J aao an ac)).toList/\(∀f,bW f w' (ak kind n (J aD ln lc) (J aao an ac)).toList<=Y)/\KX (λa=>(Value.slice io (O ts) ic).ownBlock=some a) (E (U wr)) wr w':=by
 have one:∀C∈(ak kind n (J aD ln lc) (J aao an ac)).toList,C.oneCell'=true:=by
  intro C o;simp at o;rcases o with rfl|rfl|rfl|rfl<;>rfl
 have ag:=q.size;obtain⟨u,w',ai,e⟩:=fj (W:=wr) Tryz.underlying39 pv Q dC q.ri oM (ak kind n (J aD ln lc) (J aao an ac)) Q one (by unfold maxLen;omega) oM B ae;obtain⟨i,j,rfl⟩:=e.shape;obtain⟨aj,F⟩:=q.ti;obtain⟨al,G⟩:=q.tv;have p:E (U wr)<=E (U w'):=lT sQ e.grown.size;have v:∀a,a<E (U wr)->(Value.slice io (O ts) ic).ownBlock≠some a->w'.heap[a]? =wr.heap[a]? :=λa b y=>(e.grown.block a (by simp;omega) (λd=>y d.symm)).trans (Below.heap_alloc _ _ _ b);have K:aq (λa=>TQ w S0 (J io (O ts) ic) (J vo (O vs) vc) a/\a<E (U wr)) wr w':=λa b k=>v a k b.1.2.1
 have ao:∀a,TQ w S0 (J io (O ts) ic) (J vo (O vs) vc) a/\a<E (U wr)->TQ w S0 (J i (O ts+1) j) (J vo (O vs) vc) a:=by
  rintro a ⟨⟨l,r,ap⟩,k⟩;refine⟨l,?_,ap⟩;rcases e.own with d|d
  ·rw[d];exact r
  ·rw[d];intro ar;simp at ar;omega
 have m:∀{H:Nat} (x:List Value),af (TQ w S0 (J io (O ts) ic) (J vo (O vs) vc)) (Gd D) H wr x->af (TQ w S0 (J i (O ts+1) j) (J vo (O vs) vc)) (Gd D) H w' x/\∀f,bW f w' x=bW f wr x:=by
  intro H x c;have l:=af.weaken (S':=λa=>TQ w S0 (J io (O ts) ic) (J vo (O vs) vc) a/\a<E (U wr)) (λa b k=>⟨b,k⟩) _ _ c;exact⟨af.weaken (λa b _=>ao a b) _ _ (af.frame K p _ _ l),λf=>aL K p _ _ l f⟩
 have s:O (ts++[(ak kind n (J aD ln lc) (J aao an ac)).toList])=O ts+1:=sQ;have t:=m _ o;refine⟨_,w',ai,i,j,Q,⟨?_,ah q.rv (λa b k=>v a k (λd=>q.sep a d b)),?_,⟨max H aj,?_⟩,⟨al,?_⟩,?_,?_,q.s0,lT ag p⟩,t.1,λf=>by rw[t.2 f];exact A f,⟨e.grown.os,e.grown.tape,e.grown.output,p,λa b y=>v a b y⟩⟩
 ·rw[s];have:=e.row;simpa using this
 ·intro a b L;rw[s] at b;have av:=(q.rv.lt a L).2;rcases e.own with d|d
  ·exact q.sep a (by rw[<-d];exact b) L
  ·rw[d] at b;simp at b;omega
 ·intro x c;rw[s];rcases List.mem_append.1 c with c|c
  ·exact af.le (m x (F x c)).1 _ (Nat.le_max_right _ _)
  ·rw[List.mem_singleton.1 c];exact af.le t.1 _ (Nat.le_max_left _ _)
 ·intro x c;rw[s];obtain⟨M,N,P,R,T,V,X,Z,aa,ab,rfl,z⟩:=G x c;exact⟨M,N,P,R,T,V,X,Z,aa,ab,Q,(m _ z).1⟩
 ·intro f;rw[List.map_append,List.sum_append,List.map_congr_left (λx c=>(m x (F x c)).2 f)];have l:=q.si f;have r:=A f;rw[<-t.2 f] at r;exact Nat.add_le_add l (show bW f w' _+0<=Y from r)
 ·intro f
  rw[List.map_congr_left (g:=λx=>bW f wr (x.drop 2)) (λx c=>by
   obtain⟨M,N,P,R,T,V,X,Z,aa,ab,rfl,z⟩:=G x c;exact(m _ z).2 f)]
  exact q.sv f
theorem oq.wK (q:oq w cb mb S0 D wr io ic ts vo vc vs Xi Xv) (i:ByteArray) (j:Bool) (r:af (TQ w S0 (J io (O ts) ic) (J vo (O vs) vc)) (Gd D) H wr (ak kind n (J aD ln lc) (J aao an ac)).toList) (ab:∀f,bW f wr (ak kind n (J aD ln lc) (J aao an ac)).toList<=Y) (au:O vs<=30000) (C:TypeId) (ae:ad=E (U wr)):
 ∃y w',(Builtin.append_ #[121,121] C #[J vo (O vs) vc,J (aS ad) 1 1]).run Tryz.prog (wr.alloc (Ob (ix i j kind n (J aD ln lc) (J aao an ac)) 140))=.ok y w'/\∃k l,y=J k (O vs+1) l/\oq w cb mb S0 D w' io ic ts k l (vs++[(ix i j kind n (J aD ln lc) (J aao an ac)).toList]) Xi (Xv+Y)/\KX (λa=>(Value.slice vo (O vs) vc).ownBlock=some a) (E (U wr)) wr w':=by
 have one:∀F∈(ix i j kind n (J aD ln lc) (J aao an ac)).toList,F.oneCell'=true:=by
  intro F r;simp at r;rcases r with rfl|rfl|rfl|rfl|rfl|rfl<;>rfl
 have ag:=q.size;obtain⟨y,w',ai,e⟩:=fj (W:=wr) Tryz.underlying121 y9 Q dC q.rv oM (ix i j kind n (J aD ln lc) (J aao an ac)) Q one (by unfold maxLen;omega) oM C ae;obtain⟨k,l,rfl⟩:=e.shape;obtain⟨aj,G⟩:=q.ti;obtain⟨al,K⟩:=q.tv;have s:E (U wr)<=E (U w'):=lT sQ e.grown.size;have z:∀a,a<E (U wr)->(Value.slice vo (O vs) vc).ownBlock≠some a->w'.heap[a]? =wr.heap[a]? :=λa b A=>(e.grown.block a (by simp;omega) (λd=>A d.symm)).trans (Below.heap_alloc _ _ _ b);have L:aq (λa=>TQ w S0 (J io (O ts) ic) (J vo (O vs) vc) a/\a<E (U wr)) wr w':=λa b m=>z a m b.1.2.2
 have ao:∀a,TQ w S0 (J io (O ts) ic) (J vo (O vs) vc) a/\a<E (U wr)->TQ w S0 (J io (O ts) ic) (J k (O vs+1) l) a:=by
  rintro a ⟨⟨o,t,ap⟩,m⟩;refine⟨o,t,?_⟩;rcases e.own with d|d
  ·rw[d];exact ap
  ·rw[d];intro ar;simp at ar;omega
 have p:∀{H:Nat} (x:List Value),af (TQ w S0 (J io (O ts) ic) (J vo (O vs) vc)) (Gd D) H wr x->af (TQ w S0 (J io (O ts) ic) (J k (O vs+1) l)) (Gd D) H w' x/\∀f,bW f w' x=bW f wr x:=by
  intro H x c;have o:=af.weaken (S':=λa=>TQ w S0 (J io (O ts) ic) (J vo (O vs) vc) a/\a<E (U wr)) (λa b m=>⟨b,m⟩) _ _ c;exact⟨af.weaken (λa b _=>ao a b) _ _ (af.frame L s _ _ o),λf=>aL L s _ _ o f⟩
 have u:O (vs++[(ix i j kind n (J aD ln lc) (J aao an ac)).toList])=O vs+1:=sQ;have M:=p _ r;refine⟨_,w',ai,k,l,Q,⟨ah q.ri (λa b m=>z a m (λd=>q.sep a b d)),?_,?_,⟨aj,?_⟩,⟨max H al,?_⟩,?_,?_,q.s0,lT ag s⟩,⟨e.grown.os,e.grown.tape,e.grown.output,s,λa b A=>z a b A⟩⟩
 ·rw[u];have:=e.row;simpa using this
 ·intro a b v;rw[u] at v;have av:=(q.ri.lt a b).2;rcases e.own with d|d
  ·exact q.sep a b (by rw[<-d];exact v)
  ·rw[d] at v;simp at v;omega
 ·intro x c;rw[u];exact(p x (G x c)).1
 ·intro x c;rw[u];rcases List.mem_append.1 c with c|c
  ·obtain⟨i,j,N,P,R,T,V,X,Z,aa,rfl,B⟩:=K x c;exact dZ.le ⟨i,j,N,P,R,T,V,X,Z,aa,Q,(p _ B).1⟩ (Nat.le_max_right _ _)
  ·rw[List.mem_singleton.1 c];exact dZ.le ⟨_,_,_,_,_,_,_,_,_,_,Q,M.1⟩ (Nat.le_max_left _ _)
 ·intro f;rw[List.map_congr_left (λx c=>(p x (G x c)).2 f)];exact q.si f
 ·intro f
  rw[List.map_append,List.sum_append,List.map_congr_left (g:=λx=>bW f wr (x.drop 2)) (λx c=>by
   obtain⟨i,j,N,P,R,T,V,X,Z,aa,rfl,B⟩:=K x c;exact(p _ B).2 f)]
  have o:=q.sv f;have t:=ab f;rw[<-M.2 f] at t;exact Nat.add_le_add o (show bW f w' _+0<=Y from t)
end
end
section
variable{nd:Array Value} {K:CK} {a fa fk how k kind lv n next o0 o1 one:Int} {M:MK} {H Xi Xv Y ac ad an b cb ic lc ln mb vc:Nat} {S0:Nat->Prop} {aao io aD vo:OA} {ts vs:VV} {w w' wr:World}
theorem KT.kx (l:bJ w cb K how next one fk fa) (m:cz w mb M) (o:KX (λb=>b=cb\/b=mb) (E (U w)) w w'):KT (λe=>e≠114/\e≠66) w w':=λb c e q d j=>o.block b (gE d).1 (λp=>by
 rcases p with rfl|rfl
 ·have f:w.heap[b]? =some (Ob (dy K how next one fk fa) 114 (0,0)):=l;rw[f] at d;have:=Option.some.inj d;injection this with _ i
  exact j.1 i.symm
 ·have f:w.heap[b]? =some (Ob (jM M) 66 (0,0)):=m;rw[f] at d;have:=Option.some.inj d;injection this with _ i
  exact j.2 i.symm)
theorem Cx.kB {T:Nat} {j l:Nat} (h:Cx w cb K M T S0 j l) (p:bJ w cb K how next one fk fa) (q:cz w mb M) (hK:K.mb=mb) (hS:∀b,S0 b->b≠mb) (f:KX (λb=>b=cb\/b=mb) (E (U w)) w w') (r:cz w' mb (M.bu k a)):Cx w' cb K (M.bu k a) T S0 j l:=by
 have i:=KT.kx p q f;have m:aq S0 w w':=λb o s=>f.block b s (λd=>by rcases d with d|d;exact h.s0 b o d;exact hS b o d);have e:=h.pi;refine⟨ag h.lv i dC,h.lf,ag h.tv i dC,h.tf,?_,h.mod,af.frame m f.size _ _ h.self,h.s0,λt=>by rw[aL m f.size _ _ h.self];exact h.sz t,h.z1⟩;rw[hK];exact⟨r,e.cE.kt i dC dC,e.q,ag e.cd i dC,e.bj,e.lg⟩
abbrev aH:Value:=J I 0 0
abbrev vM:Array Value:=#[vN 0,J I 0 0,J I 0 0,J I 0 0,vN 0,vN 0,J I 0 0,J I 0 0]
def ez (w:World) (b:Nat) (c:Array Value):Prop:=w.heap[b]? =some (Ob c 79 (0,0))
section
variable{w w':World} {b:Nat} {c:Array Value}
theorem ez.cell (h:ez w b c) (o:Nat):w.cell? ⟨b,o,I⟩=c[o]? :=cell_of_row w b o c 79 (0,0) h
theorem ez.fz (h:ez w b c) (o:Nat):w.frozen? ⟨b,o,I⟩=false:=frozen_of_row w b o c 79 h
theorem ez.lt (h:ez w b c):b<E (U w):=(gE h).1
theorem ez.set (h:ez w b c) (o:Nat) (u:Value):ez (w.setCell ⟨b,o,I⟩ u) b (c.setIfInBounds o u):=heap_setCell_same w b o c 79 u h
theorem ez.other (h:ez w b c) {p:Addr} (d:b≠p.block) (u:Value):ez (w.setCell p u) b c:=(Below.heap_setCell _ _ _ _ d).trans h
end
abbrev mm (w:World) (b:Nat) (c0 c1 c2 c3 c4 c5 c6 c7:Value):World:=(((((((w.setCell ⟨b,0,I⟩ c0).setCell ⟨b,1,I⟩ c1).setCell ⟨b,2,I⟩ c2).setCell ⟨b,3,I⟩ c3).setCell ⟨b,4,I⟩ c4).setCell ⟨b,5,I⟩ c5).setCell ⟨b,6,I⟩ c6).setCell ⟨b,7,I⟩ c7
theorem ez.mm {s r p m j f e d:Value} (h:ez w b #[s,r,p,m,j,f,e,d]) (c0 c1 c2 c3 i l o q:Value):ez (Go.Proofs.YtdghkacbpebcoaaGreat.mm w b c0 c1 c2 c3 i l o q) b #[c0,c1,c2,c3,i,l,o,q]:=by
 have t:ez (w.setCell ⟨b,0,I⟩ c0) b #[c0,r,p,m,j,f,e,d]:=h.set 0 c0;have u:ez _ b #[c0,c1,p,m,j,f,e,d]:=t.set 1 c1;have v:ez _ b #[c0,c1,c2,m,j,f,e,d]:=u.set 2 c2;have x:ez _ b #[c0,c1,c2,c3,j,f,e,d]:=v.set 3 c3;have y:ez _ b #[c0,c1,c2,c3,i,f,e,d]:=x.set 4 i;have z:ez _ b #[c0,c1,c2,c3,i,l,e,d]:=y.set 5 l;have A:ez _ b #[c0,c1,c2,c3,i,l,o,d]:=z.set 6 o;exact A.set 7 q
theorem rh (w:World) {z:Nat} (d:b≠z) (c0 c1 c2 c3 e f i j:Value):(Go.Proofs.YtdghkacbpebcoaaGreat.mm w z c0 c1 c2 c3 e f i j).heap[b]? =w.heap[b]? :=
 (Below.heap_setCell _ ⟨z,7,I⟩ _ _ d).trans ((Below.heap_setCell _ ⟨z,6,I⟩ _ _ d).trans ((Below.heap_setCell _ ⟨z,5,I⟩ _ _ d).trans ((Below.heap_setCell _ ⟨z,4,I⟩ _ _ d).trans ((Below.heap_setCell _ ⟨z,3,I⟩ _ _ d).trans ((Below.heap_setCell _ ⟨z,2,I⟩ _ _ d).trans ((Below.heap_setCell _ ⟨z,1,I⟩ _ _ d).trans (Below.heap_setCell _ ⟨z,0,I⟩ _ _ d)))))))
theorem KX.mm {X:Nat->Prop} {e:Nat} {a:World} (h:KX X e a w) (d:e<=b\/X b) (c0 c1 c2 c3 f i j l:Value):KX X e a (Go.Proofs.YtdghkacbpebcoaaGreat.mm w b c0 c1 c2 c3 f i j l):=
 KX.setCell (p:=⟨b,7,I⟩) (KX.setCell (p:=⟨b,6,I⟩) (KX.setCell (p:=⟨b,5,I⟩) (KX.setCell (p:=⟨b,4,I⟩) (KX.setCell (p:=⟨b,3,I⟩) (KX.setCell (p:=⟨b,2,I⟩) (KX.setCell (p:=⟨b,1,I⟩) (KX.setCell (p:=⟨b,0,I⟩) h d _) d _) d _) d _) d _) d _) d _) d _
theorem oU {e:Func} {r s:Nat} (m:e.results=#[.cell r 79,.tmp s]) {d:Array Value} (o:d.getD r undef=.pointer (aS b)) {u:Value} (p:d.getD s undef=u) {W:World} {c0 c1 c2 c3 f i j l:Value} (q:ez W b #[c0,c1,c2,c3,f,i,j,l]):
 (results e d).run Tryz.prog W=.ok (.tuple #[.agg #[c0,c1,c2,c3,f,i,j,l],u]) W:=by
 have t:=q.cell;have v:d[r]?.getD undef=.pointer (aS b):=sU o;have x:d[s]?.getD undef=u:=sU p;simp[results,m,v,x,go_sem,t]
structure gO (w:World) (mb cb:Nat) (M:MK) (K:CK) (how one:Int) (nd:Array Value) (S0:Nat->Prop) (D:Nat) (wr:World) (next fk fa k a lv o0 o1:Int) (o2 o3:Value) (io:OA) (ic:Nat) (ts:VV) (vo:OA) (vc:Nat) (vs:VV) (Xi Xv:Nat):Prop where
 kx:KX (λb=>b=cb\/b=mb) (E (U w)) w wr
 c:bJ wr cb K how next one fk fa
 m:cz wr mb (M.bu k a)
 eN:cb<E (U w)
 gM:mb<E (U w)
 ne:mb≠cb
 nb:wr.heap[E (U w)]? =some (Ob nd 48 (0,0))
 zb:ez wr (E (U w)+1) vM
 sb:ez wr (E (U w)+2) (eO lv aH aH io (O ts) ic (vN o0) (vN o1) o2 o3)
 L:oq w cb mb S0 D wr io ic ts vo vc vs Xi Xv
 hf:M.fk≠0->k=M.fk
section
variable{w wr w':World} {mb cb:Nat} {M:MK} {K:CK} {how one:Int} {nd:Array Value} {S0:Nat->Prop} {D:Nat} {next fk fa k a lv o0 o1:Int} {o2 o3:Value} {io:OA} {ic:Nat} {ts:VV} {vo:OA} {vc:Nat} {vs:VV} {Xi Xv:Nat} {next' fk' fa' k' a':Int}
theorem gO.lw (q:gO w mb cb M K how one nd S0 D wr next fk fa k a lv o0 o1 o2 o3 io ic ts vo vc vs Xi Xv):E (U w)+2<E (U wr):=q.sb.lt
theorem gO.conv (q:gO w mb cb M K how one nd S0 D wr next fk fa k a lv o0 o1 o2 o3 io ic ts vo vc vs Xi Xv) (d:Kp (E (U wr)) cb wr w') (j:bJ w' cb K how next' one fk' fa'):gO w mb cb M K how one nd S0 D w' next' fk' fa' k a lv o0 o1 o2 o3 io ic ts vo vc vs Xi Xv:=by
 have m:=q.lw;have e:=q.gM;have f:=q.eN;have i:=q.ne;exact⟨q.kx.trans ((KX.cI d (.inl Q)).mono (λ_ _ h=>h) oM),j,(d.block _ oM i).trans q.m,f,e,i,(d.block _ oM oM).trans q.nb,(d.block _ oM oM).trans q.zb,(d.block _ oM oM).trans q.sb,q.L.step (X:=λb=>b=cb) (KX.cI d Q) (λb l=>.inl l) f e,q.hf⟩
theorem gO.mk' (q:gO w mb cb M K how one nd S0 D wr next fk fa k a lv o0 o1 o2 o3 io ic ts vo vc vs Xi Xv) (d:Kp (E (U wr)) mb wr w') (l:cz w' mb ((M.bu k a).bu k' a')) (m:(M.bu k a).fk≠0->k'=(M.bu k a).fk):gO w mb cb M K how one nd S0 D w' next fk fa k' a' lv o0 o1 o2 o3 io ic ts vo vc vs Xi Xv:=by
 have o:=q.lw;have f:=q.gM;have i:=q.eN;have j:=q.ne;exact⟨q.kx.trans ((KX.cI d (.inr Q)).mono (λ_ _ h=>h) oM),(d.block _ oM (λe=>j e.symm)).trans q.c,l,i,f,j,(d.block _ oM oM).trans q.nb,(d.block _ oM oM).trans q.zb,(d.block _ oM oM).trans q.sb,q.L.step (X:=λb=>b=mb) (KX.cI d Q) (λb e=>.inr (.inl e)) i f,λh=>by have e:=q.hf h;have:=m (by show k≠0;rw[e];exact h);rw[this];exact e⟩
theorem gO.below (q:gO w mb cb M K how one nd S0 D wr next fk fa k a lv o0 o1 o2 o3 io ic ts vo vc vs Xi Xv) (d:Below (E (U wr)) wr w'):gO w mb cb M K how one nd S0 D w' next fk fa k a lv o0 o1 o2 o3 io ic ts vo vc vs Xi Xv:=q.conv (Kp.al d) (q.c.below d)
theorem gO.kE (q:gO w mb cb M K how one nd S0 D wr next fk fa k a lv o0 o1 o2 o3 io ic ts vo vc vs Xi Xv) (x:Int):gO w mb cb M K x one nd S0 D (wr.setCell ⟨cb,9,I⟩ (vN x)) next fk fa k a lv o0 o1 o2 o3 io ic ts vo vc vs Xi Xv:=by
 have m:=q.lw;have e:=q.gM;have f:=q.eN;have i:=q.ne;have d:∀b,b≠cb->(wr.setCell ⟨cb,9,I⟩ (vN x)).heap[b]? =wr.heap[b]? :=λb j=>Below.heap_setCell _ ⟨cb,9,I⟩ _ _ j;exact⟨q.kx.setCell (p:=⟨cb,9,I⟩) (.inr (.inl Q)) _,q.c.qM x,(d _ i).trans q.m,f,e,i,(d _ oM).trans q.nb,(d _ oM).trans q.zb,(d _ oM).trans q.sb,q.L.step (X:=λb=>b=cb) ((KX.refl (λb=>b=cb) _ _).setCell (p:=⟨cb,9,I⟩) (.inr Q) _) (λb l=>.inl l) f e,q.hf⟩
theorem gO.vO (q:gO w mb cb M K how one nd S0 D wr next fk fa k a lv o0 o1 o2 o3 io ic ts vo vc vs Xi Xv) (x:Int):gO w mb cb M K how x nd S0 D (wr.setCell ⟨cb,11,I⟩ (vN x)) next fk fa k a lv o0 o1 o2 o3 io ic ts vo vc vs Xi Xv:=by
 have m:=q.lw;have e:=q.gM;have f:=q.eN;have i:=q.ne;have d:∀b,b≠cb->(wr.setCell ⟨cb,11,I⟩ (vN x)).heap[b]? =wr.heap[b]? :=λb j=>Below.heap_setCell _ ⟨cb,11,I⟩ _ _ j;exact⟨q.kx.setCell (p:=⟨cb,11,I⟩) (.inr (.inl Q)) _,q.c.yL x,(d _ i).trans q.m,f,e,i,(d _ oM).trans q.nb,(d _ oM).trans q.zb,(d _ oM).trans q.sb,q.L.step (X:=λb=>b=cb) ((KX.refl (λb=>b=cb) _ _).setCell (p:=⟨cb,11,I⟩) (.inr Q) _) (λb l=>.inl l) f e,q.hf⟩
theorem gO.sh (q:gO w mb cb M K how one nd S0 D wr next fk fa k a lv o0 o1 o2 o3 io ic ts vo vc vs Xi Xv) {lv' o0' o1':Int} {o2' o3':Value} (o:Nat) (u:Value) (h:ez (wr.setCell ⟨E (U w)+2,o,I⟩ u) (E (U w)+2) (eO lv' aH aH io (O ts) ic (vN o0') (vN o1') o2' o3')):gO w mb cb M K how one nd S0 D (wr.setCell ⟨E (U w)+2,o,I⟩ u) next fk fa k a lv' o0' o1' o2' o3' io ic ts vo vc vs Xi Xv:=by
 have j:=q.lw;have e:=q.gM;have f:=q.eN;have d:∀b,b≠E (U w)+2->(wr.setCell ⟨E (U w)+2,o,I⟩ u).heap[b]? =wr.heap[b]? :=λb i=>Below.heap_setCell _ ⟨E (U w)+2,o,I⟩ _ _ i;exact⟨q.kx.setCell (p:=⟨E (U w)+2,o,I⟩) (.inl (by show E (U w)<=E (U w)+2;omega)) _,(d _ oM).trans q.c,(d _ oM).trans q.m,f,e,q.ne,(d _ oM).trans q.nb,(d _ oM).trans q.zb,h,q.L.step (X:=λb=>b=E (U w)+2) ((KX.refl (λb=>b=E (U w)+2) _ _).setCell (p:=⟨E (U w)+2,o,I⟩) (.inr Q) _) (λb l=>.inr (.inr oM)) f e,q.hf⟩
theorem gO.wL (q:gO w mb cb M K how one nd S0 D wr next fk fa k a lv o0 o1 o2 o3 io ic ts vo vc vs Xi Xv) (z:af (TQ w S0 (J io (O ts) ic) (J vo (O vs) vc)) (Gd D) H wr (ak kind n (J aD ln lc) (J aao an ac)).toList) (A:∀f,bW f wr (ak kind n (J aD ln lc) (J aao an ac)).toList<=Y) (B:O ts<=30000) (s:TypeId) (C:ad=E (U wr)):
 ∃o w',(Builtin.append_ #[39,39] s #[J io (O ts) ic,J (some ⟨ad,0,I⟩) 1 1]).run Tryz.prog (wr.alloc (Ob (ak kind n (J aD ln lc) (J aao an ac)) 41))=.ok o w'/\∃d e,o=J d (O ts+1) e/\ez w' (E (U w)+2) (eO lv aH aH io (O ts) ic (.int .i64 o0) (.int .i64 o1) o2 o3)/\gO w mb cb M K how one nd S0 D (w'.setCell ⟨E (U w)+2,3,I⟩ (J d (O ts+1) e)) next fk fa k a lv o0 o1 o2 o3 d e (ts++[(ak kind n (J aD ln lc) (J aao an ac)).toList]) vo vc vs (Xi+Y) Xv/\af (TQ w S0 (J d (O (ts++[(ak kind n (J aD ln lc) (J aao an ac)).toList])) e) (J vo (O vs) vc)) (Gd D) H (w'.setCell ⟨E (U w)+2,3,I⟩ (J d (O ts+1) e)) (ak kind n (J aD ln lc) (J aao an ac)).toList/\(∀f,bW f (w'.setCell ⟨E (U w)+2,3,I⟩ (J d (O ts+1) e)) (ak kind n (J aD ln lc) (J aao an ac)).toList<=Y)/\KX (λb=>(Value.slice io (O ts) ic).ownBlock=some b) (E (U wr)) wr w':=by
 have N:=q.lw;have t:=q.gM;have u:=q.eN;obtain⟨o,w',F,d,e,r,G,v,L,i⟩:=q.L.wL z A B s C;have j:∀b,b<E (U w)+3->w'.heap[b]? =wr.heap[b]? :=λb m=>i.block b oM (λr=>oH (q.L.ri.lt b r).1);have hS:ez w' (E (U w)+2) (eO lv aH aH io (O ts) ic (vN o0) (vN o1) o2 o3):=(j _ oM).trans q.sb;have l:∀b,b≠E (U w)+2->(w'.setCell ⟨E (U w)+2,3,I⟩ (J d (O ts+1) e)).heap[b]? =w'.heap[b]? :=λb m=>Below.heap_setCell _ ⟨E (U w)+2,3,I⟩ _ _ m;have x:O (ts++[(ak kind n (J aD ln lc) (J aao an ac)).toList])=O ts+1:=sQ
 have y:aq (TQ w S0 (J d (O ts+1) e) (J vo (O vs) vc)) w' (w'.setCell ⟨E (U w)+2,3,I⟩ (J d (O ts+1) e)):=λb m _=>l b (by
  rcases m.1 with h|h
  ·have:=(q.L.s0 b h).2.2;omega
  ·omega)
 refine⟨o,w',F,d,e,r,hS,⟨?_,(l _ oM).trans ((j _ oM).trans q.c),(l _ oM).trans ((j _ oM).trans q.m),u,t,q.ne,(l _ oM).trans ((j _ oM).trans q.nb),(l _ oM).trans ((j _ oM).trans q.zb),?_,G.step (X:=λb=>b=E (U w)+2) ((KX.refl (λb=>b=E (U w)+2) _ _).setCell (p:=⟨E (U w)+2,3,I⟩) (.inr Q) _) (λb r=>.inr (.inr oM)) u t,q.hf⟩,by rw[x];exact af.frame y sQ _ _ v,λf=>by rw[aL y sQ _ _ v];exact L f,i⟩
 ·exact q.kx.trans ⟨i.os,i.tape,i.output,sU i.size,λb m _=>(l b oM).trans (j b oM)⟩
 ·have:=hS.set 3 (J d (O ts+1) e);rw[x];simpa using this
theorem gO.wK (q:gO w mb cb M K how one nd S0 D wr next fk fa k a lv o0 o1 o2 o3 io ic ts vo vc vs Xi Xv) (m:ByteArray) (o:Bool) (s:af (TQ w S0 (J io (O ts) ic) (J vo (O vs) vc)) (Gd D) H wr (ak kind n (J aD ln lc) (J aao an ac)).toList) (t:∀f,bW f wr (ak kind n (J aD ln lc) (J aao an ac)).toList<=Y) (u:O vs<=30000) (r:TypeId) (v:ad=E (U wr)):
 ∃i w',(Builtin.append_ #[121,121] r #[J vo (O vs) vc,J (aS ad) 1 1]).run Tryz.prog (wr.alloc (Ob (ix m o kind n (J aD ln lc) (J aao an ac)) 140))=.ok i w'/\∃j l,i=J j (O vs+1) l/\gO w mb cb M K how one nd S0 D w' next fk fa k a lv o0 o1 o2 o3 io ic ts j l (vs++[(ix m o kind n (J aD ln lc) (J aao an ac)).toList]) Xi (Xv+Y):=by
 have C:=q.lw;have x:=q.gM;have y:=q.eN;obtain⟨i,w',z,j,l,p,A,e⟩:=q.L.wK m o s t u r v;have d:∀b,b<E (U w)+3->w'.heap[b]? =wr.heap[b]? :=λb B=>e.block b oM (λp=>oH (q.L.rv.lt b p).1);exact⟨i,w',z,j,l,p,⟨q.kx.trans ⟨e.os,e.tape,e.output,e.size,λb B _=>d b oM⟩,(d _ oM).trans q.c,(d _ oM).trans q.m,y,x,q.ne,(d _ oM).trans q.nb,(d _ oM).trans q.zb,(d _ oM).trans q.sb,A,q.hf⟩⟩
end
structure zl (w:World) (S0:Nat->Prop) (D H:Nat) (w':World) (io:OA) (ic:Nat) (ts:VV) (vo:OA) (vc:Nat) (vs:VV) (out:List Value) (X:Nat):Prop where
 ri:ro w' (λb=>S0 b\/E (U w)<=b) 4 (J io (O ts) ic) (O ts) ts.flatten
 rv:ro w' (λb=>S0 b\/E (U w)<=b) 6 (J vo (O vs) vc) (O vs) vs.flatten
 ti:∀x∈ts,af (λb=>S0 b\/E (U w)<=b) (Gd D) H w' x
 tv:∀x∈vs,dZ (λb=>S0 b\/E (U w)<=b) D H w' x
 l':af (λb=>S0 b\/E (U w)<=b) (Gd D) H w' out
 si:∀f,(ts.map (bW f w')).sum<=X
 sv:∀f,(vs.map (λx=>bW f w' (x.drop 2))).sum<=X
 so:∀f,bW f w' out<=X
 li:O ts<=30000
 lv:O vs<=30000
def fU (w:World) (mb cb:Nat) (M:MK) (K:CK) (S0:Nat->Prop) (X n:Nat) (e:Ending) (w':World):Prop:=
 ∃(lv:Int) (io:OA) (ic:Nat) (ts:VV) (vo:OA) (vc:Nat) (vs:VV) (o0 o1:Int) (l2:OA) (l3 l4:Nat) (l5:OA) (l6 l7:Nat) (how next one fk fa k a:Int) (H:Nat),e=.returned (.tuple #[.agg (eO lv aH aH io (O ts) ic (vN o0) (vN o1) (J l2 l3 l4) (J l5 l6 l7)),J vo (O vs) vc])/\bJ w' cb K how next one fk fa/\cz w' mb (M.bu k a)/\(M.fk≠0->k=M.fk)/\KX (λb=>b=cb\/b=mb) (E (U w)) w w'/\zl w S0 (O M.ds) H w' io ic ts vo vc vs (ak o0 o1 (J l2 l3 l4) (J l5 l6 l7)).toList X/\(k=0->O ts=n)
theorem gO.ret {m:OA} {o p:Nat} {r:OA} {s t:Nat} {X n:Nat} (q:gO w mb cb M K how one nd S0 (O M.ds) wr next fk fa k a lv o0 o1 (J m o p) (J r s t) io ic ts vo vc vs Xi Xv) (B:af (λb=>S0 b\/E (U w)+3<=b) (Gd (O M.ds)) H wr (ak o0 o1 (J m o p) (J r s t)).toList) (N:∀f,bW f wr (ak o0 o1 (J m o p) (J r s t)).toList<=X) (P:Xi<=X) (R:Xv<=X) (hl:O ts<=30000) (S:O vs<=30000) (T:k=0->O ts=n) {v:Act} (V:v.defers=[]) (W:v.tmps.getD 6 undef=.pointer (some ⟨E (U w)+1,0,I⟩)) (Z:v.tmps.getD 7 undef=J vo (O vs) vc):
 bodyPost Tryz.prog Tryz.f47 (fU w mb cb M K S0 X n) .ret v (mm wr (E (U w)+1) (vN lv) aH aH (J io (O ts) ic) (vN o0) (vN o1) (J m o p) (J r s t)):=by
 have ag:=q.lw;have ah:=q.gM;have ai:=q.eN;obtain⟨u,x⟩:∃u,u=mm wr (E (U w)+1) (vN lv) aH aH (J io (O ts) ic) (vN o0) (vN o1) (J m o p) (J r s t):=⟨_,Q⟩;have z:∀b,b≠E (U w)+1->u.heap[b]? =wr.heap[b]? :=λb d=>by rw[x];exact rh _ d _ _ _ _ _ _ _ _
 have A:KX (λb=>b=E (U w)+1) (E (U wr)) wr u:=by rw[x];exact KX.mm (KX.refl (λb=>b=E (U w)+1) _ _) (.inr Q) _ _ _ _ _ _ _ _
 have aa:ez u (E (U w)+1) (eO lv aH aH io (O ts) ic (vN o0) (vN o1) (J m o p) (J r s t)):=by rw[x];exact ez.mm q.zb _ _ _ _ _ _ _ _
 have j:=A.size;suffices hh:bodyPost Tryz.prog Tryz.f47 (fU w mb cb M K S0 X n) .ret v u by rw[x] at hh;exact hh
 clear x;have l:aq (λb=>S0 b\/E (U w)+3<=b) wr u:=λb d _=>z b (by rcases d with h|h;have:=(q.L.s0 b h).2.2;omega;omega);have y:∀b,(S0 b\/E (U w)+3<=b)->(S0 b\/E (U w)<=b):=λb d=>d.imp (λe=>e) (λe=>by omega);obtain⟨C,ab⟩:=q.L.ti;obtain⟨F,ae⟩:=q.L.tv;have G:∀e∈ts,af (λb=>S0 b\/E (U w)+3<=b) (Gd (O M.ds)) C wr e:=λe i=>af.weaken (λb d _=>d.1) _ _ (ab e i);have L:∀e∈vs,dZ (λb=>S0 b\/E (U w)+3<=b) (O M.ds) F wr e:=λe i=>(ae e i).weaken (λb d _=>d.1);refine bodyPost_ret (oU Tryz.results47 W Z aa) V ⟨lv,io,ic,ts,vo,vc,vs,o0,o1,m,o,p,r,s,t,how,next,one,fk,fa,k,a,max H (max C F),Q,(z _ oM).trans q.c,(z _ oM).trans q.m,q.hf,q.kx.trans ⟨A.os,A.tape,A.output,j,λb d _=>z b oM⟩,⟨?_,?_,λe i=>af.le (af.weaken (λb d _=>y b d) _ _ (af.frame l j _ _ (G e i))) _ oM,λe i=>((((L e i).frame l j).1).weaken (λb d _=>y b d)).le oM,af.le (af.weaken (λb d _=>y b d) _ _ (af.frame l j _ _ B)) _ oM,λf=>?_,λf=>?_,λf=>by rw[aL l j _ _ B];exact N f,hl,S⟩,T⟩
 ·exact((ro.bH q.L.ri (λb d=>(.inr (q.L.ri.lt b d).1:S0 b\/E (U w)+3<=b))).frame l j).weaken (λb d _=>y b d)
 ·exact((ro.bH q.L.rv (λb d=>(.inr (q.L.rv.lt b d).1:S0 b\/E (U w)+3<=b))).frame l j).weaken (λb d _=>y b d)
 ·rw[List.map_congr_left (λe i=>aL l j _ _ (G e i) f)];exact lT (q.L.si f) P
 ·rw[List.map_congr_left (λe i=>((L e i).frame l j).2 f)];exact lT (q.L.sv f) R
end
section
variable{name:ByteArray} {K:CK} {fa fk how k m n next one pos:Int} {M:MK} {B0 D Xi Xv cb h ic kc mb vc:Nat} {S0:Nat->Prop} {io ko vo:OA} {ts vs:VV} {w wr:World}
structure FK (B0 h:Nat) (w:World) (ko:OA) (kc:Nat) (ks pks:VV) (Y:Nat):Prop where
 len:O pks+2<=O ks
 km:O ks<=20000
 zq:O ks<=kc
 row:cU B0 w (J ko (O ks) kc) ks
 qj:∀i,i<O ks->∃g,ko=some ⟨g,0,I⟩
 node:∀x∈ks,isNode (λb=>b<B0) True (h+1) w x
 par:∀idx,idx<O pks->∃g p1 n1 m1 s1 gt c1 k2 p2 n2 m2 s2 o2 l2 c2,ko=some ⟨g,0,I⟩/\g<B0/\gt<B0/\pks[idx]? =some (ae 12 p1 n1 m1 s1 (J (some ⟨gt,0,I⟩) 1 c1)).toList/\(∀j,j<11->w.cell? ⟨g,11+idx*11+j,I⟩=(ae 12 p1 n1 m1 s1 (J (some ⟨gt,0,I⟩) 1 c1)).toList[j]?)/\(∀j,j<11->w.cell? ⟨gt,j,I⟩=(ae k2 p2 n2 m2 s2 (J o2 l2 c2)).toList[j]?)/\isNode (λb=>b<B0) True h w (ae k2 p2 n2 m2 s2 (J o2 l2 c2)).toList/\cx k2/\aG h w (ae k2 p2 n2 m2 s2 (J o2 l2 c2)).toList<=aG (h+1) w (ae 12 p1 n1 m1 s1 (J (some ⟨gt,0,I⟩) 1 c1)).toList
 out:∃g k2 p2 n2 m2 s2 o2 l2 c2,ko=some ⟨g,0,I⟩/\g<B0/\(∀j,j<11->w.cell? ⟨g,(O pks+1)*11+j,I⟩=(ae k2 p2 n2 m2 s2 (J o2 l2 c2)).toList[j]?)/\isNode (λb=>b<B0) True (h+1) w (ae k2 p2 n2 m2 s2 (J o2 l2 c2)).toList/\cx k2/\aG (h+1) w (ae k2 p2 n2 m2 s2 (J o2 l2 c2)).toList<=Y
 sum:(pks.map (aG (h+1) w)).sum<=Y
theorem l9 {l:Nat} (h:cx (fJ k n l)):cx k:=by
 unfold fJ at h;split at h
 ·obtain⟨a,b⟩:=h;omega
 ·split at h
  ·obtain⟨a,b⟩:=h;omega
  ·exact h
theorem tU {kl:Nat} (ar:isNode (λb=>b<B0) True (h+2) w (ae 8 pos n m name (J ko kl kc)).toList):∃c a:VV,kl=O c/\n=(O a:Int)/\FK B0 h w ko kc c a (aG (h+2) w (ae 8 pos n m name (J ko kl kc)).toList):=by
 obtain⟨c,rfl,B,H,au,af,aY,L,av,-⟩:=ar.kids;obtain⟨aw,x,aZ,ax,ay,aA,ag,a0⟩:=au.fn Q;obtain⟨ah,a1,aB,a2,aC⟩:=List.map_eq_cons_iff.1 ax;obtain⟨a,a3,aD,ai,aE⟩:=List.map_eq_append_iff.1 aC;obtain⟨f,C,aF,aH,a4⟩:=List.map_eq_cons_iff.1 aE;have N:c=ah::(a++f::C):=by rw[aB,aD,aF]
 have aI:O aw=O a:=by rw[<-ai];simp
 have aj:∀i,c[i+1]? =(a++f::C)[i]? :=λi=>by rw[N];rfl
 have a5:O c=O a+O C+2:=by rw[N];simp;omega
 have a6:(c.map (aG (h+1) w)).sum=aG (h+1) w ah+((a.map (aG (h+1) w)).sum+(aG (h+1) w f+(C.map (aG (h+1) w)).sum)):=by
  rw[N,List.map_cons,List.sum_cons,List.map_append,List.sum_append,List.map_cons,List.sum_cons]
 refine⟨c,a,Q,by rw[<-ay,aI],⟨oM,B.len.2,av,B,L,H,?_,?_,by rw[af];omega⟩⟩
 ·intro F ak;obtain⟨x,P⟩:∃x,a[F]? =some x:=⟨_,gG ak⟩;have j:c[F+1]? =some x:=by rw[aj,List.getElem?_append_left ak];exact P
  have l:=H x (mG j);have o:az x=12:=aA _ (by rw[<-ai];exact List.mem_map_of_mem (mG P));obtain⟨R,S,G,T,V,aJ,al,W,rfl,_⟩:=isNode.cells l;obtain⟨g,X,d,Y,Z⟩:=B.nth j;obtain⟨aK,aa⟩:=L (F+1) oM;have ab:X=0:=by rw[aa] at d;simp at d;exact d.2.symm
  subst ab
  obtain rfl:R=12:=by
   have aL:az (ae R S G T V (J aJ al W)).toList=fJ R G al:=rfl;rw[aL] at o;unfold fJ at o;split at o
   ·omega
   ·split at o
    ·omega
    ·exact o
  obtain⟨ao,rfl,aM,aN,aO,aP,-,aQ,-,-⟩:=l.kids;obtain⟨aR,ap,aS⟩:=aO.param Q
  obtain⟨e,rfl⟩:∃e,ao=[e]:=by
   match ao,ap with
   |[e],_=>exact⟨e,Q⟩
  obtain rfl:az e=aR:=sU ap;have aq:=aN e sQ;obtain⟨p,q,r,s,t,u,v,y,rfl,_⟩:=isNode.cells aq;obtain⟨ac,aT⟩:=aQ 0 sQ;subst aT;obtain⟨aU,aV,ad,aW,aX⟩:=aM.nth (i:=0) (x:=(ae p q r s t (J u v y)).toList) Q;obtain⟨rfl,rfl⟩:ac=aU/\aV=0:=by simp at ad;exact⟨ad.1,ad.2.symm⟩
  refine⟨g,S,G,T,V,ac,W,p,q,r,s,t,u,v,y,d,Y,aW,P,λz A=>?_,λz A=>?_,aq,l9 aS,?_⟩
  ·have:=Z z A;rw[Nat.zero_add,Nat.add_mul,Nat.one_mul,Nat.add_comm (F*11) 11] at this;exact this
  ·have:=aX z A;simpa using this
  ·have a7:aG (h+1) w (ae 12 S G T V (J (some ⟨ac,0,I⟩) 1 W)).toList=1+(aG h w (ae p q r s t (J u v y)).toList+0):=aP;omega
 ·have j:c[O a+1]? =some f:=by rw[aj,List.getElem?_append_right (lR _),Nat.sub_self];rfl
  have l:=H f (mG j);obtain⟨p,q,r,s,t,u,v,y,rfl,_⟩:=isNode.cells l;obtain⟨g,X,d,Y,Z⟩:=B.nth j;obtain⟨aK,aa⟩:=L (O a+1) oM;have ab:X=0:=by rw[aa] at d;simp at d;exact d.2.symm
  subst ab;refine⟨g,p,q,r,s,t,u,v,y,d,Y,λz A=>by have:=Z z A;rw[Nat.zero_add] at this;exact this,l,l9 (by rw[<-aH] at ag;exact ag),by rw[af];omega⟩
theorem kS {f:List Value->Nat}:∀(b:VV) (a:List Value),a∈b->f a<=(b.map f).sum
 |y::r,a,hx=>by
  rw[List.map_cons,List.sum_cons];rcases List.mem_cons.1 hx with rfl|hx
  ·omega
  ·have:=kS (f:=f) r a hx;omega
theorem oq.same {w':World} (q:oq w cb mb S0 D wr io ic ts vo vc vs Xi Xv) {X:Nat->Prop} {c:Nat} (o:E (U wr)<=c) {d:World} (i:KX X c d w') (e:∀b,X b->b=cb\/b=mb\/(E (U w)<=b/\b<E (U w)+3)) (p:cb<E (U w)) (r:mb<E (U w)):∀b,TQ w S0 (J io (O ts) ic) (J vo (O vs) vc) b->b<c->w'.heap[b]? =d.heap[b]? :=λb j l=>i.block b l (λf=>by
 rcases j.1 with h|h
 ·have s:=q.s0 b h;rcases e b f with a|a|a<;>omega
 ·rcases e b f with a|a|a<;>omega)
theorem gO.xC {c:Array Value} {a lv d e:Int} {f i:Value} {j l:Nat} (q:gO w mb cb M K how one c S0 D wr next fk fa k a lv d e f i io ic ts vo vc vs Xi Xv) (o:Xi<=j) (p:Xv<=l):gO w mb cb M K how one c S0 D wr next fk fa k a lv d e f i io ic ts vo vc vs j l:=
 ⟨q.kx,q.c,q.m,q.eN,q.gM,q.ne,q.nb,q.zb,q.sb,⟨q.L.ri,q.L.rv,q.L.sep,q.L.ti,q.L.tv,λb=>lT (q.L.si b) o,λb=>lT (q.L.sv b) p,q.L.s0,q.L.size⟩,q.hf⟩
theorem sf {T:Nat} {bm l:Nat} (aw:Cx w cb K M T S0 bm l) (a2:bJ w cb K how next one fk fa) (bn:cz w mb M) (cp:mb≠cb) (cq:K.mb=mb) (cr:B0<=cb) (d2:B0<=mb) (cs:∀b,S0 b->b≠mb) {ks c:VV} {Y:Nat} (aU:FK B0 h w ko kc ks c Y) (db:6100*(Y*l)<=17592186044416):
 Calls Tryz.prog 47 #[.pointer (aS mb),.agg (ae 8 pos (O c:Int) m name (J ko (O ks) kc)),.pointer (aS cb)] w (fU w mb cb M K (λb=>S0 b/\b<E (U w)) (Y*l) (O c)):=by
 have dc:=bn.lt
 have dd:1<=Y*l:=by
  obtain⟨g,y,F,G,t,L,N,P,u,-,-,-,aE,-,d3⟩:=aU.out;obtain⟨d4,-,-,-,-,d5,-⟩:=aE.kids;have:=aw.z1;have:1*1<=Y*l:=Nat.mul_le_mul oM this;omega
 have de:=a2.lt;have aV:Hid (FK B0 h w ko kc ks c Y):=aU;have aF:Hid (Cx w cb K M T (λb=>S0 b/\b<E (U w)) bm l/\bJ w cb K how next one fk fa/\cz w mb M/\∀b,(S0 b/\b<E (U w))->b≠mb):=⟨aw.low,a2,bn,λb f=>cs b f.1⟩;have d6:=aU.km;have d7:=aU.len;have d8:=aU.zq;obtain⟨g,df⟩:∃g,ko=some ⟨g,0,I⟩:=aU.qj 0 oM;subst df;have aW:E (U (w.setCell ⟨cb,9,I⟩ (vN 0)))=E (U w):=sQ;obtain⟨a7,bD,bE,a8⟩:=mZ (w.setCell ⟨cb,9,I⟩ (vN 0)) (Ob (ae 8 pos (O c:Int) m name (J (aS g) (O ks) kc)) 48) (Ob vM 79) (Ob vM 79);have dg:E (U ((((w.setCell ⟨cb,9,I⟩ (vN 0)).alloc (Ob (ae 8 pos (O c:Int) m name (J (aS g) (O ks) kc)) 48)).alloc (Ob vM 79)).alloc (Ob vM 79)))=E (U w)+3:=sQ;have ct:cz (w.setCell ⟨cb,9,I⟩ (vN 0)) mb M:=(Below.heap_setCell _ ⟨cb,9,I⟩ _ _ cp).trans bn
 have cu:gO w mb cb M K 0 one (ae 8 pos (O c:Int) m name (J (aS g) (O ks) kc)) (λb=>S0 b/\b<E (U w)) (O M.ds) ((((w.setCell ⟨cb,9,I⟩ (vN 0)).alloc (Ob (ae 8 pos (O c:Int) m name (J (aS g) (O ks) kc)) 48)).alloc (Ob vM 79)).alloc (Ob vM 79)) next fk fa M.fk M.fa 0 0 0 aH aH I 0 [] I 0 [] 0 0:=by
  have u:=(a2.qM 0).below a7;have t:=ct.below a7;rw[aW] at a7 bD bE a8;exact⟨((KX.refl _ _ _).setCell (p:=⟨cb,9,I⟩) (.inr (.inl Q)) _).trans (KX.al a7),u,t,de,dc,cp,bD,bE,a8,oq.nil _ _ oM (λb f=>⟨aw.s0 b f.1,cs b f.1,f.2⟩),λ_=>rfl⟩
 have aB:=a2.cell;have aC:=a2.fz;clear a7 bD bE a8 aw a2 bn aU dg ct aW;have dh:cb<E (U w)+1:=oM;have di:cb<E (U w)+1+1:=oM;have dj:(0:Int)<=(O c:Int):=oM;have dk:(1:Int)+(O c:Int)<=(kc:Int):=oM;have dl:(O c:Int)+1<=(kc:Int):=oM;go_enter Tryz.func47,Tryz.ntmps47
 go_wp2_with fail;rw[show 1+O c - 1=O c from by omega];clear aB aC dh di dj dk dl;go_loopg [9,11,13,14,26] (O c) (λbF dm _ _ _ bH wr=>∃(i:Nat) (next fk fa k aI:Int) (io:OA) (ic:Nat) (ts:VV) (vo:OA) (vc:Nat) (vs:VV),bF=O c - i/\bH=.int .i64 i/\dm=J vo (O vs) vc/\i<=O c/\O ts=i/\O vs=i/\gO w mb cb M K 0 one (ae 8 pos (O c:Int) m name (J (some ⟨g,0,I⟩) (O ks) kc)) (λb=>S0 b/\b<E (U w)) (O M.ds) wr next fk fa k aI 0 0 0 aH aH io ic ts vo vc vs (((c.take i).map (aG (h+1) w)).sum*l) (((c.take i).map (aG (h+1) w)).sum*l))
 case atStart=>exact⟨0,next,fk,fa,M.fk,M.fa,I,0,[],I,0,[],Q,Q,Q,zL _,Q,Q,sU cu⟩
 case round=>
  clear cu;obtain⟨i,next,fk,fa,k,aI,io,ic,ts,vo,vc,vs,a9,rfl,rfl,d9,cv,cw,a⟩:=hrel;have dn:Hid (gk=O c - i):=a9;have bI:Hid (O ts=i/\O vs=i):=⟨cv,cw⟩;have bo:O ts<=30000:=oM;have bK:O vs<=30000:=oM;clear a9 cv cw;by_cases cy:i<O c
  ·have cA:(i:Int)<(O c:Int):=oM;obtain⟨bL,ag,ah,V,W,q,ai,y,F,G,t,L,N,P,u,a',bN,dp,cB,ba,cC,aE,bp,bb⟩:=aV.out.par i cy;obtain rfl:g=bL:=sU a';have aX:∀b,b<B0->¬(b=cb\/b=mb):=λb f=>oM;have d:∀e,e<11->wr.cell? ⟨g,11+i*11+e,I⟩=(ae 12 ag ah V W (J (aS q) 1 ai)).toList[e]? :=λe aY=>(a.kx.cell (p:=⟨g,11+i*11+e,I⟩) (by show g<_;omega) (aX g bN)).trans (ba e aY);have aW:=d 0 dC;have cD:=d 1 dC;have cE:=d 2 dC;have cF:=d 3 dC;have cG:=d 4 dC;have cH:=d 5 dC;have dq:=d 6 dC;have dr:=d 7 dC;have ds:=d 8 dC;have dt:=d 9 dC;have du:=d 10 dC;simp only[Nat.add_zero] at aW;have bO:g<E (U wr):=oH a.kx.size;have a3:Hid (c[i]? =some (ae 12 ag ah V W (J (some ⟨q,0,I⟩) 1 ai)).toList/\(∀e,e<11->w.cell? ⟨q,e,I⟩=(ae y F G t L (J N P u)).toList[e]?)/\isNode (λb=>b<B0) True h w (ae y F G t L (J N P u)).toList/\cx y/\aG h w (ae y F G t L (J N P u)).toList<=aG (h+1) w (ae 12 ag ah V W (J (some ⟨q,0,I⟩) 1 ai)).toList):=⟨cB,cC,aE,bp,bb⟩;clear ba cC d a' cB aE bp bb;have cI:=a.below (al1 wr (Ob (ae 12 ag ah V W (J (aS q) 1 ai)) 48)).1;obtain⟨j,bc⟩:∃j,j=E (U wr):=⟨_,Q⟩;have cJ:(wr.alloc (Ob (ae 12 ag ah V W (J (aS q) 1 ai)) 48)).heap[j]? =some (Ob (ae 12 ag ah V W (J (aS q) 1 ai)) 48 (0,0)):=by rw[bc];exact(al1 wr (Ob (ae 12 ag ah V W (J (aS q) 1 ai)) 48)).2
   have bP:Hid (∀b,(Value.slice io (O ts) ic).ownBlock=some b\/(Value.slice vo (O vs) vc).ownBlock=some b->b<j):=λb f=>by
    rw[bc];rcases f with f|f
    ·exact(a.L.ri.lt b f).2
    ·exact(a.L.rv.lt b f).2
   have d':E (U w)+2<j:=by rw[bc];exact a.lw
   go_wp2_with fail;rw[<-bc];clear bc bO aW cD cE cF cG cH dq dr ds dt du a;go_loopg [13,32] (O vs) (λbF _ bH cK=>∃(e:Nat) (k aI:Int),bF=O vs - e/\bH=.int .i64 e/\e<=O vs/\gO w mb cb M K 0 one (ae 8 pos (O c:Int) m name (J (some ⟨g,0,I⟩) (O ks) kc)) (λb=>S0 b/\b<E (U w)) (O M.ds) cK next fk fa k aI 0 0 0 aH aH io ic ts vo vc vs (((c.take i).map (aG (h+1) w)).sum*l) (((c.take i).map (aG (h+1) w)).sum*l)/\cK.heap[j]? =some (Ob (ae 12 ag ah V W (J (some ⟨q,0,I⟩) 1 ai)) 48 (0,0)))
   case atStart=>exact⟨0,k,aI,Q,Q,zL _,cI,cJ⟩
   case round=>
    clear cI cJ;obtain⟨e,k,aI,a9,rfl,aY,a,bd⟩:=hrel;have dv:Hid (gk=O vs - e):=a9;clear a9;have bq:=λr=>cell_of_row wr _ r _ 48 (0,0) bd;have aZ:j<E (U wr):=(gE bd).1;by_cases bQ:e<O vs
    ·have cL:(e:Int)<(O vs:Int):=oM;obtain⟨bR,bS⟩:∃bR,vs[e]? =some bR:=⟨_,gG bQ⟩;obtain⟨ea,bT⟩:=a.L.tv;obtain⟨bV,bX,bY,bZ,b0,b1,b2,b3,b4,b5,rfl,-⟩:=bT bR (mG bS);obtain⟨dw,dx,cM,eb,-,a0⟩:=aP a.L.rv Q (λav aw=>by obtain⟨bV,bX,bY,bZ,b0,b1,b2,b3,b4,b5,rfl,-⟩:=bT av aw;rfl) bS;obtain⟨rfl,rfl⟩:vo=some ⟨dw,0,I⟩/\vc=dx:=sU cM;have aW:=a0 0 dC;have cD:=a0 1 dC;have cE:=a0 2 dC;have cF:=a0 3 dC;have cG:=a0 4 dC;have cH:=a0 5 dC;simp only[Nat.add_zero] at aW;have br:=a.below (al1 wr (Ob (ix bV bX bY bZ (J b0 b1 b2) (J b3 b4 b5)) 140)).1;have cN:(wr.alloc (Ob (ix bV bX bY bZ (J b0 b1 b2) (J b3 b4 b5)) 140)).heap[j]? =some (Ob (ae 12 ag ah V W (J (aS q) 1 ai)) 48 (0,0)):=(Below.heap_alloc _ _ _ aZ).trans bd;have cO:j<E (U wr)+1:=oM;clear a0 cM bT bS;go_wp2_with (go_at_call 39;refine(bU br.m _ _).mono ?_;rintro z s ⟨⟨ec,ed,rfl,dy,bf,dA⟩,-⟩;have dB:=br.mk' bf dy dA;have dD:=(bf.block j (by simp;omega) (oH br.gM)).trans cN)
     all_goals
      go_roundg (O vs - (e+1))
      case measure=>rw[dv.out];omega
      case rel=>
       first
        |exact⟨e+1,_,_,Q,by go_num,bQ,dB,dD⟩
        |exact⟨e+1,_,_,Q,by go_num,bQ,br,cN⟩
    ·have cL:¬(e:Int)<(O vs:Int):=oM;have ee:decide ((e:Int)<(O vs:Int))=false:=sU cL;clear aY;have aJ:=λr=>cell_of_row wr _ r _ 48 (0,0) a.nb;have aK:=a.lw;have ax:=a.sb.cell;have ay:=a.sb.fz;have aM:=a.zb.cell;have aN:=a.zb.fz;have aO:=a.zb.lt;have aB:=a.c.cell;have aC:=a.c.fz;have aQ:=a.c.lt;have a4:(((c.take i).map (aG (h+1) w)).sum*l)<=Y*l:=Nat.mul_le_mul_right _ (lT (ef _ _) aV.out.sum);have dE:E (U w)+2≠E (U w)+1:=oM;have dF:E (U w)+1≠E (U w)+2:=oM;by_cases b6:k=0
     ·subst b6;have eg:q<E (U wr):=oH a.kx.size;have d:∀e,e<11->wr.cell? ⟨q,e,I⟩=(ae y F G t L (J N P u)).toList[e]? :=λe aY=>(a.kx.cell (p:=⟨q,e,I⟩) (by show q<_;omega) (aX q dp)).trans (a3.out.2.1 e aY);have bs:=d 0 dC;have bg:=d 1 dC;have bh:=d 2 dC;have b7:=d 3 dC;have b8:=d 4 dC;have b9:=d 5 dC;have b':=d 6 dC;have ca:=d 7 dC;have cc:=d 8 dC;have cd:=d 9 dC;have ce:=d 10 dC;have az:aq (λb=>b<B0) w wr:=λb f aA=>a.kx.block b aA (aX b f);have bi:Hid (isNode (λb=>b<B0) True h wr (ae y F G t L (J N P u)).toList):=isNode.frame az _ _ a3.out.2.2.1;have bj:Hid (aG h wr (ae y F G t L (J N P u)).toList=aG h w (ae y F G t L (J N P u)).toList):=aT az _ _ a3.out.2.2.1 _;have bk:Hid (Cx wr cb K (M.bu 0 aI) T (λb=>S0 b/\b<E (U w)) bm l):=aF.out.1.kB aF.out.2.1 aF.out.2.2.1 cq aF.out.2.2.2 a.kx a.m;clear d az;go_wp2_with (go_at_call 30;refine(bM a.m).mono ?_;rintro z s ⟨rfl,rfl⟩)
      refine(yG h bk.out a.c cr bi.out a3.out.2.2.2.1).mono ?_;rintro z s ⟨A,R,Z,aa,ab,aj,al,ao,dG,dH,dI,rfl,dJ,bf,⟨dK,cP⟩,cf⟩;rw[bj.out] at cf;have x:=a.conv bf dJ;have cg:=x.L.out (W0:=j+1) (λb f=>oH (bP.out b f)) oM (af.weaken (λb f _=>f.imp (λav=>av) (λav=>by omega)) _ _ cP);have bt:s.heap[j]? =some (Ob (ae 12 ag ah V W (J (aS q) 1 ai)) 48 (0,0)):=(bf.block j aZ (oH a.eN)).trans bd;obtain⟨a5,bu⟩:=al1 s (Ob (ak A R (J Z aa ab) (J aj al ao)) 41);have B:=x.below a5;have ch:(s.alloc (Ob (ak A R (J Z aa ab) (J aj al ao)) 41)).heap[j]? =some (Ob (ae 12 ag ah V W (J (aS q) 1 ai)) 48 (0,0)):=(Below.heap_alloc _ _ _ (gE bt).1).trans bt;clear aJ aK ax ay aM aN aO aB aC aQ bq aZ bk bi bj bs bg bh b7 b8 b9 b' ca cc cd ce;go_wp2_with fail;obtain⟨ar,bv⟩:∃ar,ar=E (U s):=⟨_,Q⟩;rw[<-bv] at bu;have dL:j<ar:=by rw[bv];exact(gE bt).1
      rw[<-bv];have bw:Hid (af (TQ w (λb=>S0 b/\b<E (U w)) (J io (O ts) ic) (J vo (O vs) vc)) (Gd (O M.ds)) dK (s.alloc (Ob (ak A R (J Z aa ab) (J aj al ao)) 41)) (ak A R (J Z aa ab) (J aj al ao)).toList/\∀C,bW C (s.alloc (Ob (ak A R (J Z aa ab) (J aj al ao)) 41)) (ak A R (J Z aa ab) (J aj al ao)).toList<=aG h w (ae y F G t L (J N P u)).toList*l):=⟨af.frame (λb _ aA=>a5.block b aA) a5.size _ _ cg,λC=>by rw[aL (λb _ aA=>a5.block b aA) a5.size _ _ cg];exact cf C⟩;clear cP cg cf x bt a5 bv a bd;refine(jt B.m B.c).mono ?_;rintro z ac ⟨dM,a8,rfl,cQ,aR,cR⟩;have o:=B.mk' aR cQ cR;have ci:=B.L.same (lR _) (KX.cI (X:=λb=>b=mb) aR Q) (λb z=>.inr (.inl z)) B.eN B.gM;have cS:=af.frame ci aR.size _ _ bw.out.1;have cT:∀C,bW C ac (ak A R (J Z aa ab) (J aj al ao)).toList<=aG h w (ae y F G t L (J N P u)).toList*l:=λC=>by rw[aL ci aR.size _ _ bw.out.1];exact bw.out.2 C
      have bx:ac.heap[j]? =some (Ob (ae 12 ag ah V W (J (aS q) 1 ai)) 48 (0,0)):=(aR.block j (gE ch).1 (oH B.gM)).trans ch;have bz:ac.heap[ar]? =some (Ob (ak A R (J Z aa ab) (J aj al ao)) 41 (0,0)):=(aR.block ar (gE bu).1 (oH B.gM)).trans bu;clear ci cQ cR bw B ch bu;have cU:=λr=>cell_of_row ac _ r _ 41 (0,0) bz;have cj:ar<E (U ac):=(gE bz).1;have bq:=λr=>cell_of_row ac _ r _ 48 (0,0) bx;have aZ:j<E (U ac):=(gE bx).1;have ax:=o.sb.cell;have ay:=o.sb.fz;have cV:=o.sb.lt;have dN:ar<E (U ac)+1:=oM;have cO:j<E (U ac)+1:=oM;have dO:E (U w)+2<E (U ac)+1:=oM;have eh:j≠E (U w)+2:=oM;have ei:E (U w)+2≠j:=oM;have ej:ar≠E (U w)+2:=oM;have ek:E (U w)+2≠ar:=oM;have cW:=λck=>o.wL cS cT bo ck Q;clear cS cT
      go_wp2_with (first
       |(at_builtin;refine bG 39 (v:=J io (O ts) ic) (xv:=J (aS (E (U ac))) 1 1) rQ rQ rQ rQ (cW _) ?_;rintro dP ap ⟨dQ,dR,rfl,cl,au,cX,cY,cZ⟩;have dS:=λck=>au.wK W (V==1) cX cY bK ck (ad:=E (U ap)) sQ;have c0:ap.heap[j]? =some (Ob (ae 12 ag ah V W (J (aS q) 1 ai)) 48 (0,0)):=(cZ.block j aZ (λz=>Nat.lt_irrefl _ (bP.out j (.inl z)))).trans bx;have c1:ap.heap[ar]? =some (Ob (ak A R (J Z aa ab) (J aj al ao)) 41 (0,0)):=(cZ.block ar cj (λz=>Nat.lt_irrefl _ (Nat.lt_trans dL (bP.out ar (.inl z))))).trans bz;clear cU cj bq aZ ax ay cV dN cO dO bx bz;have ax:=cl.cell;have ay:=cl.fz;have cV:=cl.lt;have cU:=λr=>cell_of_row ap _ r _ 41 (0,0) c1;have cj:ar<E (U ap):=(gE c1).1;have bq:=λr=>cell_of_row ap _ r _ 48 (0,0) c0;have aZ:j<E (U ap):=(gE c0).1;clear cX cY cW)
       |(at_builtin;refine bG 121 (v:=J vo (O vs) vc) (xv:=J (aS (E (U ap))) 1 1) rQ rQ rQ rQ (dS _) ?_;rintro dP el ⟨dT,dU,rfl,dV⟩))
      go_roundg (O c - (i+1))
      case measure=>rw[dn.out];omega
      case rel=>
       have c2:(((c.take i).map (aG (h+1) w)).sum*l)+aG h w (ae y F G t L (J N P u)).toList*l<=(((c.take (i+1)).map (aG (h+1) w)).sum*l):=by
        rw[List.take_add_one,a3.out.1,List.map_append,List.sum_append,Nat.add_mul];exact Nat.add_le_add_left (Nat.mul_le_mul_right _ (show aG h w (ae y F G t L (J N P u)).toList<=aG (h+1) w (ae 12 ag ah V W (J (some ⟨q,0,I⟩) 1 ai)).toList+0 from a3.out.2.2.2.2)) _
       exact⟨i+1,dG,dH,dI,dM,a8,dQ,dR,_,dT,dU,_,Q,by go_num,sQ,cy,by have:=bI.out.1;simp;omega,by have:=bI.out.2;simp;omega,dV.xC c2 c2⟩
     ·have em:(k==0)=false:=sU b6;go_wp2_with (go_at_call 30;refine(bM a.m).mono ?_;rintro z s ⟨rfl,rfl⟩)
      go_light;obtain⟨bg,bh⟩:=dz (S:=λb=>(S0 b/\b<E (U w))\/E (U w)+3<=b) (D:=O M.ds) (w:=s) (kind:=0) (n:=0) ⟨λz=>absurd z dC,dC,dC⟩;exact gO.ret a bg (λC=>lT (bh C) dd) a4 a4 bo bK (λz=>absurd z b6) Q Q Q
  ·have cA:¬(i:Int)<(O c:Int):=oM;have en:decide ((i:Int)<(O c:Int))=false:=sU cA;have c3:Hid (O ts=O c):=by show _=_;have:=bI.out.1;omega
   have aX:∀b,b<B0->¬(b=cb\/b=mb):=λb f=>oM;have a4:(((c.take i).map (aG (h+1) w)).sum*l)<=Y*l:=Nat.mul_le_mul_right _ (lT (ef _ _) aV.out.sum);have aJ:=λr=>cell_of_row wr _ r _ 48 (0,0) a.nb;have aK:=a.lw;have ax:=a.sb.cell;have ay:=a.sb.fz;have aM:=a.zb.cell;have aN:=a.zb.fz;have aO:=a.zb.lt;have aB:=a.c.cell;have aC:=a.c.fz;have aQ:=a.c.lt;have dE:E (U w)+2≠E (U w)+1:=oM;have dF:E (U w)+1≠E (U w)+2:=oM;have eo:cb≠E (U w)+2:=oM;have ep:E (U w)+2≠cb:=oM;have eq:E (U w)≠cb:=oM;have er:cb≠E (U w):=oM;have aD:=(a.sh (lv':=next) (o0':=0) (o1':=0) (o2':=aH) (o3':=aH) 0 (vN next) (a.sb.set 0 _)).kE 1;obtain⟨a1,bA⟩:∃a1,a1=(wr.setCell ⟨E (U w)+2,0,I⟩ (vN next)).setCell ⟨cb,9,I⟩ (vN 1):=⟨_,Q⟩;rw[<-bA] at aD;have az:aq (λb=>b<B0) w a1:=λb f aA=>aD.kx.block b aA (aX b f)
   have c4:Hid (Calls Tryz.prog 68 #[.agg (ae 8 pos (O c:Int) m name (J (aS g) (O ks) kc)),.agg (eO next aH aH io (O ts) ic (vN 0) (vN 0) aH aH)] a1 (vA a1)):=by
    obtain⟨H,dW⟩:=aD.L.ti;refine v7 (S:=(λb=>(S0 b/\b<E (U w))\/E (U w)+3<=b)) (D:=O M.ds) (H:=H) (B0:=B0) (aV.out.row.frame az oM) aV.out.qj (oH aD.kx.size) (λav aw=>⟨h+1,isNode.frame az _ _ (aV.out.node av aw)⟩) (ro.bH aD.L.ri (λb f=>.inr (aD.L.ri.lt b f).1)) (λav aw=>⟨af.up _ _ (af.weaken (λb f _=>f.1) _ _ (dW av aw)),λC=>?_⟩) bo (λes=>?_)
    ·exact lT (Nat.mul_le_mul_left _ (lT (kS ts av aw) (lT (aD.L.si C) a4))) db
    ·have:=c3.out;omega
   clear az;have et:Hid (E (U a1)=E (U wr)):=by show _=_;rw[bA];simp
   go_wp2_with fail;suffices hh:Calls Tryz.prog 68 #[.agg (ae 8 pos (O c:Int) m name (J (aS g) (O ks) kc)),.agg (eO next aH aH io (O ts) ic (vN 0) (vN 0) aH aH)] a1 _ by rw[bA] at hh;exact hh
   clear bA;refine c4.out.mono ?_;rintro z s ⟨a6,rfl,c5⟩;have x:=aD.below c5;have B:=x.vO a6;clear c4 aJ aK ax ay aM aN aO aB aC aQ a aD c5;obtain⟨bL,y,F,G,t,L,N,P,u,a',bN,ba,aE,bp,bb⟩:=aV.out.out;obtain rfl:g=bL:=sU a'
   have d:∀e,e<11->s.cell? ⟨g,(1+O c)*11+e,I⟩=(ae y F G t L (J N P u)).toList[e]? :=λe aY=>by
    rw[Nat.add_comm 1];exact(x.kx.cell (p:=⟨g,(O c+1)*11+e,I⟩) (by show g<_;omega) (aX g bN)).trans (ba e aY)
   have bs:=d 0 dC;have bg:=d 1 dC;have bh:=d 2 dC;have b7:=d 3 dC;have b8:=d 4 dC;have b9:=d 5 dC;have b':=d 6 dC;have ca:=d 7 dC;have cc:=d 8 dC;have cd:=d 9 dC;have ce:=d 10 dC;simp only[Nat.add_zero] at bs;have bO:g<E (U s):=oH x.kx.size;have dX:g≠cb:=oM;have dY:cb≠g:=oM;have eu:(1:Int)+(O c:Int)<(O ks:Int):=oM;have az:aq (λb=>b<B0) w (s.setCell ⟨cb,11,I⟩ (vN a6)):=λb f aA=>B.kx.block b aA (aX b f);have bi:Hid (isNode (λb=>b<B0) True (h+1) (s.setCell ⟨cb,11,I⟩ (vN a6)) (ae y F G t L (J N P u)).toList):=isNode.frame az _ _ aE
   have bj:Hid (aG (h+1) (s.setCell ⟨cb,11,I⟩ (.int .i64 a6)) (ae y F G t L (J N P u)).toList*l<=Y*l):=by
    show _<=_;rw[aT az _ _ aE];exact Nat.mul_le_mul_right _ bb
   have bk:Hid (Cx (s.setCell ⟨cb,11,I⟩ (vN a6)) cb K (M.bu k aI) T (λb=>S0 b/\b<E (U w)) bm l):=aF.out.1.kB aF.out.2.1 aF.out.2.2.1 cq aF.out.2.2.2 B.kx B.m;clear d az ba aE a' bb;have aJ:=λr=>cell_of_row s _ r _ 48 (0,0) x.nb;have aK:=x.lw;have ax:=x.sb.cell;have ay:=x.sb.fz;have aM:=x.zb.cell;have aN:=x.zb.fz;have aO:=x.zb.lt;have aB:=x.c.cell;have aC:=x.c.fz;have aQ:=x.c.lt;go_wp2_with fail;refine(yG (h+1) bk.out B.c cr bi.out bp).mono ?_;rintro z ac ⟨A,R,Z,aa,ab,aj,al,ao,ev,ew,ex,rfl,dZ,aR,⟨d0,c6⟩,c7⟩;have o:=B.conv aR dZ;have c8:=λC=>lT (c7 C) bj.out;have d1:E (U w)+3<=E (U (s.setCell ⟨cb,11,I⟩ (vN a6))):=B.lw;have cm:=af.weaken (S':=(λb=>(S0 b/\b<E (U w))\/E (U w)+3<=b)) (λb f _=>f.imp (λav=>av) (λav=>by omega)) _ _ c6;have bB:=(((o.sh (lv':=next) (o0':=A) (o1':=0) (o2':=aH) (o3':=aH) 4 (vN A) (o.sb.set 4 _)).sh (lv':=next) (o0':=A) (o1':=R) (o2':=aH) (o3':=aH) 5 (vN R) ((o.sb.set 4 _).set 5 _)).sh (lv':=next) (o0':=A) (o1':=R) (o2':=J Z aa ab) (o3':=aH) 6 (J Z aa ab) (((o.sb.set 4 _).set 5 _).set 6 _)).sh (lv':=next) (o0':=A) (o1':=R) (o2':=J Z aa ab) (o3':=J aj al ao) 7 (J aj al ao) ((((o.sb.set 4 _).set 5 _).set 6 _).set 7 _);clear aJ aK ax ay aM aN aO aB aC aQ bk bi bj bs bg bh b7 b8 b9 b' ca cc cd ce c7 c6 bO dX dY x B d1;have aJ:=λr=>cell_of_row ac _ r _ 48 (0,0) o.nb;have aK:=o.lw;have ax:=o.sb.cell;have ay:=o.sb.fz;have aM:=o.zb.cell;have aN:=o.zb.fz;have aO:=o.zb.lt;have aB:=o.c.cell;have aC:=o.c.fz;have aQ:=o.c.lt;go_wp2_with fail;refine(jt bB.m bB.c).mono ?_;rintro z ap ⟨ey,ez,rfl,c9,bC,c'⟩;have au:=bB.mk' bC c9 c'
   have cn:aq (λb=>(S0 b/\b<E (U w))\/E (U w)+3<=b) ac ap:=λb f aA=>by
    have bl:b≠E (U w)+2/\b≠mb:=by
     rcases f with f|f
     ·have:=o.L.s0 b f;omega
     ·have:=o.gM;omega
    exact(bC.block b (sU aA) bl.2).trans ((Below.heap_setCell _ ⟨E (U w)+2,7,I⟩ _ _ bl.1).trans ((Below.heap_setCell _ ⟨E (U w)+2,6,I⟩ _ _ bl.1).trans ((Below.heap_setCell _ ⟨E (U w)+2,5,I⟩ _ _ bl.1).trans (Below.heap_setCell _ ⟨E (U w)+2,4,I⟩ _ _ bl.1))))
   have co:E (U ac)<=E (U ap):=by have:=bC.size;simpa using this
   have da:Hid (af (λb=>(S0 b/\b<E (U w))\/E (U w)+3<=b) (Gd (O M.ds)) d0 ap (ak A R (J Z aa ab) (J aj al ao)).toList/\∀C,bW C ap (ak A R (J Z aa ab) (J aj al ao)).toList<=Y*l):=⟨af.frame cn co _ _ cm,λC=>by rw[aL cn co _ _ cm];exact c8 C⟩;clear aJ aK ax ay aM aN aO aB aC aQ cn co cm c8 o bB c9 bC c';have aJ:=λr=>cell_of_row ap _ r _ 48 (0,0) au.nb;have aK:=au.lw;have ax:=au.sb.cell;have ay:=au.sb.fz;have aM:=au.zb.cell;have aN:=au.zb.fz;have aO:=au.zb.lt;have aB:=au.c.cell;have aC:=au.c.fz;have aQ:=au.c.lt;go_wp2_with fail;go_light;exact gO.ret au da.out.1 da.out.2 a4 a4 bo bK (λ_=>c3.out) Q Q Q
end
section
variable{c cs:Array Value} {xs ys:List Value} {ad b base e n size:Nat} {t:TypeId} {v v':Value} {w w' wr:World}
theorem za:(Tryz.prog.info? 76).map (λd=>(d.zero,d.size,d.bytes))=some (some (.agg #[J I 0 0,J I 0 0]),2,48):=by kernel_rfl
theorem y8:(Tryz.prog.info? 143).map (λd=>(d.zero,d.size,d.bytes))=some (some (.agg #[vN 0,vN 0]),2,16):=by kernel_rfl
theorem aY (h:w.ownsRow base e size v n xs) (d:v.ownBlock=some b):∃c,w.heap[b]? =some (Ob c e (0,0)):=by
 rcases h.2 with⟨f,_⟩|⟨g,cap,cur,f,_,x3,_⟩
 ·rw[f] at d;simp[Value.ownBlock] at d
 ·rw[f] at d;obtain rfl:g=b:=by simpa[Value.ownBlock] using d
  exact⟨cur,x3⟩
theorem aJ {d:Nat} {j:Array Value} {f:TypeId} {z l:Nat × Nat} (h:w.heap[b]? =some (Ob c t z)) (i:w.heap[d]? =some (Ob j f l)) (m:t≠f):b≠d:=by
 rintro rfl;rw[h] at i;have:=Option.some.inj i;injection this with _ o
 exact m o
theorem App.kt {k:Nat} (f:wr.ownsRow base e size v n xs) (i:App (wr.alloc (Ob cs e)) base e size v n xs ys k v' w'):KT (λt=>t≠e) wr w':=by
 intro b c t p d j;have l:=(gE d).1;refine(i.grown.block b (by simp;omega) (λm=>?_)).trans (Below.heap_alloc _ _ _ l);obtain⟨q,o⟩:=aY f m.symm;exact aJ d o j Q
theorem KT.set {z:Nat × Nat} (h:w.heap[b]? =some (Ob c t z)) (o:Nat) (u:Value):KT (λd=>d≠t) w (w.setCell ⟨b,o,I⟩ u):=λj l m p f i=>Below.heap_setCell _ ⟨b,o,I⟩ _ _ (aJ f h i)
theorem aw {P:Nat->Prop} (d:KT P w w') {z:Nat × Nat} (h:w.heap[b]? =some (Ob c t z)) (f:P t):w'.heap[b]? =some (Ob c t z):=(d b c t z h f).trans h
theorem App.kx {k:Nat} {X:Nat->Prop} {f:Nat} (i:wr.ownsRow base e size v n xs) (d:App (wr.alloc (Ob cs e)) base e size v n xs ys k v' w') (j:f<=base) (l:f<=E (U wr)):KX X f wr w':=
 ⟨d.grown.os,d.grown.tape,d.grown.output,lT sQ d.grown.size,λb m _=>(d.grown.block b (by simp;omega) (λe=>oH (i.lt b e.symm).1)).trans (Below.heap_alloc _ _ _ oM)⟩
def wA (x:List Value):Prop:=∃(a1:OA) (b1 c1:Nat) (a2:OA) (b2 c2:Nat),x=[J a1 b1 c1,J a2 b2 c2]
structure BM (w:World) (mb cb:Nat) (M:MK) (K:CK) (how one:Int) (nd:Array Value) (wr:World) (next fk fa k a:Int) (go:OA) (gc:Nat) (gs:VV) (oo:OA) (oc:Nat) (os:VV):Prop where
 kx:KX (λb=>b=cb\/b=mb) (E (U w)) w wr
 c:bJ wr cb K how next one fk fa
 m:cz wr mb (M.bu k a)
 eN:cb<E (U w)
 gM:mb<E (U w)
 ne:mb≠cb
 nb:wr.heap[E (U w)]? =some (Ob nd 48 (0,0))
 rg:wr.ownsRow (E (U w)+1) 76 2 (J go (O gs) gc) (O gs) gs.flatten
 g2:∀x∈gs,wA x
 rq:wr.ownsRow (E (U w)+1) 143 2 (J oo (O os) oc) (O os) os.flatten
 hf:M.fk≠0->k=M.fk
section
variable{w wr w':World} {mb cb:Nat} {M:MK} {K:CK} {how one:Int} {nd:Array Value} {next fk fa k a:Int} {go:OA} {gc:Nat} {gs:VV} {oo:OA} {oc:Nat} {os:VV} {next' fk' fa' k' a':Int}
theorem BM.ln (q:BM w mb cb M K how one nd wr next fk fa k a go gc gs oo oc os):E (U w)<E (U wr):=(gE q.nb).1
theorem BM.step (q:BM w mb cb M K how one nd wr next fk fa k a go gc gs oo oc os) (d:KX (λb=>b=cb\/b=mb) (E (U wr)) wr w') (j:bJ w' cb K how next' one fk' fa') (l:cz w' mb (M.bu k' a')) (m:M.fk≠0->k'=M.fk):BM w mb cb M K how one nd w' next' fk' fa' k' a' go gc gs oo oc os:=by
 have o:=q.ln;have p:=q.gM;have r:=q.eN;exact⟨q.kx.trans (d.mono (λ_ _ h=>h) oM),j,l,r,p,q.ne,(d.block _ o oM).trans q.nb,ah q.rg (λb f i=>d.block b i (oH (q.rg.lt b f).1)),q.g2,ah q.rq (λb f i=>d.block b i (oH (q.rq.lt b f).1)),m⟩
theorem BM.below (q:BM w mb cb M K how one nd wr next fk fa k a go gc gs oo oc os) (d:Below (E (U wr)) wr w'):BM w mb cb M K how one nd w' next fk fa k a go gc gs oo oc os:=q.step (KX.al d) (q.c.below d) (q.m.below d) q.hf
theorem BM.kE (q:BM w mb cb M K how one nd wr next fk fa k a go gc gs oo oc os) (x:Int):BM w mb cb M K x one nd (wr.setCell ⟨cb,9,I⟩ (vN x)) next fk fa k a go gc gs oo oc os:=by
 have o:=q.ln;have j:=q.gM;have l:=q.eN;have i:=q.ne;have f:∀b,b≠cb->(wr.setCell ⟨cb,9,I⟩ (vN x)).heap[b]? =wr.heap[b]? :=λb d=>Below.heap_setCell _ ⟨cb,9,I⟩ _ _ d;exact⟨q.kx.setCell (p:=⟨cb,9,I⟩) (.inr (.inl Q)) _,q.c.qM x,(f _ i).trans q.m,l,j,i,(f _ oM).trans q.nb,ah q.rg (λb d m=>f b (oH (q.rg.lt b d).1)),q.g2,ah q.rq (λb d m=>f b (oH (q.rq.lt b d).1)),q.hf⟩
end
structure BI (w:World) (mb cb:Nat) (M:MK) (K:CK) (how one:Int) (nd:Array Value) (wr:World) (next fk fa k a:Int) (go:OA) (gc:Nat) (gs:VV) (oo:OA) (oc:Nat) (os:VV) (gb:Nat) (er:Array Value) (ob:Nat) (to':OA) (tc:Nat) (tl:List Int) (lo:OA) (lc:Nat) (ll:List Int):Prop where
 b:BM w mb cb M K how one nd wr next fk fa k a go gc gs oo oc os
 g:wr.heap[gb]? =some (Ob er 48 (0,0))
 o:wr.heap[ob]? =some (Ob #[J to' (O tl) tc,J lo (O ll) lc] 76 (0,0))
 rt:wr.ownsRow (E (U w)+1) 3 1 (J to' (O tl) tc) (O tl) (aN tl)
 rl:wr.ownsRow (E (U w)+1) 3 1 (J lo (O ll) lc) (O ll) (aN ll)
 sep:∀b,(Value.slice to' (O tl) tc).ownBlock=some b->(Value.slice lo (O ll) lc).ownBlock≠some b
 wU:(Value.slice go (O gs) gc).ownBlock≠some ob
 lg:E (U w)<gb
 lC:E (U w)<ob
section
variable{w wr w':World} {mb cb:Nat} {M:MK} {K:CK} {how one:Int} {nd:Array Value} {next fk fa k a:Int} {go:OA} {gc:Nat} {gs:VV} {oo:OA} {oc:Nat} {os:VV} {next' fk' fa' k' a':Int} {gb:Nat} {er:Array Value} {ob:Nat} {to':OA} {tc:Nat} {tl:List Int} {lo:OA} {lc:Nat} {ll:List Int}
theorem BI.step (q:BI w mb cb M K how one nd wr next fk fa k a go gc gs oo oc os gb er ob to' tc tl lo lc ll) (d:KX (λb=>b=cb\/b=mb) (E (U wr)) wr w') (j:bJ w' cb K how next' one fk' fa') (l:cz w' mb (M.bu k' a')) (m:M.fk≠0->k'=M.fk):BI w mb cb M K how one nd w' next' fk' fa' k' a' go gc gs oo oc os gb er ob to' tc tl lo lc ll:=by
 have r:=q.b.gM;have s:=q.b.eN;have o:=q.lg;have p:=q.lC;exact⟨q.b.step d j l m,(d.block _ (gE q.g).1 oM).trans q.g,(d.block _ (gE q.o).1 oM).trans q.o,ah q.rt (λb f i=>d.block b i (oH (q.rt.lt b f).1)),ah q.rl (λb f i=>d.block b i (oH (q.rl.lt b f).1)),q.sep,q.wU,o,p⟩
theorem BI.below (q:BI w mb cb M K how one nd wr next fk fa k a go gc gs oo oc os gb er ob to' tc tl lo lc ll) (d:Below (E (U wr)) wr w'):BI w mb cb M K how one nd w' next fk fa k a go gc gs oo oc os gb er ob to' tc tl lo lc ll:=q.step (KX.al d) (q.b.c.below d) (q.b.m.below d) q.b.hf
theorem BI.conv (q:BI w mb cb M K how one nd wr next fk fa k a go gc gs oo oc os gb er ob to' tc tl lo lc ll) (d:Kp (E (U wr)) cb wr w') (f:bJ w' cb K how next' one fk' fa'):BI w mb cb M K how one nd w' next' fk' fa' k a go gc gs oo oc os gb er ob to' tc tl lo lc ll:=q.step (KX.cI d (.inl Q)) f ((d.block _ q.b.m.lt q.b.ne).trans q.b.m) q.b.hf
theorem BI.mk' (q:BI w mb cb M K how one nd wr next fk fa k a go gc gs oo oc os gb er ob to' tc tl lo lc ll) (d:Kp (E (U wr)) mb wr w') (f:cz w' mb ((M.bu k a).bu k' a')) (i:(M.bu k a).fk≠0->k'=(M.bu k a).fk):BI w mb cb M K how one nd w' next fk fa k' a' go gc gs oo oc os gb er ob to' tc tl lo lc ll:=q.step (KX.cI d (.inr Q)) ((d.block _ q.b.c.lt (λe=>q.b.ne e.symm)).trans q.b.c) f (λh=>by have e:=q.b.hf h;have:=i (by show k≠0;rw[e];exact h);rw[this];exact e)
theorem mC (x:Int):∀d∈(#[Value.int .i64 x]:Array Value).toList,d.oneCell'=true:=by
 intro d f;obtain rfl:d=vN x:=sU f;rfl
theorem BI.og (q:BI w mb cb M K how one nd wr next fk fa k a go gc gs oo oc os gb er ob to' tc tl lo lc ll) (x:Int) (hl:O tl<=30000) (s:TypeId) (z:ad=E (U wr)):
 ∃v' w',(Builtin.append_ #[38,38] s #[J to' (O tl) tc,J (aS ad) 1 1]).run Tryz.prog (wr.alloc (Ob #[vN x] 3))=.ok v' w'/\∃f i,v'=J f (O tl+1) i/\w'.heap[ob]? =some (Ob #[J to' (O tl) tc,J lo (O ll) lc] 76 (0,0))/\BI w mb cb M K how one nd (w'.setCell ⟨ob,0,I⟩ (J f (O tl+1) i)) next fk fa k a go gc gs oo oc os gb er ob f i (tl++[x]) lo lc ll:=by
 have N:=q.b.ln;have A:=q.b.gM;have B:=q.b.eN;have u:=q.lC;obtain⟨v',w',C,m⟩:=fj (W:=wr) Tryz.underlying38 rf Q dC q.rt oM #[vN x] rfl (mC x) (by unfold maxLen;omega) oM s z;obtain⟨f,i,rfl⟩:=m.shape;have j:=App.kt q.rt m;have D:KX (λb=>b=cb\/b=mb) (E (U w)) wr w':=App.kx q.rt m oM oM;have o:=aw j q.o dC;have l:=KT.set o 0 (J f (O tl+1) i);have r:O (tl++[x])=O tl+1:=sQ;have F:aN (tl++[x])=aN tl++[vN x]:=by simp[aN]
 have G:w'.ownsRow (E (U w)+1) 3 1 (J lo (O ll) lc) (O ll) (aN ll):=ah q.rl (λb d hl=>(m.grown.block b (by simp;omega) (λe=>q.sep b e.symm d)).trans (Below.heap_alloc _ _ _ hl));have H:=m.row;have L:=ag q.b.rg j dC;refine⟨_,w',C,f,i,Q,o,⟨⟨?_,aw l (aw j q.b.c dC) dC,aw l (aw j q.b.m dC) dC,B,A,q.b.ne,aw l (aw j q.b.nb dC) dC,ah L (λb d _=>Below.heap_setCell _ ⟨ob,0,I⟩ _ _ (λe=>q.wU (by rw[d];exact congrArg some e))),q.b.g2,ag (ag q.b.rq j dC) l dC,q.b.hf⟩,aw l (aw j q.g dC) dC,?_,?_,?_,?_,q.wU,q.lg,u⟩⟩
 ·exact q.b.kx.trans (D.setCell (p:=⟨ob,0,I⟩) (.inl (Nat.le_of_lt u)) _)
 ·have:=heap_setCell_same w' ob 0 _ 76 (J f (O tl+1) i) o;rw[r];simpa using this
 ·rw[F,r];exact ag H l dC
 ·exact ag G l dC
 ·intro b d y;rw[r] at d;have P:=(q.rl.lt b y).2;rcases m.own with e|e
  ·exact q.sep b (by rw[<-e];exact d) y
  ·rw[e] at d;simp at d;omega
theorem BI.ub (q:BI w mb cb M K how one nd wr next fk fa k a go gc gs oo oc os gb er ob to' tc tl lo lc ll) (x:Int) (hl:O ll<=30000) (u:TypeId) (z:ad=E (U wr)):
 ∃v' w',(Builtin.append_ #[38,38] u #[J lo (O ll) lc,J (aS ad) 1 1]).run Tryz.prog (wr.alloc (Ob #[vN x] 3))=.ok v' w'/\∃d f,v'=J d (O ll+1) f/\w'.heap[ob]? =some (Ob #[J to' (O tl) tc,J lo (O ll) lc] 76 (0,0))/\BI w mb cb M K how one nd (w'.setCell ⟨ob,1,I⟩ (J d (O ll+1) f)) next fk fa k a go gc gs oo oc os gb er ob to' tc tl d f (ll++[x]):=by
 have N:=q.b.ln;have A:=q.b.gM;have B:=q.b.eN;have y:=q.lC;obtain⟨v',w',C,l⟩:=fj (W:=wr) Tryz.underlying38 rf Q dC q.rl oM #[vN x] rfl (mC x) (by unfold maxLen;omega) oM u z;obtain⟨d,f,rfl⟩:=l.shape;have i:=App.kt q.rl l;have D:KX (λb=>b=cb\/b=mb) (E (U w)) wr w':=App.kx q.rl l oM oM;have r:=aw i q.o dC;have j:=KT.set r 1 (J d (O ll+1) f);have s:O (ll++[x])=O ll+1:=sQ;have F:aN (ll++[x])=aN ll++[vN x]:=by simp[aN]
 have G:w'.ownsRow (E (U w)+1) 3 1 (J to' (O tl) tc) (O tl) (aN tl):=ah q.rt (λb m hl=>(l.grown.block b (by simp;omega) (λe=>q.sep b m e.symm)).trans (Below.heap_alloc _ _ _ hl));have H:=l.row;have L:=ag q.b.rg i dC;refine⟨_,w',C,d,f,Q,r,⟨⟨?_,aw j (aw i q.b.c dC) dC,aw j (aw i q.b.m dC) dC,B,A,q.b.ne,aw j (aw i q.b.nb dC) dC,ah L (λb m _=>Below.heap_setCell _ ⟨ob,1,I⟩ _ _ (λe=>q.wU (by rw[m];exact congrArg some e))),q.b.g2,ag (ag q.b.rq i dC) j dC,q.b.hf⟩,aw j (aw i q.g dC) dC,?_,?_,?_,?_,q.wU,q.lg,y⟩⟩
 ·exact q.b.kx.trans (D.setCell (p:=⟨ob,1,I⟩) (.inl (Nat.le_of_lt y)) _)
 ·have:=heap_setCell_same w' ob 1 _ 76 (J d (O ll+1) f) r;rw[s];simpa using this
 ·exact ag G j dC
 ·rw[F,s];exact ag H j dC
 ·intro b m o;rw[s] at o;have P:=(q.rt.lt b m).2;rcases l.own with e|e
  ·exact q.sep b m (by rw[<-e];exact o)
  ·rw[e] at o;simp at o;omega
theorem BI.yi (q:BI w mb cb M K how one nd wr next fk fa k a go gc gs oo oc os gb er ob to' tc tl lo lc ll) (x f:Int) (hl:O os<=1000000000) (m:TypeId) (r:ad=E (U wr)):
 ∃v' w',(Builtin.append_ #[77,77] m #[J oo (O os) oc,J (aS ad) 1 1]).run Tryz.prog (wr.alloc (Ob #[vN x,vN f] 143))=.ok v' w'/\∃i j,v'=J i (O os+1) j/\BI w mb cb M K how one nd w' next fk fa k a go gc gs i j (os++[[vN x,vN f]]) gb er ob to' tc tl lo lc ll:=by
 have A:=q.b.ln;have s:=q.b.gM;have u:=q.b.eN
 have one:∀o∈(#[Value.int .i64 x,Value.int .i64 f]:Array Value).toList,o.oneCell'=true:=by
  intro o p;simp at p;rcases p with rfl|rfl<;>rfl
 obtain⟨v',w',y,l⟩:=fj (W:=wr) Tryz.underlying77 y8 Q dC q.b.rq oM #[vN x,vN f] rfl one (by unfold maxLen;omega) oM m r;obtain⟨i,j,rfl⟩:=l.shape;have d:=App.kt q.b.rq l;have z:KX (λb=>b=cb\/b=mb) (E (U w)) wr w':=App.kx q.b.rq l oM oM;refine⟨_,w',y,i,j,Q,⟨⟨q.b.kx.trans z,aw d q.b.c dC,aw d q.b.m dC,u,s,q.b.ne,aw d q.b.nb dC,ag q.b.rg d dC,q.b.g2,?_,q.b.hf⟩,aw d q.g dC,aw d q.o dC,ag q.rt d dC,ag q.rl d dC,q.sep,q.wU,q.lg,q.lC⟩⟩;have:=l.row;simpa using this
theorem BI.zk (q:BI w mb cb M K how one nd wr next fk fa k a go gc gs oo oc os gb er ob to' tc tl lo lc ll) (hl:O gs<=30000) (m:TypeId) (r:ad=E (U wr)):
 ∃v' w',(Builtin.append_ #[37,37] m #[J go (O gs) gc,J (aS ad) 1 1]).run Tryz.prog (wr.alloc (Ob #[J to' (O tl) tc,J lo (O ll) lc] 76))=.ok v' w'/\∃f i,v'=J f (O gs+1) i/\BM w mb cb M K how one nd w' next fk fa k a f i (gs++[[J to' (O tl) tc,J lo (O ll) lc]]) oo oc os:=by
 have A:=q.b.ln;have s:=q.b.gM;have u:=q.b.eN
 have one:∀o∈(#[Value.slice to' (O tl) tc,Value.slice lo (O ll) lc]:Array Value).toList,o.oneCell'=true:=by
  intro o p;simp at p;rcases p with rfl|rfl<;>rfl
 obtain⟨v',w',x,j⟩:=fj (W:=wr) Tryz.underlying37 za Q dC q.b.rg oM #[J to' (O tl) tc,J lo (O ll) lc] rfl one (by unfold maxLen;omega) oM m r;obtain⟨f,i,rfl⟩:=j.shape;have l:=App.kt q.b.rg j;have y:KX (λb=>b=cb\/b=mb) (E (U w)) wr w':=App.kx q.b.rg j oM oM;refine⟨_,w',x,f,i,Q,⟨q.b.kx.trans y,aw l q.b.c dC,aw l q.b.m dC,u,s,q.b.ne,aw l q.b.nb dC,?_,λz d=>?_,ag q.b.rq l dC,q.b.hf⟩⟩
 ·have:=j.row;simpa using this
 ·rcases List.mem_append.1 d with d|d
  ·exact q.b.g2 z d
  ·rw[List.mem_singleton.1 d];exact⟨_,_,_,_,_,_,Q⟩
end
def mW (w:World) (mb cb:Nat) (M:MK) (K:CK) (one:Int) (e:Ending) (w':World):Prop:=
 ∃(how next fk fa k a:Int) (go:OA) (gc:Nat) (gs:VV) (oo:OA) (on oc:Nat),e=.returned (.tuple #[J go (O gs) gc,J oo on oc])/\bJ w' cb K how next one fk fa/\cz w' mb (M.bu k a)/\(M.fk≠0->k=M.fk)/\KX (λb=>b=cb\/b=mb) (E (U w)) w w'/\ro w' (λb=>E (U w)<=b) 2 (J go (O gs) gc) (O gs) gs.flatten/\(∀x∈gs,wA x)/\O gs<=30000
end
end Go.Proofs.YtdghkacbpebcoaaGreat
