import Derived.Test.YtcnnibahjmekdaaGreatS35
import Derived.Test.YtcnnibahjmekdaaGreatS36
import Derived.Test.YtcnnibahjmekdaaGreatS37
namespace Go.Proofs.YtcnnibahjmekdaaGreat
open Go.RowKit
open Value renaming slice→J
open List renaming length→O
open Option renaming none→I
open World renaming heap→U
open _root_.Array renaming size→E
open Obj renaming cells→Ob
set_option linter.all false
set_option maxRecDepth 100000
set_option maxHeartbeats 0
section
variable{name:ByteArray} {K:CK} {fa how m n next one pos:Int} {M:MK} {B0 T Z cb h hs kc kl:Nat} {S0:Nat->Prop} {ko:OA} {w:World}
theorem uO (s:bZ h) {fk:Int} (f:Cx w cb K M T S0 hs Z) (c:bP w cb K how next one fk fa) (F:B0<=cb) {kind:Int} (i:isNode (λb=>b<B0) True (h+1) w (ae kind pos n m name (J ko kl kc)).toList) (G:(fk==0)=false):
 Calls Tryz.prog 50 #[.pointer (some ⟨cb,0,I⟩),.agg (ae kind pos n m name (J ko kl kc))] w (bS w cb K how one S0 (O M.ds) (aG (h+1) w (ae kind pos n m name (J ko kl kc)).toList*Z)):=by
 clear s;have j:=c.lt;obtain⟨d,k⟩:∃d,d=aG (h+1) w (ae kind pos n m name (J ko kl kc)).toList*Z:=⟨_,Q⟩
 have t:1<=d:=by
  obtain⟨u,-,-,-,-,v,-⟩:=i.kids;have:=f.z1;have:=Nat.mul_le_mul (show 1<=1+(u.map (aG h w)).sum by omega) this;rw[k,v];omega
 rw[<-k];obtain⟨e,l,o⟩:=eI w (Ob (ae kind pos n m name (J ko kl kc)) 46) (Ob dF 39);have a:PM w cb K how one (ae kind pos n m name (J ko kl kc)) ((w.alloc (Ob (ae kind pos n m name (J ko kl kc)) 46)).alloc (Ob dF 39)) next fk fa:=⟨Kp.aq e,c.below e,j,l,o⟩;have p:w.heap[cb]? =some (Ob (dL K how next one fk fa) 126 (0,0)):=c;have x:Hid (w.heap[cb]? =some (Ob (dL K how next one fk fa) 126 (0,0))):=p;clear p e l o f c i;go_enter Tryz.func50,Tryz.ntmps50
 have H:=λy=>cell_of_row _ _ y _ 46 (0,0) a.nb;have L:=(gE a.nb).1;have N:=a.zb.cell;have P:=a.zb.fz;have R:=a.zb.lt;go_wp2_with (go_at_call 70;refine(iR a.c).mono ?_;rintro q V ⟨rfl,rfl⟩)
 go_light;obtain⟨z,A⟩:=dz (S:=λb=>(S0 b\/E (U w)<=b)) (D:=O M.ds) (w:=(w.alloc (Ob (ae kind pos n m name (J ko kl kc)) 46)).alloc (Ob (ai 0 0 (J I 0 0) (J I 0 0)) 39)) (kind:=0) (n:=0) ⟨λq=>absurd q dC,dC,dC⟩;obtain⟨r,W,B⟩:=eI w (Ob (ae kind pos n m name (J ko kl kc)) 46) (Ob (ai 0 0 (J I 0 0) (J I 0 0)) 39);exact hJ Tryz.results50 Q Q B ((r.block _ j).trans x.out) (Kp.aq r) z (λC=>lT (A C) t)
theorem uN (s:bZ h) (f:Cx w cb K M T S0 hs Z) (c:bP w cb K how next one 0 fa) (F:B0<=cb) (i:isNode (λb=>b<B0) True (h+1) w (ae 13 pos n m name (J ko kl kc)).toList):
 Calls Tryz.prog 50 #[.pointer (some ⟨cb,0,I⟩),.agg (ae 13 pos n m name (J ko kl kc))] w (bS w cb K how one S0 (O M.ds) (aG (h+1) w (ae 13 pos n m name (J ko kl kc)).toList*Z)):=by
 clear s;have j:=c.lt;obtain⟨d,k⟩:∃d,d=aG (h+1) w (ae 13 pos n m name (J ko kl kc)).toList*Z:=⟨_,Q⟩
 have t:1<=d:=by
  obtain⟨u,-,-,-,-,v,-⟩:=i.kids;have:=f.z1;have:=Nat.mul_le_mul (show 1<=1+(u.map (aG h w)).sum by omega) this;rw[k,v];omega
 rw[<-k];obtain⟨e,l,o⟩:=eI w (Ob (ae 13 pos n m name (J ko kl kc)) 46) (Ob dF 39);have a:PM w cb K how one (ae 13 pos n m name (J ko kl kc)) ((w.alloc (Ob (ae 13 pos n m name (J ko kl kc)) 46)).alloc (Ob dF 39)) next 0 fa:=⟨Kp.aq e,c.below e,j,l,o⟩;have p:w.heap[cb]? =some (Ob (dL K how next one 0 fa) 126 (0,0)):=c;have x:Hid (w.heap[cb]? =some (Ob (dL K how next one 0 fa) 126 (0,0))):=p;clear p e l o f c i;go_enter Tryz.func50,Tryz.ntmps50
 have G:=λy=>cell_of_row _ _ y _ 46 (0,0) a.nb;have H:=(gE a.nb).1;have L:=a.zb.cell;have N:=a.zb.fz;have P:=a.zb.lt;go_wp2_with (go_at_call 70;refine(iR a.c).mono ?_;rintro q R ⟨rfl,rfl⟩)
 go_light;obtain⟨z,A⟩:=dz (S:=λb=>(S0 b\/E (U w)<=b)) (D:=O M.ds) (w:=(w.alloc (Ob (ae 13 pos n m name (J ko kl kc)) 46)).alloc (Ob (ai 1 0 (J I 0 0) (J I 0 0)) 39)) (kind:=1) (n:=0) ⟨λq=>absurd q dC,dC,dC⟩;obtain⟨r,V,B⟩:=eI w (Ob (ae 13 pos n m name (J ko kl kc)) 46) (Ob (ai 1 0 (J I 0 0) (J I 0 0)) 39);exact hJ Tryz.results50 Q Q B ((r.block _ j).trans x.out) (Kp.aq r) z (λC=>lT (A C) t)
theorem uM (s:bZ h) (f:Cx w cb K M T S0 hs Z) (c:bP w cb K how next one 0 fa) (F:B0<=cb) (i:isNode (λb=>b<B0) True (h+1) w (ae 14 pos n m name (J ko kl kc)).toList):
 Calls Tryz.prog 50 #[.pointer (some ⟨cb,0,I⟩),.agg (ae 14 pos n m name (J ko kl kc))] w (bS w cb K how one S0 (O M.ds) (aG (h+1) w (ae 14 pos n m name (J ko kl kc)).toList*Z)):=by
 clear s;have j:=c.lt;obtain⟨d,k⟩:∃d,d=aG (h+1) w (ae 14 pos n m name (J ko kl kc)).toList*Z:=⟨_,Q⟩
 have t:1<=d:=by
  obtain⟨u,-,-,-,-,v,-⟩:=i.kids;have:=f.z1;have:=Nat.mul_le_mul (show 1<=1+(u.map (aG h w)).sum by omega) this;rw[k,v];omega
 rw[<-k];obtain⟨e,l,o⟩:=eI w (Ob (ae 14 pos n m name (J ko kl kc)) 46) (Ob dF 39);have a:PM w cb K how one (ae 14 pos n m name (J ko kl kc)) ((w.alloc (Ob (ae 14 pos n m name (J ko kl kc)) 46)).alloc (Ob dF 39)) next 0 fa:=⟨Kp.aq e,c.below e,j,l,o⟩;have p:w.heap[cb]? =some (Ob (dL K how next one 0 fa) 126 (0,0)):=c;have x:Hid (w.heap[cb]? =some (Ob (dL K how next one 0 fa) 126 (0,0))):=p;clear p e l o f c i;go_enter Tryz.func50,Tryz.ntmps50
 have G:=λy=>cell_of_row _ _ y _ 46 (0,0) a.nb;have H:=(gE a.nb).1;have L:=a.zb.cell;have N:=a.zb.fz;have P:=a.zb.lt;go_wp2_with (go_at_call 70;refine(iR a.c).mono ?_;rintro q R ⟨rfl,rfl⟩)
 go_light;obtain⟨z,A⟩:=dz (S:=λb=>(S0 b\/E (U w)<=b)) (D:=O M.ds) (w:=(w.alloc (Ob (ae 14 pos n m name (J ko kl kc)) 46)).alloc (Ob (ai 2 0 (J I 0 0) (J I 0 0)) 39)) (kind:=2) (n:=0) ⟨λq=>absurd q dC,dC,dC⟩;obtain⟨r,V,B⟩:=eI w (Ob (ae 14 pos n m name (J ko kl kc)) 46) (Ob (ai 2 0 (J I 0 0) (J I 0 0)) 39);exact hJ Tryz.results50 Q Q B ((r.block _ j).trans x.out) (Kp.aq r) z (λC=>lT (A C) t)
end
theorem se {h:Nat} (x:bZ h) {w:World} {c:Nat} {K:CK} {M:MK} {T:Nat} {j:Nat->Prop} {r i B0:Nat} {how next one fa:Int} (k:Cx w c K M T j r i) (l:bP w c K how next one 0 fa) (V:B0<=c) {pos n m:Int} {name:ByteArray} {ko:OA} {kl kc:Nat} (o:isNode (λb=>b<B0) True (h+1) w (ae 18 pos n m name (J ko kl kc)).toList):
 Calls Tryz.prog 50 #[.pointer (some ⟨c,0,I⟩),.agg (ae 18 pos n m name (J ko kl kc))] w (bS w c K how one j (O M.ds) (aG (h+1) w (ae 18 pos n m name (J ko kl kc)).toList*i)):=by
 have W:Hid (bZ h):=@x;clear x;obtain⟨d,rfl,X,Y,y,z,Z,aa,-,-⟩:=o.kids;obtain⟨p,q⟩:∃p,p=aG (h+1) w (ae 18 pos n m name (J ko (O d) kc)).toList*i:=⟨_,Q⟩;rw[<-q];have ab:p=(1+(d.map (aG h w)).sum)*i:=by rw[q,z]
 have A:=l.lt;have ar:=k.z1;have B:Hid (Cx w c K M T (λb=>j b/\b<E (U w)) r i/\bP w c K how next one 0 fa):=⟨k.low,l⟩;obtain⟨s,C,D⟩:=eI w (Ob (ae 18 pos n m name (J ko (O d) kc)) 46) (Ob dF 39);have e:PM w c K how one (ae 18 pos n m name (J ko (O d) kc)) ((w.alloc (Ob (ae 18 pos n m name (J ko (O d) kc)) 46)).alloc (Ob dF 39)) next 0 fa:=⟨Kp.aq s,l.below s,A,C,D⟩;have F:Hid (∀{t:World},Kp (E (U w)) c w t->al (λb=>b<B0) w t):=λ{t} ac b f ad=>ac.block b ad oM;have au:Hid (∀b,(j b/\b<E (U w))->b≠c/\b<E (U w)):=λb f=>⟨k.s0 b f.1,f.2⟩;have ag:Hid (Cx ((w.alloc (Ob (ae 18 pos n m name (J ko (O d) kc)) 46)).alloc (Ob dF 39)) c K M T (λb=>j b/\b<E (U w)) r i):=B.out.1.step B.out.2 e.k;have ah:Hid (isNode (λb=>b<B0) True (h+1) ((w.alloc (Ob (ae 18 pos n m name (J ko (O d) kc)) 46)).alloc (Ob dF 39)) (ae 18 pos n m name (J ko (O d) kc)).toList):=isNode.frame (F.out e.k) _ _ o;have ai:Hid (aG (h+1) ((w.alloc (Ob (ae 18 pos n m name (J ko (O d) kc)) 46)).alloc (Ob dF 39)) (ae 18 pos n m name (J ko (O d) kc)).toList*i=p):=by show _=_;rw[aQ (F.out e.k) _ _ o,q]
 have aj:Hid (NT name):=(y.path Q).1.nt Z;clear q ab X Y y z aa o;clear s C D k l;go_enter Tryz.func50,Tryz.ntmps50
 have G:=λu=>cell_of_row _ _ u _ 46 (0,0) e.nb;have H:=(gE e.nb).1;have L:=e.zb.cell;have N:=e.zb.fz;have P:=e.zb.lt;go_wp2_with (go_at_call 70;refine(iR e.c).mono ?_;rintro ak v ⟨rfl,rfl⟩)
 refine(wJ @W.out ag.out e.c V ah.out aj.out).mono ?_;rintro ak v ⟨av,aw,ax,ay,az,aA,aB,aC,aD,aE,aF,rfl,ao,ap,⟨aH,R⟩,S⟩;rw[ai.out] at S;have a:=e.step ap ao;have aq:E (U ((w.alloc (Ob (ae 18 pos n m name (J ko (O d) kc)) 46)).alloc (Ob dF 39)))=E (U w)+2:=sQ;rw[aq] at R;clear G H L N P;have G:=λu=>cell_of_row v _ u _ 46 (0,0) a.nb;have H:E (U w)<E (U v):=(gE a.nb).1;have L:=a.zb.cell;have N:=a.zb.fz;have P:=a.zb.lt;have aI:=a.c.cell;have aJ:=a.c.fz;have A:=a.c.lt;go_wp2_with fail;go_light
 exact gr Tryz.results50 Q Q a.zb oM a.eS a.c a.k (af.weaken (λb f _=>by
  rcases f with f|f
  ·exact⟨.inl f.1,oH f.2⟩
  ·exact⟨.inr oM,oM⟩) _ _ R) S
theorem xN {h:Nat} (a:bZ h):bZ (h+1):=by
 intro w l m n o p q r s how next one j t b c d f pos u v x y z A e k;by_cases i:j=0
 ·subst i;obtain⟨B,C⟩:=k;rcases(show f=13\/f=14\/f=15\/f=16\/f=17\/f=18 by omega) with rfl|rfl|rfl|rfl|rfl|rfl
  ·exact uN @a b c d e
  ·exact uM @a b c d e
  ·exact sj @a b c d e
  ·exact sh @a b c d e
  ·exact sf @a b c d e
  ·exact se @a b c d e
 ·exact uO @a b c d e (sU i)
theorem yX (h:Nat):bZ h:=by
 induction h with
 |zero=>
  intro w d e f i j k l m how next one n o p q r s pos t u v x y z a A;exact absurd a (λb=>b)
 |succ h c=>exact xN @c
section
variable{kind n:Int} {x:List Value} {D H Y ac ad an lc ln:Nat} {S:Nat->Prop} {aao aw:OA} {w w':World}
theorem zq:(Tryz.prog.info? 61).map (λa=>(a.zero,a.size,a.bytes))=some (some (.agg #[.string ⟨#[]⟩,.bool false,vN 0,vN 0,J I 0 0,J I 0 0]),6,88):=by kernel_rfl
def TQ (w:World) (S0:Nat->Prop) (kv vv:Value) (b:Nat):Prop:=(S0 b\/E (U w)+3<=b)/\kv.ownBlock≠some b/\vv.ownBlock≠some b
abbrev gO (nm:ByteArray) (mu:Bool) (kind n:Int) (lv av:Value):Array Value:=#[.string nm,.bool mu,vN kind,vN n,lv,av]
def eo (S:Nat->Prop) (D H:Nat) (w:World) (x:List Value):Prop:=∃(nm:ByteArray) (mu:Bool) (kind n:Int) (lo:OA) (ln lc:Nat) (ao:OA) (an ac:Nat),x=(gO nm mu kind n (J lo ln lc) (J ao an ac)).toList/\af S (Gd D) H w (ai kind n (J lo ln lc) (J ao an ac)).toList
theorem eo.frame (h:eo S D H w x) (b:al S w w') (c:E (U w)<=E (U w')):eo S D H w' x/\∀a,aU a w' (x.drop 2)=aU a w (x.drop 2):=by
 obtain⟨e,f,kind,n,i,ln,lc,j,an,ac,rfl,d⟩:=h;exact⟨⟨e,f,kind,n,i,ln,lc,j,an,ac,Q,af.frame b c _ _ d⟩,λa=>aJ b c _ _ d a⟩
theorem eo.weaken {S':Nat->Prop} (h:eo S D H w x) (a:∀b,S b->b<E (U w)->S' b):eo S' D H w x:=by
 obtain⟨c,d,kind,n,e,ln,lc,f,an,ac,rfl,i⟩:=h;exact⟨c,d,kind,n,e,ln,lc,f,an,ac,Q,af.weaken a _ _ i⟩
theorem eo.le {H':Nat} (h:eo S D H w x) (a:H<=H'):eo S D H' w x:=by
 obtain⟨b,c,kind,n,d,ln,lc,e,an,ac,rfl,f⟩:=h;exact⟨b,c,kind,n,d,ln,lc,e,an,ac,Q,af.le f _ a⟩
structure oF (w:World) (cb mb:Nat) (S0:Nat->Prop) (D:Nat) (wr:World) (io:OA) (ic:Nat) (ts:VV) (vo:OA) (vc:Nat) (vs:VV) (Xi Xv:Nat):Prop where
 ri:wr.ownsRow (E (U w)+3) 39 4 (J io (O ts) ic) (O ts) ts.flatten
 rv:wr.ownsRow (E (U w)+3) 61 6 (J vo (O vs) vc) (O vs) vs.flatten
 sep:∀b,(Value.slice io (O ts) ic).ownBlock=some b->(Value.slice vo (O vs) vc).ownBlock≠some b
 ti:∃H,∀x∈ts,af (TQ w S0 (J io (O ts) ic) (J vo (O vs) vc)) (Gd D) H wr x
 tv:∃H,∀x∈vs,eo (TQ w S0 (J io (O ts) ic) (J vo (O vs) vc)) D H wr x
 si:∀f,(ts.map (aU f wr)).sum<=Xi
 sv:∀f,(vs.map (λx=>aU f wr (x.drop 2))).sum<=Xv
 s0:∀b,S0 b->b≠cb/\b≠mb/\b<E (U w)
 size:E (U w)+3<=E (U wr)
section
variable{w wr w':World} {cb mb:Nat} {S0:Nat->Prop} {D:Nat} {io:OA} {ic:Nat} {ts:VV} {vo:OA} {vc:Nat} {vs:VV} {Xi Xv:Nat}
theorem oF.nil (w wr:World) (c:E (U w)+3<=E (U wr)) (h:∀b,S0 b->b≠cb/\b≠mb/\b<E (U w)):oF w cb mb S0 D wr I 0 [] I 0 [] 0 0:=
 ⟨World.ownsRow_nil _ _ _ _,World.ownsRow_nil _ _ _ _,λb d=>by simp[Value.ownBlock] at d,⟨0,λx a=>by cases a⟩,⟨0,λx a=>by cases a⟩,λ_=>lR _,λ_=>lR _,h,c⟩
theorem oF.step (q:oF w cb mb S0 D wr io ic ts vo vc vs Xi Xv) {X:Nat->Prop} (c:KX X (E (U wr)) wr w') (k:∀b,X b->b=cb\/b=mb\/(E (U w)<=b/\b<E (U w)+3)) (r:cb<E (U w)) (s:mb<E (U w)):oF w cb mb S0 D w' io ic ts vo vc vs Xi Xv:=by
 have j:∀b,E (U w)+3<=b->¬X b:=λb d a=>by rcases k b a with h|h|h<;>omega
 have i:al (TQ w S0 (J io (O ts) ic) (J vo (O vs) vc)) wr w':=λb d e=>c.block b e (λa=>by
  rcases d.1 with h|h
  ·have t:=q.s0 b h;rcases k b a with l|l|l<;>omega
  ·exact j b h a)
 obtain⟨H,m⟩:=q.ti;obtain⟨p,o⟩:=q.tv;refine⟨ag q.ri (λb d e=>c.block b e (j b (q.ri.lt b d).1)),ag q.rv (λb d e=>c.block b e (j b (q.rv.lt b d).1)),q.sep,⟨H,λx a=>af.frame i c.size _ _ (m x a)⟩,⟨p,λx a=>((o x a).frame i c.size).1⟩,λf=>?_,λf=>?_,q.s0,lT q.size c.size⟩
 ·rw[List.map_congr_left (λx a=>aJ i c.size _ _ (m x a) f)];exact q.si f
 ·rw[List.map_congr_left (λx a=>((o x a).frame i c.size).2 f)];exact q.sv f
theorem oF.out (q:oF w cb mb S0 D wr io ic ts vo vc vs Xi Xv) {W0:Nat} {cs:List Value} (d:∀b,(Value.slice io (O ts) ic).ownBlock=some b\/(Value.slice vo (O vs) vc).ownBlock=some b->b<W0) (f:E (U w)+3<=W0) (e:af (λb=>S0 b\/W0<=b) (Gd D) H wr cs):af (TQ w S0 (J io (O ts) ic) (J vo (O vs) vc)) (Gd D) H wr cs:=
 af.weaken (λb c _=>by
  rcases c with c|c
  ·have i:=q.s0 b c;exact⟨.inl c,λa=>oH (q.ri.lt b a).1,λa=>oH (q.rv.lt b a).1⟩
  ·exact⟨.inr oM,λa=>oH (d b (.inl a)),λa=>oH (d b (.inr a))⟩) _ _ e
theorem oF.xu (q:oF w cb mb S0 D wr io ic ts vo vc vs Xi Xv) (o:af (TQ w S0 (J io (O ts) ic) (J vo (O vs) vc)) (Gd D) H wr (ai kind n (J aw ln lc) (J aao an ac)).toList) (A:∀f,aU f wr (ai kind n (J aw ln lc) (J aao an ac)).toList<=Y) (au:O ts<=30000) (B:TypeId) (ae:ad=E (U wr)):
 ∃u w',(Builtin.append_ #[36,36] B #[J io (O ts) ic,J (some ⟨ad,0,I⟩) 1 1]).run Tryz.prog (wr.alloc (Ob (ai kind n (J aw ln lc) (J aao an ac)) 39))=.ok u w'/\∃i j,u=J i (O ts+1) j/\oF w cb mb S0 D w' i j (ts++[(ai kind n (J aw ln lc) (J aao an ac)).toList]) vo vc vs (Xi+Y) Xv/\af (TQ w S0 (J i (O ts+1) j) (J vo (O vs) vc)) (Gd D) H w' (ai kind n (J aw ln lc) (J aao an ac)).toList/\(∀f,aU f w' (ai kind n (J aw ln lc) (J aao an ac)).toList<=Y)/\KX (λa=>(Value.slice io (O ts) ic).ownBlock=some a) (E (U wr)) wr w':=by
 have one:∀C∈(ai kind n (J aw ln lc) (J aao an ac)).toList,C.oneCell'=true:=by
  intro C o;simp at o;rcases o with rfl|rfl|rfl|rfl<;>rfl
 have ah:=q.size;obtain⟨u,w',aj,e⟩:=fg (W:=wr) Tryz.underlying36 jD Q dC q.ri oM (ai kind n (J aw ln lc) (J aao an ac)) Q one (by unfold maxLen;omega) oM B ae;obtain⟨i,j,rfl⟩:=e.shape;obtain⟨ak,F⟩:=q.ti;obtain⟨ao,G⟩:=q.tv;have p:E (U wr)<=E (U w'):=lT sQ e.grown.size;have v:∀a,a<E (U wr)->(Value.slice io (O ts) ic).ownBlock≠some a->w'.heap[a]? =wr.heap[a]? :=λa b y=>(e.grown.block a (by simp;omega) (λd=>y d.symm)).trans (Below.heap_alloc _ _ _ b);have K:al (λa=>TQ w S0 (J io (O ts) ic) (J vo (O vs) vc) a/\a<E (U wr)) wr w':=λa b k=>v a k b.1.2.1
 have ap:∀a,TQ w S0 (J io (O ts) ic) (J vo (O vs) vc) a/\a<E (U wr)->TQ w S0 (J i (O ts+1) j) (J vo (O vs) vc) a:=by
  rintro a ⟨⟨l,r,aq⟩,k⟩;refine⟨l,?_,aq⟩;rcases e.own with d|d
  ·rw[d];exact r
  ·rw[d];intro ar;simp at ar;omega
 have m:∀{H:Nat} (x:List Value),af (TQ w S0 (J io (O ts) ic) (J vo (O vs) vc)) (Gd D) H wr x->af (TQ w S0 (J i (O ts+1) j) (J vo (O vs) vc)) (Gd D) H w' x/\∀f,aU f w' x=aU f wr x:=by
  intro H x c;have l:=af.weaken (S':=λa=>TQ w S0 (J io (O ts) ic) (J vo (O vs) vc) a/\a<E (U wr)) (λa b k=>⟨b,k⟩) _ _ c;exact⟨af.weaken (λa b _=>ap a b) _ _ (af.frame K p _ _ l),λf=>aJ K p _ _ l f⟩
 have s:O (ts++[(ai kind n (J aw ln lc) (J aao an ac)).toList])=O ts+1:=sQ;have t:=m _ o;refine⟨_,w',aj,i,j,Q,⟨?_,ag q.rv (λa b k=>v a k (λd=>q.sep a d b)),?_,⟨max H ak,?_⟩,⟨ao,?_⟩,?_,?_,q.s0,lT ah p⟩,t.1,λf=>by rw[t.2 f];exact A f,⟨e.grown.os,e.grown.tape,e.grown.output,p,λa b y=>v a b y⟩⟩
 ·rw[s];have:=e.row;simpa using this
 ·intro a b L;rw[s] at b;have av:=(q.rv.lt a L).2;rcases e.own with d|d
  ·exact q.sep a (by rw[<-d];exact b) L
  ·rw[d] at b;simp at b;omega
 ·intro x c;rw[s];rcases List.mem_append.1 c with c|c
  ·exact af.le (m x (F x c)).1 _ (Nat.le_max_right _ _)
  ·rw[List.mem_singleton.1 c];exact af.le t.1 _ (Nat.le_max_left _ _)
 ·intro x c;rw[s];obtain⟨M,N,P,R,T,V,X,Z,aa,ab,rfl,z⟩:=G x c;exact⟨M,N,P,R,T,V,X,Z,aa,ab,Q,(m _ z).1⟩
 ·intro f;rw[List.map_append,List.sum_append,List.map_congr_left (λx c=>(m x (F x c)).2 f)];have l:=q.si f;have r:=A f;rw[<-t.2 f] at r;exact Nat.add_le_add l (show aU f w' _+0<=Y from r)
 ·intro f
  rw[List.map_congr_left (g:=λx=>aU f wr (x.drop 2)) (λx c=>by
   obtain⟨M,N,P,R,T,V,X,Z,aa,ab,rfl,z⟩:=G x c;exact(m _ z).2 f)]
  exact q.sv f
theorem oF.xq (q:oF w cb mb S0 D wr io ic ts vo vc vs Xi Xv) (i:ByteArray) (j:Bool) (r:af (TQ w S0 (J io (O ts) ic) (J vo (O vs) vc)) (Gd D) H wr (ai kind n (J aw ln lc) (J aao an ac)).toList) (ab:∀f,aU f wr (ai kind n (J aw ln lc) (J aao an ac)).toList<=Y) (au:O vs<=30000) (C:TypeId) (ae:ad=E (U wr)):
 ∃y w',(Builtin.append_ #[55,55] C #[J vo (O vs) vc,J (aS ad) 1 1]).run Tryz.prog (wr.alloc (Ob (gO i j kind n (J aw ln lc) (J aao an ac)) 61))=.ok y w'/\∃k l,y=J k (O vs+1) l/\oF w cb mb S0 D w' io ic ts k l (vs++[(gO i j kind n (J aw ln lc) (J aao an ac)).toList]) Xi (Xv+Y)/\KX (λa=>(Value.slice vo (O vs) vc).ownBlock=some a) (E (U wr)) wr w':=by
 have one:∀F∈(gO i j kind n (J aw ln lc) (J aao an ac)).toList,F.oneCell'=true:=by
  intro F r;simp at r;rcases r with rfl|rfl|rfl|rfl|rfl|rfl<;>rfl
 have ah:=q.size;obtain⟨y,w',aj,e⟩:=fg (W:=wr) Tryz.underlying55 zq Q dC q.rv oM (gO i j kind n (J aw ln lc) (J aao an ac)) Q one (by unfold maxLen;omega) oM C ae;obtain⟨k,l,rfl⟩:=e.shape;obtain⟨ak,G⟩:=q.ti;obtain⟨ao,K⟩:=q.tv;have s:E (U wr)<=E (U w'):=lT sQ e.grown.size;have z:∀a,a<E (U wr)->(Value.slice vo (O vs) vc).ownBlock≠some a->w'.heap[a]? =wr.heap[a]? :=λa b A=>(e.grown.block a (by simp;omega) (λd=>A d.symm)).trans (Below.heap_alloc _ _ _ b);have L:al (λa=>TQ w S0 (J io (O ts) ic) (J vo (O vs) vc) a/\a<E (U wr)) wr w':=λa b m=>z a m b.1.2.2
 have ap:∀a,TQ w S0 (J io (O ts) ic) (J vo (O vs) vc) a/\a<E (U wr)->TQ w S0 (J io (O ts) ic) (J k (O vs+1) l) a:=by
  rintro a ⟨⟨o,t,aq⟩,m⟩;refine⟨o,t,?_⟩;rcases e.own with d|d
  ·rw[d];exact aq
  ·rw[d];intro ar;simp at ar;omega
 have p:∀{H:Nat} (x:List Value),af (TQ w S0 (J io (O ts) ic) (J vo (O vs) vc)) (Gd D) H wr x->af (TQ w S0 (J io (O ts) ic) (J k (O vs+1) l)) (Gd D) H w' x/\∀f,aU f w' x=aU f wr x:=by
  intro H x c;have o:=af.weaken (S':=λa=>TQ w S0 (J io (O ts) ic) (J vo (O vs) vc) a/\a<E (U wr)) (λa b m=>⟨b,m⟩) _ _ c;exact⟨af.weaken (λa b _=>ap a b) _ _ (af.frame L s _ _ o),λf=>aJ L s _ _ o f⟩
 have u:O (vs++[(gO i j kind n (J aw ln lc) (J aao an ac)).toList])=O vs+1:=sQ;have M:=p _ r;refine⟨_,w',aj,k,l,Q,⟨ag q.ri (λa b m=>z a m (λd=>q.sep a b d)),?_,?_,⟨ak,?_⟩,⟨max H ao,?_⟩,?_,?_,q.s0,lT ah s⟩,⟨e.grown.os,e.grown.tape,e.grown.output,s,λa b A=>z a b A⟩⟩
 ·rw[u];have:=e.row;simpa using this
 ·intro a b v;rw[u] at v;have av:=(q.ri.lt a b).2;rcases e.own with d|d
  ·exact q.sep a b (by rw[<-d];exact v)
  ·rw[d] at v;simp at v;omega
 ·intro x c;rw[u];exact(p x (G x c)).1
 ·intro x c;rw[u];rcases List.mem_append.1 c with c|c
  ·obtain⟨i,j,N,P,R,T,V,X,Z,aa,rfl,B⟩:=K x c;exact eo.le ⟨i,j,N,P,R,T,V,X,Z,aa,Q,(p _ B).1⟩ (Nat.le_max_right _ _)
  ·rw[List.mem_singleton.1 c];exact eo.le ⟨_,_,_,_,_,_,_,_,_,_,Q,M.1⟩ (Nat.le_max_left _ _)
 ·intro f;rw[List.map_congr_left (λx c=>(p x (G x c)).2 f)];exact q.si f
 ·intro f
  rw[List.map_append,List.sum_append,List.map_congr_left (g:=λx=>aU f wr (x.drop 2)) (λx c=>by
   obtain⟨i,j,N,P,R,T,V,X,Z,aa,rfl,B⟩:=K x c;exact(p _ B).2 f)]
  have o:=q.sv f;have t:=ab f;rw[<-M.2 f] at t;exact Nat.add_le_add o (show aU f w' _+0<=Y from t)
end
end
section
variable{nd:Array Value} {K:CK} {a fa fk how k kind lv n next o0 o1 one:Int} {M:MK} {H Xi Xv Y ac ad an b cb ic lc ln mb vc:Nat} {S0:Nat->Prop} {aao io aw vo:OA} {ts vs:VV} {w w' wr:World}
theorem KT.kx (l:bP w cb K how next one fk fa) (m:cF w mb M) (o:KX (λb=>b=cb\/b=mb) (E (U w)) w w'):KT (λe=>e≠126/\e≠88) w w':=λb c e q d j=>o.block b (gE d).1 (λp=>by
 rcases p with rfl|rfl
 ·have f:w.heap[b]? =some (Ob (dL K how next one fk fa) 126 (0,0)):=l;rw[f] at d;have:=Option.some.inj d;injection this with _ i
  exact j.1 i.symm
 ·have f:w.heap[b]? =some (Ob (jO M) 88 (0,0)):=m;rw[f] at d;have:=Option.some.inj d;injection this with _ i
  exact j.2 i.symm)
theorem Cx.kC {T:Nat} {j l:Nat} (h:Cx w cb K M T S0 j l) (p:bP w cb K how next one fk fa) (q:cF w mb M) (hK:K.mb=mb) (hS:∀b,S0 b->b≠mb) (f:KX (λb=>b=cb\/b=mb) (E (U w)) w w') (r:cF w' mb (M.bt k a)):Cx w' cb K (M.bt k a) T S0 j l:=by
 have i:=KT.kx p q f;have m:al S0 w w':=λb o s=>f.block b s (λd=>by rcases d with d|d;exact h.s0 b o d;exact hS b o d);have e:=h.pi;refine⟨ah h.lv i dC,h.lf,ah h.tv i dC,h.tf,?_,h.mod,af.frame m f.size _ _ h.self,h.s0,λt=>by rw[aJ m f.size _ _ h.self];exact h.sz t,h.z1⟩;rw[hK];exact⟨r,e.cK.kt i dC dC,e.q,ah e.cu i dC,e.bB,e.lg⟩
abbrev aF:Value:=J I 0 0
abbrev wu:Array Value:=#[vN 0,J I 0 0,J I 0 0,J I 0 0,vN 0,vN 0,J I 0 0,J I 0 0]
def fh (w:World) (b:Nat) (c:Array Value):Prop:=w.heap[b]? =some (Ob c 54 (0,0))
section
variable{w w':World} {b:Nat} {c:Array Value}
theorem fh.cell (h:fh w b c) (o:Nat):w.cell? ⟨b,o,I⟩=c[o]? :=cell_of_row w b o c 54 (0,0) h
theorem fh.fz (h:fh w b c) (o:Nat):w.frozen? ⟨b,o,I⟩=false:=frozen_of_row w b o c 54 h
theorem fh.lt (h:fh w b c):b<E (U w):=(gE h).1
theorem fh.set (h:fh w b c) (o:Nat) (u:Value):fh (w.setCell ⟨b,o,I⟩ u) b (c.setIfInBounds o u):=heap_setCell_same w b o c 54 u h
end
abbrev mq (w:World) (b:Nat) (c0 c1 c2 c3 c4 c5 c6 c7:Value):World:=(((((((w.setCell ⟨b,0,I⟩ c0).setCell ⟨b,1,I⟩ c1).setCell ⟨b,2,I⟩ c2).setCell ⟨b,3,I⟩ c3).setCell ⟨b,4,I⟩ c4).setCell ⟨b,5,I⟩ c5).setCell ⟨b,6,I⟩ c6).setCell ⟨b,7,I⟩ c7
theorem fh.mq {s r p m j f e d:Value} (h:fh w b #[s,r,p,m,j,f,e,d]) (c0 c1 c2 c3 i l o q:Value):fh (Go.Proofs.YtcnnibahjmekdaaGreat.mq w b c0 c1 c2 c3 i l o q) b #[c0,c1,c2,c3,i,l,o,q]:=by
 have t:fh (w.setCell ⟨b,0,I⟩ c0) b #[c0,r,p,m,j,f,e,d]:=h.set 0 c0;have u:fh _ b #[c0,c1,p,m,j,f,e,d]:=t.set 1 c1;have v:fh _ b #[c0,c1,c2,m,j,f,e,d]:=u.set 2 c2;have x:fh _ b #[c0,c1,c2,c3,j,f,e,d]:=v.set 3 c3;have y:fh _ b #[c0,c1,c2,c3,i,f,e,d]:=x.set 4 i;have z:fh _ b #[c0,c1,c2,c3,i,l,e,d]:=y.set 5 l;have A:fh _ b #[c0,c1,c2,c3,i,l,o,d]:=z.set 6 o;exact A.set 7 q
theorem rG (w:World) {z:Nat} (d:b≠z) (c0 c1 c2 c3 e f i j:Value):(Go.Proofs.YtcnnibahjmekdaaGreat.mq w z c0 c1 c2 c3 e f i j).heap[b]? =w.heap[b]? :=
 (Below.heap_setCell _ ⟨z,7,I⟩ _ _ d).trans ((Below.heap_setCell _ ⟨z,6,I⟩ _ _ d).trans ((Below.heap_setCell _ ⟨z,5,I⟩ _ _ d).trans ((Below.heap_setCell _ ⟨z,4,I⟩ _ _ d).trans ((Below.heap_setCell _ ⟨z,3,I⟩ _ _ d).trans ((Below.heap_setCell _ ⟨z,2,I⟩ _ _ d).trans ((Below.heap_setCell _ ⟨z,1,I⟩ _ _ d).trans (Below.heap_setCell _ ⟨z,0,I⟩ _ _ d)))))))
theorem KX.mq {X:Nat->Prop} {e:Nat} {a:World} (h:KX X e a w) (d:e<=b\/X b) (c0 c1 c2 c3 f i j l:Value):KX X e a (Go.Proofs.YtcnnibahjmekdaaGreat.mq w b c0 c1 c2 c3 f i j l):=
 KX.setCell (p:=⟨b,7,I⟩) (KX.setCell (p:=⟨b,6,I⟩) (KX.setCell (p:=⟨b,5,I⟩) (KX.setCell (p:=⟨b,4,I⟩) (KX.setCell (p:=⟨b,3,I⟩) (KX.setCell (p:=⟨b,2,I⟩) (KX.setCell (p:=⟨b,1,I⟩) (KX.setCell (p:=⟨b,0,I⟩) h d _) d _) d _) d _) d _) d _) d _) d _
theorem o9 {e:Func} {r s:Nat} (m:e.results=#[.cell r 54,.tmp s]) {d:Array Value} (o:d.getD r undef=.pointer (aS b)) {u:Value} (p:d.getD s undef=u) {W:World} {c0 c1 c2 c3 f i j l:Value} (q:fh W b #[c0,c1,c2,c3,f,i,j,l]):
 (results e d).run Tryz.prog W=.ok (.tuple #[.agg #[c0,c1,c2,c3,f,i,j,l],u]) W:=by
 have t:=q.cell;have v:d[r]?.getD undef=.pointer (aS b):=sU o;have x:d[s]?.getD undef=u:=sU p;simp[results,m,v,x,go_sem,t]
structure gP (w:World) (mb cb:Nat) (M:MK) (K:CK) (how one:Int) (nd:Array Value) (S0:Nat->Prop) (D:Nat) (wr:World) (next fk fa k a lv o0 o1:Int) (o2 o3:Value) (io:OA) (ic:Nat) (ts:VV) (vo:OA) (vc:Nat) (vs:VV) (Xi Xv:Nat):Prop where
 kx:KX (λb=>b=cb\/b=mb) (E (U w)) w wr
 c:bP wr cb K how next one fk fa
 m:cF wr mb (M.bt k a)
 eS:cb<E (U w)
 gK:mb<E (U w)
 ne:mb≠cb
 nb:wr.heap[E (U w)]? =some (Ob nd 46 (0,0))
 zb:fh wr (E (U w)+1) wu
 sb:fh wr (E (U w)+2) (eV lv aF aF io (O ts) ic (vN o0) (vN o1) o2 o3)
 L:oF w cb mb S0 D wr io ic ts vo vc vs Xi Xv
 hf:M.fk≠0->k=M.fk
section
variable{w wr w':World} {mb cb:Nat} {M:MK} {K:CK} {how one:Int} {nd:Array Value} {S0:Nat->Prop} {D:Nat} {next fk fa k a lv o0 o1:Int} {o2 o3:Value} {io:OA} {ic:Nat} {ts:VV} {vo:OA} {vc:Nat} {vs:VV} {Xi Xv:Nat} {next' fk' fa' k' a':Int}
theorem gP.lw (q:gP w mb cb M K how one nd S0 D wr next fk fa k a lv o0 o1 o2 o3 io ic ts vo vc vs Xi Xv):E (U w)+2<E (U wr):=q.sb.lt
theorem gP.conv (q:gP w mb cb M K how one nd S0 D wr next fk fa k a lv o0 o1 o2 o3 io ic ts vo vc vs Xi Xv) (d:Kp (E (U wr)) cb wr w') (j:bP w' cb K how next' one fk' fa'):gP w mb cb M K how one nd S0 D w' next' fk' fa' k a lv o0 o1 o2 o3 io ic ts vo vc vs Xi Xv:=by
 have m:=q.lw;have e:=q.gK;have f:=q.eS;have i:=q.ne;exact⟨q.kx.trans ((KX.cN d (.inl Q)).mono (λ_ _ h=>h) oM),j,(d.block _ oM i).trans q.m,f,e,i,(d.block _ oM oM).trans q.nb,(d.block _ oM oM).trans q.zb,(d.block _ oM oM).trans q.sb,q.L.step (X:=λb=>b=cb) (KX.cN d Q) (λb l=>.inl l) f e,q.hf⟩
theorem gP.mk' (q:gP w mb cb M K how one nd S0 D wr next fk fa k a lv o0 o1 o2 o3 io ic ts vo vc vs Xi Xv) (d:Kp (E (U wr)) mb wr w') (l:cF w' mb ((M.bt k a).bt k' a')) (m:(M.bt k a).fk≠0->k'=(M.bt k a).fk):gP w mb cb M K how one nd S0 D w' next fk fa k' a' lv o0 o1 o2 o3 io ic ts vo vc vs Xi Xv:=by
 have o:=q.lw;have f:=q.gK;have i:=q.eS;have j:=q.ne;exact⟨q.kx.trans ((KX.cN d (.inr Q)).mono (λ_ _ h=>h) oM),(d.block _ oM (λe=>j e.symm)).trans q.c,l,i,f,j,(d.block _ oM oM).trans q.nb,(d.block _ oM oM).trans q.zb,(d.block _ oM oM).trans q.sb,q.L.step (X:=λb=>b=mb) (KX.cN d Q) (λb e=>.inr (.inl e)) i f,λh=>by have e:=q.hf h;have:=m (by show k≠0;rw[e];exact h);rw[this];exact e⟩
theorem gP.below (q:gP w mb cb M K how one nd S0 D wr next fk fa k a lv o0 o1 o2 o3 io ic ts vo vc vs Xi Xv) (d:Below (E (U wr)) wr w'):gP w mb cb M K how one nd S0 D w' next fk fa k a lv o0 o1 o2 o3 io ic ts vo vc vs Xi Xv:=q.conv (Kp.aq d) (q.c.below d)
theorem gP.kF (q:gP w mb cb M K how one nd S0 D wr next fk fa k a lv o0 o1 o2 o3 io ic ts vo vc vs Xi Xv) (x:Int):gP w mb cb M K x one nd S0 D (wr.setCell ⟨cb,9,I⟩ (vN x)) next fk fa k a lv o0 o1 o2 o3 io ic ts vo vc vs Xi Xv:=by
 have m:=q.lw;have e:=q.gK;have f:=q.eS;have i:=q.ne;have d:∀b,b≠cb->(wr.setCell ⟨cb,9,I⟩ (vN x)).heap[b]? =wr.heap[b]? :=λb j=>Below.heap_setCell _ ⟨cb,9,I⟩ _ _ j;exact⟨q.kx.setCell (p:=⟨cb,9,I⟩) (.inr (.inl Q)) _,q.c.qY x,(d _ i).trans q.m,f,e,i,(d _ oM).trans q.nb,(d _ oM).trans q.zb,(d _ oM).trans q.sb,q.L.step (X:=λb=>b=cb) ((KX.refl (λb=>b=cb) _ _).setCell (p:=⟨cb,9,I⟩) (.inr Q) _) (λb l=>.inl l) f e,q.hf⟩
theorem gP.wA (q:gP w mb cb M K how one nd S0 D wr next fk fa k a lv o0 o1 o2 o3 io ic ts vo vc vs Xi Xv) (x:Int):gP w mb cb M K how x nd S0 D (wr.setCell ⟨cb,11,I⟩ (vN x)) next fk fa k a lv o0 o1 o2 o3 io ic ts vo vc vs Xi Xv:=by
 have m:=q.lw;have e:=q.gK;have f:=q.eS;have i:=q.ne;have d:∀b,b≠cb->(wr.setCell ⟨cb,11,I⟩ (vN x)).heap[b]? =wr.heap[b]? :=λb j=>Below.heap_setCell _ ⟨cb,11,I⟩ _ _ j;exact⟨q.kx.setCell (p:=⟨cb,11,I⟩) (.inr (.inl Q)) _,q.c.y9 x,(d _ i).trans q.m,f,e,i,(d _ oM).trans q.nb,(d _ oM).trans q.zb,(d _ oM).trans q.sb,q.L.step (X:=λb=>b=cb) ((KX.refl (λb=>b=cb) _ _).setCell (p:=⟨cb,11,I⟩) (.inr Q) _) (λb l=>.inl l) f e,q.hf⟩
theorem gP.sG (q:gP w mb cb M K how one nd S0 D wr next fk fa k a lv o0 o1 o2 o3 io ic ts vo vc vs Xi Xv) {lv' o0' o1':Int} {o2' o3':Value} (o:Nat) (u:Value) (h:fh (wr.setCell ⟨E (U w)+2,o,I⟩ u) (E (U w)+2) (eV lv' aF aF io (O ts) ic (vN o0') (vN o1') o2' o3')):gP w mb cb M K how one nd S0 D (wr.setCell ⟨E (U w)+2,o,I⟩ u) next fk fa k a lv' o0' o1' o2' o3' io ic ts vo vc vs Xi Xv:=by
 have j:=q.lw;have e:=q.gK;have f:=q.eS;have d:∀b,b≠E (U w)+2->(wr.setCell ⟨E (U w)+2,o,I⟩ u).heap[b]? =wr.heap[b]? :=λb i=>Below.heap_setCell _ ⟨E (U w)+2,o,I⟩ _ _ i;exact⟨q.kx.setCell (p:=⟨E (U w)+2,o,I⟩) (.inl (by show E (U w)<=E (U w)+2;omega)) _,(d _ oM).trans q.c,(d _ oM).trans q.m,f,e,q.ne,(d _ oM).trans q.nb,(d _ oM).trans q.zb,h,q.L.step (X:=λb=>b=E (U w)+2) ((KX.refl (λb=>b=E (U w)+2) _ _).setCell (p:=⟨E (U w)+2,o,I⟩) (.inr Q) _) (λb l=>.inr (.inr oM)) f e,q.hf⟩
theorem gP.xu (q:gP w mb cb M K how one nd S0 D wr next fk fa k a lv o0 o1 o2 o3 io ic ts vo vc vs Xi Xv) (z:af (TQ w S0 (J io (O ts) ic) (J vo (O vs) vc)) (Gd D) H wr (ai kind n (J aw ln lc) (J aao an ac)).toList) (A:∀f,aU f wr (ai kind n (J aw ln lc) (J aao an ac)).toList<=Y) (B:O ts<=30000) (s:TypeId) (C:ad=E (U wr)):
 ∃o w',(Builtin.append_ #[36,36] s #[J io (O ts) ic,J (some ⟨ad,0,I⟩) 1 1]).run Tryz.prog (wr.alloc (Ob (ai kind n (J aw ln lc) (J aao an ac)) 39))=.ok o w'/\∃d e,o=J d (O ts+1) e/\fh w' (E (U w)+2) (eV lv aF aF io (O ts) ic (.int .i64 o0) (.int .i64 o1) o2 o3)/\gP w mb cb M K how one nd S0 D (w'.setCell ⟨E (U w)+2,3,I⟩ (J d (O ts+1) e)) next fk fa k a lv o0 o1 o2 o3 d e (ts++[(ai kind n (J aw ln lc) (J aao an ac)).toList]) vo vc vs (Xi+Y) Xv/\af (TQ w S0 (J d (O (ts++[(ai kind n (J aw ln lc) (J aao an ac)).toList])) e) (J vo (O vs) vc)) (Gd D) H (w'.setCell ⟨E (U w)+2,3,I⟩ (J d (O ts+1) e)) (ai kind n (J aw ln lc) (J aao an ac)).toList/\(∀f,aU f (w'.setCell ⟨E (U w)+2,3,I⟩ (J d (O ts+1) e)) (ai kind n (J aw ln lc) (J aao an ac)).toList<=Y)/\KX (λb=>(Value.slice io (O ts) ic).ownBlock=some b) (E (U wr)) wr w':=by
 have N:=q.lw;have t:=q.gK;have u:=q.eS;obtain⟨o,w',F,d,e,r,G,v,L,i⟩:=q.L.xu z A B s C;have j:∀b,b<E (U w)+3->w'.heap[b]? =wr.heap[b]? :=λb m=>i.block b oM (λr=>oH (q.L.ri.lt b r).1);have hS:fh w' (E (U w)+2) (eV lv aF aF io (O ts) ic (vN o0) (vN o1) o2 o3):=(j _ oM).trans q.sb;have l:∀b,b≠E (U w)+2->(w'.setCell ⟨E (U w)+2,3,I⟩ (J d (O ts+1) e)).heap[b]? =w'.heap[b]? :=λb m=>Below.heap_setCell _ ⟨E (U w)+2,3,I⟩ _ _ m;have x:O (ts++[(ai kind n (J aw ln lc) (J aao an ac)).toList])=O ts+1:=sQ
 have y:al (TQ w S0 (J d (O ts+1) e) (J vo (O vs) vc)) w' (w'.setCell ⟨E (U w)+2,3,I⟩ (J d (O ts+1) e)):=λb m _=>l b (by
  rcases m.1 with h|h
  ·have:=(q.L.s0 b h).2.2;omega
  ·omega)
 refine⟨o,w',F,d,e,r,hS,⟨?_,(l _ oM).trans ((j _ oM).trans q.c),(l _ oM).trans ((j _ oM).trans q.m),u,t,q.ne,(l _ oM).trans ((j _ oM).trans q.nb),(l _ oM).trans ((j _ oM).trans q.zb),?_,G.step (X:=λb=>b=E (U w)+2) ((KX.refl (λb=>b=E (U w)+2) _ _).setCell (p:=⟨E (U w)+2,3,I⟩) (.inr Q) _) (λb r=>.inr (.inr oM)) u t,q.hf⟩,by rw[x];exact af.frame y sQ _ _ v,λf=>by rw[aJ y sQ _ _ v];exact L f,i⟩
 ·exact q.kx.trans ⟨i.os,i.tape,i.output,sU i.size,λb m _=>(l b oM).trans (j b oM)⟩
 ·have:=hS.set 3 (J d (O ts+1) e);rw[x];simpa using this
theorem gP.xq (q:gP w mb cb M K how one nd S0 D wr next fk fa k a lv o0 o1 o2 o3 io ic ts vo vc vs Xi Xv) (m:ByteArray) (o:Bool) (s:af (TQ w S0 (J io (O ts) ic) (J vo (O vs) vc)) (Gd D) H wr (ai kind n (J aw ln lc) (J aao an ac)).toList) (t:∀f,aU f wr (ai kind n (J aw ln lc) (J aao an ac)).toList<=Y) (u:O vs<=30000) (r:TypeId) (v:ad=E (U wr)):
 ∃i w',(Builtin.append_ #[55,55] r #[J vo (O vs) vc,J (aS ad) 1 1]).run Tryz.prog (wr.alloc (Ob (gO m o kind n (J aw ln lc) (J aao an ac)) 61))=.ok i w'/\∃j l,i=J j (O vs+1) l/\gP w mb cb M K how one nd S0 D w' next fk fa k a lv o0 o1 o2 o3 io ic ts j l (vs++[(gO m o kind n (J aw ln lc) (J aao an ac)).toList]) Xi (Xv+Y):=by
 have C:=q.lw;have x:=q.gK;have y:=q.eS;obtain⟨i,w',z,j,l,p,A,e⟩:=q.L.xq m o s t u r v;have d:∀b,b<E (U w)+3->w'.heap[b]? =wr.heap[b]? :=λb B=>e.block b oM (λp=>oH (q.L.rv.lt b p).1);exact⟨i,w',z,j,l,p,⟨q.kx.trans ⟨e.os,e.tape,e.output,e.size,λb B _=>d b oM⟩,(d _ oM).trans q.c,(d _ oM).trans q.m,y,x,q.ne,(d _ oM).trans q.nb,(d _ oM).trans q.zb,(d _ oM).trans q.sb,A,q.hf⟩⟩
end
structure zD (w:World) (S0:Nat->Prop) (D H:Nat) (w':World) (io:OA) (ic:Nat) (ts:VV) (vo:OA) (vc:Nat) (vs:VV) (out:List Value) (X:Nat):Prop where
 ri:ro w' (λb=>S0 b\/E (U w)<=b) 4 (J io (O ts) ic) (O ts) ts.flatten
 rv:ro w' (λb=>S0 b\/E (U w)<=b) 6 (J vo (O vs) vc) (O vs) vs.flatten
 ti:∀x∈ts,af (λb=>S0 b\/E (U w)<=b) (Gd D) H w' x
 tv:∀x∈vs,eo (λb=>S0 b\/E (U w)<=b) D H w' x
 lH:af (λb=>S0 b\/E (U w)<=b) (Gd D) H w' out
 si:∀f,(ts.map (aU f w')).sum<=X
 sv:∀f,(vs.map (λx=>aU f w' (x.drop 2))).sum<=X
 so:∀f,aU f w' out<=X
 li:O ts<=30000
 lv:O vs<=30000
def fV (w:World) (mb cb:Nat) (M:MK) (K:CK) (S0:Nat->Prop) (X n:Nat) (e:Ending) (w':World):Prop:=
 ∃(lv:Int) (io:OA) (ic:Nat) (ts:VV) (vo:OA) (vc:Nat) (vs:VV) (o0 o1:Int) (l2:OA) (l3 l4:Nat) (l5:OA) (l6 l7:Nat) (how next one fk fa k a:Int) (H:Nat),e=.returned (.tuple #[.agg (eV lv aF aF io (O ts) ic (vN o0) (vN o1) (J l2 l3 l4) (J l5 l6 l7)),J vo (O vs) vc])/\bP w' cb K how next one fk fa/\cF w' mb (M.bt k a)/\(M.fk≠0->k=M.fk)/\KX (λb=>b=cb\/b=mb) (E (U w)) w w'/\zD w S0 (O M.ds) H w' io ic ts vo vc vs (ai o0 o1 (J l2 l3 l4) (J l5 l6 l7)).toList X/\(k=0->O ts=n)
theorem gP.ret {m:OA} {o p:Nat} {r:OA} {s t:Nat} {X n:Nat} (q:gP w mb cb M K how one nd S0 (O M.ds) wr next fk fa k a lv o0 o1 (J m o p) (J r s t) io ic ts vo vc vs Xi Xv) (B:af (λb=>S0 b\/E (U w)+3<=b) (Gd (O M.ds)) H wr (ai o0 o1 (J m o p) (J r s t)).toList) (N:∀f,aU f wr (ai o0 o1 (J m o p) (J r s t)).toList<=X) (P:Xi<=X) (R:Xv<=X) (hl:O ts<=30000) (S:O vs<=30000) (T:k=0->O ts=n) {v:Act} (V:v.defers=[]) (W:v.tmps.getD 6 undef=.pointer (some ⟨E (U w)+1,0,I⟩)) (Z:v.tmps.getD 7 undef=J vo (O vs) vc):
 bodyPost Tryz.prog Tryz.f53 (fV w mb cb M K S0 X n) .ret v (mq wr (E (U w)+1) (vN lv) aF aF (J io (O ts) ic) (vN o0) (vN o1) (J m o p) (J r s t)):=by
 have ag:=q.lw;have ah:=q.gK;have aj:=q.eS;obtain⟨u,x⟩:∃u,u=mq wr (E (U w)+1) (vN lv) aF aF (J io (O ts) ic) (vN o0) (vN o1) (J m o p) (J r s t):=⟨_,Q⟩;have z:∀b,b≠E (U w)+1->u.heap[b]? =wr.heap[b]? :=λb d=>by rw[x];exact rG _ d _ _ _ _ _ _ _ _
 have A:KX (λb=>b=E (U w)+1) (E (U wr)) wr u:=by rw[x];exact KX.mq (KX.refl (λb=>b=E (U w)+1) _ _) (.inr Q) _ _ _ _ _ _ _ _
 have aa:fh u (E (U w)+1) (eV lv aF aF io (O ts) ic (vN o0) (vN o1) (J m o p) (J r s t)):=by rw[x];exact fh.mq q.zb _ _ _ _ _ _ _ _
 have j:=A.size;suffices hh:bodyPost Tryz.prog Tryz.f53 (fV w mb cb M K S0 X n) .ret v u by rw[x] at hh;exact hh
 clear x;have l:al (λb=>S0 b\/E (U w)+3<=b) wr u:=λb d _=>z b (by rcases d with h|h;have:=(q.L.s0 b h).2.2;omega;omega);have y:∀b,(S0 b\/E (U w)+3<=b)->(S0 b\/E (U w)<=b):=λb d=>d.imp (λe=>e) (λe=>by omega);obtain⟨C,ab⟩:=q.L.ti;obtain⟨F,ae⟩:=q.L.tv;have G:∀e∈ts,af (λb=>S0 b\/E (U w)+3<=b) (Gd (O M.ds)) C wr e:=λe i=>af.weaken (λb d _=>d.1) _ _ (ab e i);have L:∀e∈vs,eo (λb=>S0 b\/E (U w)+3<=b) (O M.ds) F wr e:=λe i=>(ae e i).weaken (λb d _=>d.1);refine bodyPost_ret (o9 Tryz.results53 W Z aa) V ⟨lv,io,ic,ts,vo,vc,vs,o0,o1,m,o,p,r,s,t,how,next,one,fk,fa,k,a,max H (max C F),Q,(z _ oM).trans q.c,(z _ oM).trans q.m,q.hf,q.kx.trans ⟨A.os,A.tape,A.output,j,λb d _=>z b oM⟩,⟨?_,?_,λe i=>af.le (af.weaken (λb d _=>y b d) _ _ (af.frame l j _ _ (G e i))) _ oM,λe i=>((((L e i).frame l j).1).weaken (λb d _=>y b d)).le oM,af.le (af.weaken (λb d _=>y b d) _ _ (af.frame l j _ _ B)) _ oM,λf=>?_,λf=>?_,λf=>by rw[aJ l j _ _ B];exact N f,hl,S⟩,T⟩
 ·exact((ro.bJ q.L.ri (λb d=>(.inr (q.L.ri.lt b d).1:S0 b\/E (U w)+3<=b))).frame l j).weaken (λb d _=>y b d)
 ·exact((ro.bJ q.L.rv (λb d=>(.inr (q.L.rv.lt b d).1:S0 b\/E (U w)+3<=b))).frame l j).weaken (λb d _=>y b d)
 ·rw[List.map_congr_left (λe i=>aJ l j _ _ (G e i) f)];exact lT (q.L.si f) P
 ·rw[List.map_congr_left (λe i=>((L e i).frame l j).2 f)];exact lT (q.L.sv f) R
end
section
variable{name:ByteArray} {K:CK} {fa fk how k m n next one pos:Int} {M:MK} {B0 D Xi Xv cb h ic kc mb vc:Nat} {S0:Nat->Prop} {io ko vo:OA} {ts vs:VV} {w wr:World}
structure FK (B0 h:Nat) (w:World) (ko:OA) (kc:Nat) (ks pks:VV) (Y:Nat):Prop where
 len:O pks+2<=O ks
 km:O ks<=20000
 zJ:O ks<=kc
 row:cZ B0 w (J ko (O ks) kc) ks
 rV:∀i,i<O ks->∃g,ko=some ⟨g,0,I⟩
 node:∀x∈ks,isNode (λb=>b<B0) True (h+1) w x
 par:∀idx,idx<O pks->∃g p1 n1 m1 s1 gt c1 k2 p2 n2 m2 s2 o2 l2 c2,ko=some ⟨g,0,I⟩/\g<B0/\gt<B0/\pks[idx]? =some (ae 12 p1 n1 m1 s1 (J (some ⟨gt,0,I⟩) 1 c1)).toList/\(∀j,j<11->w.cell? ⟨g,11+idx*11+j,I⟩=(ae 12 p1 n1 m1 s1 (J (some ⟨gt,0,I⟩) 1 c1)).toList[j]?)/\(∀j,j<11->w.cell? ⟨gt,j,I⟩=(ae k2 p2 n2 m2 s2 (J o2 l2 c2)).toList[j]?)/\isNode (λb=>b<B0) True h w (ae k2 p2 n2 m2 s2 (J o2 l2 c2)).toList/\cH k2/\aG h w (ae k2 p2 n2 m2 s2 (J o2 l2 c2)).toList<=aG (h+1) w (ae 12 p1 n1 m1 s1 (J (some ⟨gt,0,I⟩) 1 c1)).toList
 out:∃g k2 p2 n2 m2 s2 o2 l2 c2,ko=some ⟨g,0,I⟩/\g<B0/\(∀j,j<11->w.cell? ⟨g,(O pks+1)*11+j,I⟩=(ae k2 p2 n2 m2 s2 (J o2 l2 c2)).toList[j]?)/\isNode (λb=>b<B0) True (h+1) w (ae k2 p2 n2 m2 s2 (J o2 l2 c2)).toList/\cH k2/\aG (h+1) w (ae k2 p2 n2 m2 s2 (J o2 l2 c2)).toList<=Y
 sum:(pks.map (aG (h+1) w)).sum<=Y
theorem mf {l:Nat} (h:cH (fL k n l)):cH k:=by
 unfold fL at h;split at h
 ·obtain⟨a,b⟩:=h;omega
 ·split at h
  ·obtain⟨a,b⟩:=h;omega
  ·exact h
theorem ud {kl:Nat} (ar:isNode (λb=>b<B0) True (h+2) w (ae 8 pos n m name (J ko kl kc)).toList):∃c a:VV,kl=O c/\n=(O a:Int)/\FK B0 h w ko kc c a (aG (h+2) w (ae 8 pos n m name (J ko kl kc)).toList):=by
 obtain⟨c,rfl,B,H,au,af,aY,L,av,-⟩:=ar.kids;obtain⟨aw,x,aZ,ax,ay,az,ag,a0⟩:=au.fn Q;obtain⟨ah,a1,aB,a2,aC⟩:=List.map_eq_cons_iff.1 ax;obtain⟨a,a3,aD,ai,aE⟩:=List.map_eq_append_iff.1 aC;obtain⟨f,C,aF,aH,a4⟩:=List.map_eq_cons_iff.1 aE;have N:c=ah::(a++f::C):=by rw[aB,aD,aF]
 have aI:O aw=O a:=by rw[<-ai];simp
 have aj:∀i,c[i+1]? =(a++f::C)[i]? :=λi=>by rw[N];rfl
 have a5:O c=O a+O C+2:=by rw[N];simp;omega
 have a6:(c.map (aG (h+1) w)).sum=aG (h+1) w ah+((a.map (aG (h+1) w)).sum+(aG (h+1) w f+(C.map (aG (h+1) w)).sum)):=by
  rw[N,List.map_cons,List.sum_cons,List.map_append,List.sum_append,List.map_cons,List.sum_cons]
 refine⟨c,a,Q,by rw[<-ay,aI],⟨oM,B.len.2,av,B,L,H,?_,?_,by rw[af];omega⟩⟩
 ·intro F ak;obtain⟨x,P⟩:∃x,a[F]? =some x:=⟨_,gG ak⟩;have j:c[F+1]? =some x:=by rw[aj,List.getElem?_append_left ak];exact P
  have l:=H x (mG j);have o:aA x=12:=az _ (by rw[<-ai];exact List.mem_map_of_mem (mG P));obtain⟨R,S,G,T,V,aJ,al,W,rfl,_⟩:=isNode.cells l;obtain⟨g,X,d,Y,Z⟩:=B.nth j;obtain⟨aK,aa⟩:=L (F+1) oM;have ab:X=0:=by rw[aa] at d;simp at d;exact d.2.symm
  subst ab
  obtain rfl:R=12:=by
   have aL:aA (ae R S G T V (J aJ al W)).toList=fL R G al:=rfl;rw[aL] at o;unfold fL at o;split at o
   ·omega
   ·split at o
    ·omega
    ·exact o
  obtain⟨ao,rfl,aM,aN,aO,aP,-,aQ,-,-⟩:=l.kids;obtain⟨aR,ap,aS⟩:=aO.param Q
  obtain⟨e,rfl⟩:∃e,ao=[e]:=by
   match ao,ap with
   |[e],_=>exact⟨e,Q⟩
  obtain rfl:aA e=aR:=sU ap;have aq:=aN e sQ;obtain⟨p,q,r,s,t,u,v,y,rfl,_⟩:=isNode.cells aq;obtain⟨ac,aT⟩:=aQ 0 sQ;subst aT;obtain⟨aU,aV,ad,aW,aX⟩:=aM.nth (i:=0) (x:=(ae p q r s t (J u v y)).toList) Q;obtain⟨rfl,rfl⟩:ac=aU/\aV=0:=by simp at ad;exact⟨ad.1,ad.2.symm⟩
  refine⟨g,S,G,T,V,ac,W,p,q,r,s,t,u,v,y,d,Y,aW,P,λz A=>?_,λz A=>?_,aq,mf aS,?_⟩
  ·have:=Z z A;rw[Nat.zero_add,Nat.add_mul,Nat.one_mul,Nat.add_comm (F*11) 11] at this;exact this
  ·have:=aX z A;simpa using this
  ·have a7:aG (h+1) w (ae 12 S G T V (J (some ⟨ac,0,I⟩) 1 W)).toList=1+(aG h w (ae p q r s t (J u v y)).toList+0):=aP;omega
 ·have j:c[O a+1]? =some f:=by rw[aj,List.getElem?_append_right (lR _),Nat.sub_self];rfl
  have l:=H f (mG j);obtain⟨p,q,r,s,t,u,v,y,rfl,_⟩:=isNode.cells l;obtain⟨g,X,d,Y,Z⟩:=B.nth j;obtain⟨aK,aa⟩:=L (O a+1) oM;have ab:X=0:=by rw[aa] at d;simp at d;exact d.2.symm
  subst ab;refine⟨g,p,q,r,s,t,u,v,y,d,Y,λz A=>by have:=Z z A;rw[Nat.zero_add] at this;exact this,l,mf (by rw[<-aH] at ag;exact ag),by rw[af];omega⟩
theorem kS {f:List Value->Nat}:∀(b:VV) (a:List Value),a∈b->f a<=(b.map f).sum
 |y::r,a,hx=>by
  rw[List.map_cons,List.sum_cons];rcases List.mem_cons.1 hx with rfl|hx
  ·omega
  ·have:=kS (f:=f) r a hx;omega
theorem oF.same {w':World} (q:oF w cb mb S0 D wr io ic ts vo vc vs Xi Xv) {X:Nat->Prop} {c:Nat} (o:E (U wr)<=c) {d:World} (i:KX X c d w') (e:∀b,X b->b=cb\/b=mb\/(E (U w)<=b/\b<E (U w)+3)) (p:cb<E (U w)) (r:mb<E (U w)):∀b,TQ w S0 (J io (O ts) ic) (J vo (O vs) vc) b->b<c->w'.heap[b]? =d.heap[b]? :=λb j l=>i.block b l (λf=>by
 rcases j.1 with h|h
 ·have s:=q.s0 b h;rcases e b f with a|a|a<;>omega
 ·rcases e b f with a|a|a<;>omega)
theorem gP.xY {c:Array Value} {a lv d e:Int} {f i:Value} {j l:Nat} (q:gP w mb cb M K how one c S0 D wr next fk fa k a lv d e f i io ic ts vo vc vs Xi Xv) (o:Xi<=j) (p:Xv<=l):gP w mb cb M K how one c S0 D wr next fk fa k a lv d e f i io ic ts vo vc vs j l:=
 ⟨q.kx,q.c,q.m,q.eS,q.gK,q.ne,q.nb,q.zb,q.sb,⟨q.L.ri,q.L.rv,q.L.sep,q.L.ti,q.L.tv,λb=>lT (q.L.si b) o,λb=>lT (q.L.sv b) p,q.L.s0,q.L.size⟩,q.hf⟩
theorem sF {T:Nat} {bn l:Nat} (aw:Cx w cb K M T S0 bn l) (a3:bP w cb K how next one fk fa) (bo:cF w mb M) (cp:mb≠cb) (cq:K.mb=mb) (cr:B0<=cb) (d3:B0<=mb) (cs:∀b,S0 b->b≠mb) {ks c:VV} {Y:Nat} (aV:FK B0 h w ko kc ks c Y) (db:6100*(Y*l)<=17592186044416):
 Calls Tryz.prog 53 #[.pointer (aS mb),.agg (ae 8 pos (O c:Int) m name (J ko (O ks) kc)),.pointer (aS cb)] w (fV w mb cb M K (λb=>S0 b/\b<E (U w)) (Y*l) (O c)):=by
 have dc:=bo.lt
 have dd:1<=Y*l:=by
  obtain⟨g,y,F,G,t,L,N,P,u,-,-,-,aE,-,d4⟩:=aV.out;obtain⟨d5,-,-,-,-,d6,-⟩:=aE.kids;have:=aw.z1;have:1*1<=Y*l:=Nat.mul_le_mul oM this;omega
 have de:=a3.lt;have aW:Hid (FK B0 h w ko kc ks c Y):=aV;have aH:Hid (Cx w cb K M T (λb=>S0 b/\b<E (U w)) bn l/\bP w cb K how next one fk fa/\cF w mb M/\∀b,(S0 b/\b<E (U w))->b≠mb):=⟨aw.low,a3,bo,λb f=>cs b f.1⟩;have d7:=aV.km;have d8:=aV.len;have d9:=aV.zJ;obtain⟨g,df⟩:∃g,ko=some ⟨g,0,I⟩:=aV.rV 0 oM;subst df;have aX:E (U (w.setCell ⟨cb,9,I⟩ (vN 0)))=E (U w):=sQ;obtain⟨a8,bF,bG,a9⟩:=np (w.setCell ⟨cb,9,I⟩ (vN 0)) (Ob (ae 8 pos (O c:Int) m name (J (aS g) (O ks) kc)) 46) (Ob wu 54) (Ob wu 54);have dg:E (U ((((w.setCell ⟨cb,9,I⟩ (vN 0)).alloc (Ob (ae 8 pos (O c:Int) m name (J (aS g) (O ks) kc)) 46)).alloc (Ob wu 54)).alloc (Ob wu 54)))=E (U w)+3:=sQ;have ct:cF (w.setCell ⟨cb,9,I⟩ (vN 0)) mb M:=(Below.heap_setCell _ ⟨cb,9,I⟩ _ _ cp).trans bo
 have cu:gP w mb cb M K 0 one (ae 8 pos (O c:Int) m name (J (aS g) (O ks) kc)) (λb=>S0 b/\b<E (U w)) (O M.ds) ((((w.setCell ⟨cb,9,I⟩ (vN 0)).alloc (Ob (ae 8 pos (O c:Int) m name (J (aS g) (O ks) kc)) 46)).alloc (Ob wu 54)).alloc (Ob wu 54)) next fk fa M.fk M.fa 0 0 0 aF aF I 0 [] I 0 [] 0 0:=by
  have u:=(a3.qY 0).below a8;have t:=ct.below a8;rw[aX] at a8 bF bG a9;exact⟨((KX.refl _ _ _).setCell (p:=⟨cb,9,I⟩) (.inr (.inl Q)) _).trans (KX.aq a8),u,t,de,dc,cp,bF,bG,a9,oF.nil _ _ oM (λb f=>⟨aw.s0 b f.1,cs b f.1,f.2⟩),λ_=>rfl⟩
 have aB:=a3.cell;have aC:=a3.fz;clear a8 bF bG a9 aw a3 bo aV dg ct aX;have dh:cb<E (U w)+1:=oM;have dj:cb<E (U w)+1+1:=oM;have dk:(0:Int)<=(O c:Int):=oM;have dl:(1:Int)+(O c:Int)<=(kc:Int):=oM;have dm:(O c:Int)+1<=(kc:Int):=oM;go_enter Tryz.func53,Tryz.ntmps53
 go_wp2_with fail;rw[show 1+O c - 1=O c from by omega];clear aB aC dh dj dk dl dm;go_loopg [9,11,13,14,26] (O c) (λbH dn _ _ _ bI wr=>∃(i:Nat) (next fk fa k aI:Int) (io:OA) (ic:Nat) (ts:VV) (vo:OA) (vc:Nat) (vs:VV),bH=O c - i/\bI=.int .i64 i/\dn=J vo (O vs) vc/\i<=O c/\O ts=i/\O vs=i/\gP w mb cb M K 0 one (ae 8 pos (O c:Int) m name (J (some ⟨g,0,I⟩) (O ks) kc)) (λb=>S0 b/\b<E (U w)) (O M.ds) wr next fk fa k aI 0 0 0 aF aF io ic ts vo vc vs (((c.take i).map (aG (h+1) w)).sum*l) (((c.take i).map (aG (h+1) w)).sum*l))
 case atStart=>exact⟨0,next,fk,fa,M.fk,M.fa,I,0,[],I,0,[],Q,Q,Q,zL _,Q,Q,sU cu⟩
 case round=>
  clear cu;obtain⟨i,next,fk,fa,k,aI,io,ic,ts,vo,vc,vs,a',rfl,rfl,d',cv,cw,a⟩:=hrel;have dp:Hid (gk=O c - i):=a';have bJ:Hid (O ts=i/\O vs=i):=⟨cv,cw⟩;have bp:O ts<=30000:=oM;have bK:O vs<=30000:=oM;clear a' cv cw;by_cases cx:i<O c
  ·have cy:(i:Int)<(O c:Int):=oM;obtain⟨bL,ag,ah,V,W,q,aj,y,F,G,t,L,N,P,u,ba,bM,dq,cz,bb,cA,aE,bq,bc⟩:=aW.out.par i cx;obtain rfl:g=bL:=sU ba;have aY:∀b,b<B0->¬(b=cb\/b=mb):=λb f=>oM;have d:∀e,e<11->wr.cell? ⟨g,11+i*11+e,I⟩=(ae 12 ag ah V W (J (aS q) 1 aj)).toList[e]? :=λe aZ=>(a.kx.cell (p:=⟨g,11+i*11+e,I⟩) (by show g<_;omega) (aY g bM)).trans (bb e aZ);have aX:=d 0 dC;have cB:=d 1 dC;have cC:=d 2 dC;have cD:=d 3 dC;have cE:=d 4 dC;have cG:=d 5 dC;have dr:=d 6 dC;have ds:=d 7 dC;have dt:=d 8 dC;have du:=d 9 dC;have dv:=d 10 dC;simp only[Nat.add_zero] at aX;have bO:g<E (U wr):=oH a.kx.size;have a4:Hid (c[i]? =some (ae 12 ag ah V W (J (some ⟨q,0,I⟩) 1 aj)).toList/\(∀e,e<11->w.cell? ⟨q,e,I⟩=(ae y F G t L (J N P u)).toList[e]?)/\isNode (λb=>b<B0) True h w (ae y F G t L (J N P u)).toList/\cH y/\aG h w (ae y F G t L (J N P u)).toList<=aG (h+1) w (ae 12 ag ah V W (J (some ⟨q,0,I⟩) 1 aj)).toList):=⟨cz,cA,aE,bq,bc⟩;clear bb cA d ba cz aE bq bc;have cI:=a.below (al1 wr (Ob (ae 12 ag ah V W (J (aS q) 1 aj)) 46)).1;obtain⟨j,bd⟩:∃j,j=E (U wr):=⟨_,Q⟩;have cJ:(wr.alloc (Ob (ae 12 ag ah V W (J (aS q) 1 aj)) 46)).heap[j]? =some (Ob (ae 12 ag ah V W (J (aS q) 1 aj)) 46 (0,0)):=by rw[bd];exact(al1 wr (Ob (ae 12 ag ah V W (J (aS q) 1 aj)) 46)).2
   have bQ:Hid (∀b,(Value.slice io (O ts) ic).ownBlock=some b\/(Value.slice vo (O vs) vc).ownBlock=some b->b<j):=λb f=>by
    rw[bd];rcases f with f|f
    ·exact(a.L.ri.lt b f).2
    ·exact(a.L.rv.lt b f).2
   have ea:E (U w)+2<j:=by rw[bd];exact a.lw
   go_wp2_with fail;rw[<-bd];clear bd bO aX cB cC cD cE cG dr ds dt du dv a;go_loopg [13,32] (O vs) (λbH _ bI cK=>∃(e:Nat) (k aI:Int),bH=O vs - e/\bI=.int .i64 e/\e<=O vs/\gP w mb cb M K 0 one (ae 8 pos (O c:Int) m name (J (some ⟨g,0,I⟩) (O ks) kc)) (λb=>S0 b/\b<E (U w)) (O M.ds) cK next fk fa k aI 0 0 0 aF aF io ic ts vo vc vs (((c.take i).map (aG (h+1) w)).sum*l) (((c.take i).map (aG (h+1) w)).sum*l)/\cK.heap[j]? =some (Ob (ae 12 ag ah V W (J (some ⟨q,0,I⟩) 1 aj)) 46 (0,0)))
   case atStart=>exact⟨0,k,aI,Q,Q,zL _,cI,cJ⟩
   case round=>
    clear cI cJ;obtain⟨e,k,aI,a',rfl,aZ,a,bf⟩:=hrel;have dw:Hid (gk=O vs - e):=a';clear a';have br:=λr=>cell_of_row wr _ r _ 46 (0,0) bf;have a0:j<E (U wr):=(gE bf).1;by_cases bR:e<O vs
    ·have cL:(e:Int)<(O vs:Int):=oM;obtain⟨bS,bT⟩:∃bS,vs[e]? =some bS:=⟨_,gG bR⟩;obtain⟨eb,bU⟩:=a.L.tv;obtain⟨bV,bW,bX,bZ,b0,b1,b2,b3,b4,b5,rfl,-⟩:=bU bS (mG bT);obtain⟨dx,dy,cM,ec,-,a1⟩:=aL a.L.rv Q (λav aw=>by obtain⟨bV,bW,bX,bZ,b0,b1,b2,b3,b4,b5,rfl,-⟩:=bU av aw;rfl) bT;obtain⟨rfl,rfl⟩:vo=some ⟨dx,0,I⟩/\vc=dy:=sU cM;have aX:=a1 0 dC;have cB:=a1 1 dC;have cC:=a1 2 dC;have cD:=a1 3 dC;have cE:=a1 4 dC;have cG:=a1 5 dC;simp only[Nat.add_zero] at aX;have bs:=a.below (al1 wr (Ob (gO bV bW bX bZ (J b0 b1 b2) (J b3 b4 b5)) 61)).1;have cN:(wr.alloc (Ob (gO bV bW bX bZ (J b0 b1 b2) (J b3 b4 b5)) 61)).heap[j]? =some (Ob (ae 12 ag ah V W (J (aS q) 1 aj)) 46 (0,0)):=(Below.heap_alloc _ _ _ a0).trans bf;have cO:j<E (U wr)+1:=oM;clear a1 cM bU bT;go_wp2_with (go_at_call 45;refine(bY bs.m _ _).mono ?_;rintro z s ⟨⟨ed,ee,rfl,dA,bg,dB⟩,-⟩;have dD:=bs.mk' bg dA dB;have dE:=(bg.block j (by simp;omega) (oH bs.gK)).trans cN)
     all_goals
      go_roundg (O vs - (e+1))
      case measure=>rw[dw.out];omega
      case rel=>
       first
        |exact⟨e+1,_,_,Q,by go_num,bR,dD,dE⟩
        |exact⟨e+1,_,_,Q,by go_num,bR,bs,cN⟩
    ·have cL:¬(e:Int)<(O vs:Int):=oM;have ef:decide ((e:Int)<(O vs:Int))=false:=sU cL;clear aZ;have aK:=λr=>cell_of_row wr _ r _ 46 (0,0) a.nb;have aM:=a.lw;have ax:=a.sb.cell;have ay:=a.sb.fz;have aN:=a.zb.cell;have aO:=a.zb.fz;have aP:=a.zb.lt;have aB:=a.c.cell;have aC:=a.c.fz;have aR:=a.c.lt;have a5:(((c.take i).map (aG (h+1) w)).sum*l)<=Y*l:=Nat.mul_le_mul_right _ (lT (di _ _) aW.out.sum);have dF:E (U w)+2≠E (U w)+1:=oM;have dG:E (U w)+1≠E (U w)+2:=oM;by_cases b6:k=0
     ·subst b6;have eg:q<E (U wr):=oH a.kx.size;have d:∀e,e<11->wr.cell? ⟨q,e,I⟩=(ae y F G t L (J N P u)).toList[e]? :=λe aZ=>(a.kx.cell (p:=⟨q,e,I⟩) (by show q<_;omega) (aY q dq)).trans (a4.out.2.1 e aZ);have bt:=d 0 dC;have bh:=d 1 dC;have bi:=d 2 dC;have b7:=d 3 dC;have b8:=d 4 dC;have b9:=d 5 dC;have b':=d 6 dC;have ca:=d 7 dC;have cc:=d 8 dC;have cd:=d 9 dC;have ce:=d 10 dC;have az:al (λb=>b<B0) w wr:=λb f aA=>a.kx.block b aA (aY b f);have bj:Hid (isNode (λb=>b<B0) True h wr (ae y F G t L (J N P u)).toList):=isNode.frame az _ _ a4.out.2.2.1;have bk:Hid (aG h wr (ae y F G t L (J N P u)).toList=aG h w (ae y F G t L (J N P u)).toList):=aQ az _ _ a4.out.2.2.1 _;have bl:Hid (Cx wr cb K (M.bt 0 aI) T (λb=>S0 b/\b<E (U w)) bn l):=aH.out.1.kC aH.out.2.1 aH.out.2.2.1 cq aH.out.2.2.2 a.kx a.m;clear d az;go_wp2_with (go_at_call 35;refine(bN a.m).mono ?_;rintro z s ⟨rfl,rfl⟩)
      refine(yX h bl.out a.c cr bj.out a4.out.2.2.2.1).mono ?_;rintro z s ⟨A,R,Z,aa,ab,ak,ao,ap,dH,dI,dJ,rfl,dK,bg,⟨dL,cP⟩,cf⟩;rw[bk.out] at cf;have x:=a.conv bg dK;have cg:=x.L.out (W0:=j+1) (λb f=>oH (bQ.out b f)) oM (af.weaken (λb f _=>f.imp (λav=>av) (λav=>by omega)) _ _ cP);have bu:s.heap[j]? =some (Ob (ae 12 ag ah V W (J (aS q) 1 aj)) 46 (0,0)):=(bg.block j a0 (oH a.eS)).trans bf;obtain⟨a6,bv⟩:=al1 s (Ob (ai A R (J Z aa ab) (J ak ao ap)) 39);have B:=x.below a6;have ch:(s.alloc (Ob (ai A R (J Z aa ab) (J ak ao ap)) 39)).heap[j]? =some (Ob (ae 12 ag ah V W (J (aS q) 1 aj)) 46 (0,0)):=(Below.heap_alloc _ _ _ (gE bu).1).trans bu;clear aK aM ax ay aN aO aP aB aC aR br a0 bl bj bk bt bh bi b7 b8 b9 b' ca cc cd ce;go_wp2_with fail;obtain⟨ar,bw⟩:∃ar,ar=E (U s):=⟨_,Q⟩;rw[<-bw] at bv;have dM:j<ar:=by rw[bw];exact(gE bu).1
      rw[<-bw];have bx:Hid (af (TQ w (λb=>S0 b/\b<E (U w)) (J io (O ts) ic) (J vo (O vs) vc)) (Gd (O M.ds)) dL (s.alloc (Ob (ai A R (J Z aa ab) (J ak ao ap)) 39)) (ai A R (J Z aa ab) (J ak ao ap)).toList/\∀C,aU C (s.alloc (Ob (ai A R (J Z aa ab) (J ak ao ap)) 39)) (ai A R (J Z aa ab) (J ak ao ap)).toList<=aG h w (ae y F G t L (J N P u)).toList*l):=⟨af.frame (λb _ aA=>a6.block b aA) a6.size _ _ cg,λC=>by rw[aJ (λb _ aA=>a6.block b aA) a6.size _ _ cg];exact cf C⟩;clear cP cg cf x bu a6 bw a bf;refine(jv B.m B.c).mono ?_;rintro z ac ⟨dN,a9,rfl,cQ,aT,cR⟩;have o:=B.mk' aT cQ cR;have ci:=B.L.same (lR _) (KX.cN (X:=λb=>b=mb) aT Q) (λb z=>.inr (.inl z)) B.eS B.gK;have cS:=af.frame ci aT.size _ _ bx.out.1;have cT:∀C,aU C ac (ai A R (J Z aa ab) (J ak ao ap)).toList<=aG h w (ae y F G t L (J N P u)).toList*l:=λC=>by rw[aJ ci aT.size _ _ bx.out.1];exact bx.out.2 C
      have bz:ac.heap[j]? =some (Ob (ae 12 ag ah V W (J (aS q) 1 aj)) 46 (0,0)):=(aT.block j (gE ch).1 (oH B.gK)).trans ch;have bA:ac.heap[ar]? =some (Ob (ai A R (J Z aa ab) (J ak ao ap)) 39 (0,0)):=(aT.block ar (gE bv).1 (oH B.gK)).trans bv;clear ci cQ cR bx B ch bv;have cU:=λr=>cell_of_row ac _ r _ 39 (0,0) bA;have cj:ar<E (U ac):=(gE bA).1;have br:=λr=>cell_of_row ac _ r _ 46 (0,0) bz;have a0:j<E (U ac):=(gE bz).1;have ax:=o.sb.cell;have ay:=o.sb.fz;have cV:=o.sb.lt;have dO:ar<E (U ac)+1:=oM;have cO:j<E (U ac)+1:=oM;have dP:E (U w)+2<E (U ac)+1:=oM;have eh:j≠E (U w)+2:=oM;have ei:E (U w)+2≠j:=oM;have ej:ar≠E (U w)+2:=oM;have ek:E (U w)+2≠ar:=oM;have cW:=λck=>o.xu cS cT bp ck Q;clear cS cT
      go_wp2_with (first
       |(at_builtin;refine bC 36 (v:=J io (O ts) ic) (xv:=J (aS (E (U ac))) 1 1) rQ rQ rQ rQ (cW _) ?_;rintro dQ aq ⟨dR,dS,rfl,cl,au,cX,cY,cZ⟩;have dT:=λck=>au.xq W (V==1) cX cY bK ck (ad:=E (U aq)) sQ;have c0:aq.heap[j]? =some (Ob (ae 12 ag ah V W (J (aS q) 1 aj)) 46 (0,0)):=(cZ.block j a0 (λz=>Nat.lt_irrefl _ (bQ.out j (.inl z)))).trans bz;have c1:aq.heap[ar]? =some (Ob (ai A R (J Z aa ab) (J ak ao ap)) 39 (0,0)):=(cZ.block ar cj (λz=>Nat.lt_irrefl _ (Nat.lt_trans dM (bQ.out ar (.inl z))))).trans bA;clear cU cj br a0 ax ay cV dO cO dP bz bA;have ax:=cl.cell;have ay:=cl.fz;have cV:=cl.lt;have cU:=λr=>cell_of_row aq _ r _ 39 (0,0) c1;have cj:ar<E (U aq):=(gE c1).1;have br:=λr=>cell_of_row aq _ r _ 46 (0,0) c0;have a0:j<E (U aq):=(gE c0).1;clear cX cY cW)
       |(at_builtin;refine bC 55 (v:=J vo (O vs) vc) (xv:=J (aS (E (U aq))) 1 1) rQ rQ rQ rQ (dT _) ?_;rintro dQ el ⟨dU,dV,rfl,dW⟩))
      go_roundg (O c - (i+1))
      case measure=>rw[dp.out];omega
      case rel=>
       have c2:(((c.take i).map (aG (h+1) w)).sum*l)+aG h w (ae y F G t L (J N P u)).toList*l<=(((c.take (i+1)).map (aG (h+1) w)).sum*l):=by
        rw[List.take_add_one,a4.out.1,List.map_append,List.sum_append,Nat.add_mul];exact Nat.add_le_add_left (Nat.mul_le_mul_right _ (show aG h w (ae y F G t L (J N P u)).toList<=aG (h+1) w (ae 12 ag ah V W (J (some ⟨q,0,I⟩) 1 aj)).toList+0 from a4.out.2.2.2.2)) _
       exact⟨i+1,dH,dI,dJ,dN,a9,dR,dS,_,dU,dV,_,Q,by go_num,sQ,cx,by have:=bJ.out.1;simp;omega,by have:=bJ.out.2;simp;omega,dW.xY c2 c2⟩
     ·have em:(k==0)=false:=sU b6;go_wp2_with (go_at_call 35;refine(bN a.m).mono ?_;rintro z s ⟨rfl,rfl⟩)
      go_light;obtain⟨bh,bi⟩:=dz (S:=λb=>(S0 b/\b<E (U w))\/E (U w)+3<=b) (D:=O M.ds) (w:=s) (kind:=0) (n:=0) ⟨λz=>absurd z dC,dC,dC⟩;exact gP.ret a bh (λC=>lT (bi C) dd) a5 a5 bp bK (λz=>absurd z b6) Q Q Q
  ·have cy:¬(i:Int)<(O c:Int):=oM;have en:decide ((i:Int)<(O c:Int))=false:=sU cy;have c3:Hid (O ts=O c):=by show _=_;have:=bJ.out.1;omega
   have aY:∀b,b<B0->¬(b=cb\/b=mb):=λb f=>oM;have a5:(((c.take i).map (aG (h+1) w)).sum*l)<=Y*l:=Nat.mul_le_mul_right _ (lT (di _ _) aW.out.sum);have aK:=λr=>cell_of_row wr _ r _ 46 (0,0) a.nb;have aM:=a.lw;have ax:=a.sb.cell;have ay:=a.sb.fz;have aN:=a.zb.cell;have aO:=a.zb.fz;have aP:=a.zb.lt;have aB:=a.c.cell;have aC:=a.c.fz;have aR:=a.c.lt;have dF:E (U w)+2≠E (U w)+1:=oM;have dG:E (U w)+1≠E (U w)+2:=oM;have eo:cb≠E (U w)+2:=oM;have ep:E (U w)+2≠cb:=oM;have eq:E (U w)≠cb:=oM;have er:cb≠E (U w):=oM;have aD:=(a.sG (lv':=next) (o0':=0) (o1':=0) (o2':=aF) (o3':=aF) 0 (vN next) (a.sb.set 0 _)).kF 1;obtain⟨a2,bB⟩:∃a2,a2=(wr.setCell ⟨E (U w)+2,0,I⟩ (vN next)).setCell ⟨cb,9,I⟩ (vN 1):=⟨_,Q⟩;rw[<-bB] at aD;have az:al (λb=>b<B0) w a2:=λb f aA=>aD.kx.block b aA (aY b f)
   have c4:Hid (Calls Tryz.prog 74 #[.agg (ae 8 pos (O c:Int) m name (J (aS g) (O ks) kc)),.agg (eV next aF aF io (O ts) ic (vN 0) (vN 0) aF aF)] a2 (vT a2)):=by
    obtain⟨H,dX⟩:=aD.L.ti;refine wM (S:=(λb=>(S0 b/\b<E (U w))\/E (U w)+3<=b)) (D:=O M.ds) (H:=H) (B0:=B0) (aW.out.row.frame az oM) aW.out.rV (oH aD.kx.size) (λav aw=>⟨h+1,isNode.frame az _ _ (aW.out.node av aw)⟩) (ro.bJ aD.L.ri (λb f=>.inr (aD.L.ri.lt b f).1)) (λav aw=>⟨af.up _ _ (af.weaken (λb f _=>f.1) _ _ (dX av aw)),λC=>?_⟩) bp (λes=>?_)
    ·exact lT (Nat.mul_le_mul_left _ (lT (kS ts av aw) (lT (aD.L.si C) a5))) db
    ·have:=c3.out;omega
   clear az;have et:Hid (E (U a2)=E (U wr)):=by show _=_;rw[bB];simp
   go_wp2_with fail;suffices hh:Calls Tryz.prog 74 #[.agg (ae 8 pos (O c:Int) m name (J (aS g) (O ks) kc)),.agg (eV next aF aF io (O ts) ic (vN 0) (vN 0) aF aF)] a2 _ by rw[bB] at hh;exact hh
   clear bB;refine c4.out.mono ?_;rintro z s ⟨a7,rfl,c5⟩;have x:=aD.below c5;have B:=x.wA a7;clear c4 aK aM ax ay aN aO aP aB aC aR a aD c5;obtain⟨bL,y,F,G,t,L,N,P,u,ba,bM,bb,aE,bq,bc⟩:=aW.out.out;obtain rfl:g=bL:=sU ba
   have d:∀e,e<11->s.cell? ⟨g,(1+O c)*11+e,I⟩=(ae y F G t L (J N P u)).toList[e]? :=λe aZ=>by
    rw[Nat.add_comm 1];exact(x.kx.cell (p:=⟨g,(O c+1)*11+e,I⟩) (by show g<_;omega) (aY g bM)).trans (bb e aZ)
   have bt:=d 0 dC;have bh:=d 1 dC;have bi:=d 2 dC;have b7:=d 3 dC;have b8:=d 4 dC;have b9:=d 5 dC;have b':=d 6 dC;have ca:=d 7 dC;have cc:=d 8 dC;have cd:=d 9 dC;have ce:=d 10 dC;simp only[Nat.add_zero] at bt;have bO:g<E (U s):=oH x.kx.size;have dY:g≠cb:=oM;have dZ:cb≠g:=oM;have eu:(1:Int)+(O c:Int)<(O ks:Int):=oM;have az:al (λb=>b<B0) w (s.setCell ⟨cb,11,I⟩ (vN a7)):=λb f aA=>B.kx.block b aA (aY b f);have bj:Hid (isNode (λb=>b<B0) True (h+1) (s.setCell ⟨cb,11,I⟩ (vN a7)) (ae y F G t L (J N P u)).toList):=isNode.frame az _ _ aE
   have bk:Hid (aG (h+1) (s.setCell ⟨cb,11,I⟩ (.int .i64 a7)) (ae y F G t L (J N P u)).toList*l<=Y*l):=by
    show _<=_;rw[aQ az _ _ aE];exact Nat.mul_le_mul_right _ bc
   have bl:Hid (Cx (s.setCell ⟨cb,11,I⟩ (vN a7)) cb K (M.bt k aI) T (λb=>S0 b/\b<E (U w)) bn l):=aH.out.1.kC aH.out.2.1 aH.out.2.2.1 cq aH.out.2.2.2 B.kx B.m;clear d az bb aE ba bc;have aK:=λr=>cell_of_row s _ r _ 46 (0,0) x.nb;have aM:=x.lw;have ax:=x.sb.cell;have ay:=x.sb.fz;have aN:=x.zb.cell;have aO:=x.zb.fz;have aP:=x.zb.lt;have aB:=x.c.cell;have aC:=x.c.fz;have aR:=x.c.lt;go_wp2_with fail;refine(yX (h+1) bl.out B.c cr bj.out bq).mono ?_;rintro z ac ⟨A,R,Z,aa,ab,ak,ao,ap,ev,ew,ex,rfl,d0,aT,⟨d1,c6⟩,c7⟩;have o:=B.conv aT d0;have c8:=λC=>lT (c7 C) bk.out;have d2:E (U w)+3<=E (U (s.setCell ⟨cb,11,I⟩ (vN a7))):=B.lw;have cm:=af.weaken (S':=(λb=>(S0 b/\b<E (U w))\/E (U w)+3<=b)) (λb f _=>f.imp (λav=>av) (λav=>by omega)) _ _ c6;have bD:=(((o.sG (lv':=next) (o0':=A) (o1':=0) (o2':=aF) (o3':=aF) 4 (vN A) (o.sb.set 4 _)).sG (lv':=next) (o0':=A) (o1':=R) (o2':=aF) (o3':=aF) 5 (vN R) ((o.sb.set 4 _).set 5 _)).sG (lv':=next) (o0':=A) (o1':=R) (o2':=J Z aa ab) (o3':=aF) 6 (J Z aa ab) (((o.sb.set 4 _).set 5 _).set 6 _)).sG (lv':=next) (o0':=A) (o1':=R) (o2':=J Z aa ab) (o3':=J ak ao ap) 7 (J ak ao ap) ((((o.sb.set 4 _).set 5 _).set 6 _).set 7 _);clear aK aM ax ay aN aO aP aB aC aR bl bj bk bt bh bi b7 b8 b9 b' ca cc cd ce c7 c6 bO dY dZ x B d2;have aK:=λr=>cell_of_row ac _ r _ 46 (0,0) o.nb;have aM:=o.lw;have ax:=o.sb.cell;have ay:=o.sb.fz;have aN:=o.zb.cell;have aO:=o.zb.fz;have aP:=o.zb.lt;have aB:=o.c.cell;have aC:=o.c.fz;have aR:=o.c.lt;go_wp2_with fail;refine(jv bD.m bD.c).mono ?_;rintro z aq ⟨ey,ez,rfl,c9,bE,c'⟩;have au:=bD.mk' bE c9 c'
   have cn:al (λb=>(S0 b/\b<E (U w))\/E (U w)+3<=b) ac aq:=λb f aA=>by
    have bm:b≠E (U w)+2/\b≠mb:=by
     rcases f with f|f
     ·have:=o.L.s0 b f;omega
     ·have:=o.gK;omega
    exact(bE.block b (sU aA) bm.2).trans ((Below.heap_setCell _ ⟨E (U w)+2,7,I⟩ _ _ bm.1).trans ((Below.heap_setCell _ ⟨E (U w)+2,6,I⟩ _ _ bm.1).trans ((Below.heap_setCell _ ⟨E (U w)+2,5,I⟩ _ _ bm.1).trans (Below.heap_setCell _ ⟨E (U w)+2,4,I⟩ _ _ bm.1))))
   have co:E (U ac)<=E (U aq):=by have:=bE.size;simpa using this
   have da:Hid (af (λb=>(S0 b/\b<E (U w))\/E (U w)+3<=b) (Gd (O M.ds)) d1 aq (ai A R (J Z aa ab) (J ak ao ap)).toList/\∀C,aU C aq (ai A R (J Z aa ab) (J ak ao ap)).toList<=Y*l):=⟨af.frame cn co _ _ cm,λC=>by rw[aJ cn co _ _ cm];exact c8 C⟩;clear aK aM ax ay aN aO aP aB aC aR cn co cm c8 o bD c9 bE c';have aK:=λr=>cell_of_row aq _ r _ 46 (0,0) au.nb;have aM:=au.lw;have ax:=au.sb.cell;have ay:=au.sb.fz;have aN:=au.zb.cell;have aO:=au.zb.fz;have aP:=au.zb.lt;have aB:=au.c.cell;have aC:=au.c.fz;have aR:=au.c.lt;go_wp2_with fail;go_light;exact gP.ret au da.out.1 da.out.2 a5 a5 bp bK (λ_=>c3.out) Q Q Q
end
section
variable{c cs:Array Value} {xs ys:List Value} {ad b base e n size:Nat} {t:TypeId} {v v':Value} {w w' wr:World}
theorem zr:(Tryz.prog.info? 95).map (λd=>(d.zero,d.size,d.bytes))=some (some (.agg #[J I 0 0,J I 0 0]),2,48):=by kernel_rfl
theorem zp:(Tryz.prog.info? 149).map (λd=>(d.zero,d.size,d.bytes))=some (some (.agg #[vN 0,vN 0]),2,16):=by kernel_rfl
theorem aX (h:w.ownsRow base e size v n xs) (d:v.ownBlock=some b):∃c,w.heap[b]? =some (Ob c e (0,0)):=by
 rcases h.2 with⟨f,_⟩|⟨g,cap,cur,f,_,x3,_⟩
 ·rw[f] at d;simp[Value.ownBlock] at d
 ·rw[f] at d;obtain rfl:g=b:=by simpa[Value.ownBlock] using d
  exact⟨cur,x3⟩
theorem aI {d:Nat} {j:Array Value} {f:TypeId} {z l:Nat × Nat} (h:w.heap[b]? =some (Ob c t z)) (i:w.heap[d]? =some (Ob j f l)) (m:t≠f):b≠d:=by
 rintro rfl;rw[h] at i;have:=Option.some.inj i;injection this with _ o
 exact m o
theorem App.kt {k:Nat} (f:wr.ownsRow base e size v n xs) (i:App (wr.alloc (Ob cs e)) base e size v n xs ys k v' w'):KT (λt=>t≠e) wr w':=by
 intro b c t p d j;have l:=(gE d).1;refine(i.grown.block b (by simp;omega) (λm=>?_)).trans (Below.heap_alloc _ _ _ l);obtain⟨q,o⟩:=aX f m.symm;exact aI d o j Q
theorem KT.set {z:Nat × Nat} (h:w.heap[b]? =some (Ob c t z)) (o:Nat) (u:Value):KT (λd=>d≠t) w (w.setCell ⟨b,o,I⟩ u):=λj l m p f i=>Below.heap_setCell _ ⟨b,o,I⟩ _ _ (aI f h i)
theorem au {P:Nat->Prop} (d:KT P w w') {z:Nat × Nat} (h:w.heap[b]? =some (Ob c t z)) (f:P t):w'.heap[b]? =some (Ob c t z):=(d b c t z h f).trans h
theorem App.kx {k:Nat} {X:Nat->Prop} {f:Nat} (i:wr.ownsRow base e size v n xs) (d:App (wr.alloc (Ob cs e)) base e size v n xs ys k v' w') (j:f<=base) (l:f<=E (U wr)):KX X f wr w':=
 ⟨d.grown.os,d.grown.tape,d.grown.output,lT sQ d.grown.size,λb m _=>(d.grown.block b (by simp;omega) (λe=>oH (i.lt b e.symm).1)).trans (Below.heap_alloc _ _ _ oM)⟩
def wT (x:List Value):Prop:=∃(a1:OA) (b1 c1:Nat) (a2:OA) (b2 c2:Nat),x=[J a1 b1 c1,J a2 b2 c2]
structure BM (w:World) (mb cb:Nat) (M:MK) (K:CK) (how one:Int) (nd:Array Value) (wr:World) (next fk fa k a:Int) (go:OA) (gc:Nat) (gs:VV) (oo:OA) (oc:Nat) (os:VV):Prop where
 kx:KX (λb=>b=cb\/b=mb) (E (U w)) w wr
 c:bP wr cb K how next one fk fa
 m:cF wr mb (M.bt k a)
 eS:cb<E (U w)
 gK:mb<E (U w)
 ne:mb≠cb
 nb:wr.heap[E (U w)]? =some (Ob nd 46 (0,0))
 rg:wr.ownsRow (E (U w)+1) 95 2 (J go (O gs) gc) (O gs) gs.flatten
 g2:∀x∈gs,wT x
 rq:wr.ownsRow (E (U w)+1) 149 2 (J oo (O os) oc) (O os) os.flatten
 hf:M.fk≠0->k=M.fk
section
variable{w wr w':World} {mb cb:Nat} {M:MK} {K:CK} {how one:Int} {nd:Array Value} {next fk fa k a:Int} {go:OA} {gc:Nat} {gs:VV} {oo:OA} {oc:Nat} {os:VV} {next' fk' fa' k' a':Int}
theorem BM.ln (q:BM w mb cb M K how one nd wr next fk fa k a go gc gs oo oc os):E (U w)<E (U wr):=(gE q.nb).1
theorem BM.step (q:BM w mb cb M K how one nd wr next fk fa k a go gc gs oo oc os) (d:KX (λb=>b=cb\/b=mb) (E (U wr)) wr w') (j:bP w' cb K how next' one fk' fa') (l:cF w' mb (M.bt k' a')) (m:M.fk≠0->k'=M.fk):BM w mb cb M K how one nd w' next' fk' fa' k' a' go gc gs oo oc os:=by
 have o:=q.ln;have p:=q.gK;have r:=q.eS;exact⟨q.kx.trans (d.mono (λ_ _ h=>h) oM),j,l,r,p,q.ne,(d.block _ o oM).trans q.nb,ag q.rg (λb f i=>d.block b i (oH (q.rg.lt b f).1)),q.g2,ag q.rq (λb f i=>d.block b i (oH (q.rq.lt b f).1)),m⟩
theorem BM.below (q:BM w mb cb M K how one nd wr next fk fa k a go gc gs oo oc os) (d:Below (E (U wr)) wr w'):BM w mb cb M K how one nd w' next fk fa k a go gc gs oo oc os:=q.step (KX.aq d) (q.c.below d) (q.m.below d) q.hf
theorem BM.kF (q:BM w mb cb M K how one nd wr next fk fa k a go gc gs oo oc os) (x:Int):BM w mb cb M K x one nd (wr.setCell ⟨cb,9,I⟩ (vN x)) next fk fa k a go gc gs oo oc os:=by
 have o:=q.ln;have j:=q.gK;have l:=q.eS;have i:=q.ne;have f:∀b,b≠cb->(wr.setCell ⟨cb,9,I⟩ (vN x)).heap[b]? =wr.heap[b]? :=λb d=>Below.heap_setCell _ ⟨cb,9,I⟩ _ _ d;exact⟨q.kx.setCell (p:=⟨cb,9,I⟩) (.inr (.inl Q)) _,q.c.qY x,(f _ i).trans q.m,l,j,i,(f _ oM).trans q.nb,ag q.rg (λb d m=>f b (oH (q.rg.lt b d).1)),q.g2,ag q.rq (λb d m=>f b (oH (q.rq.lt b d).1)),q.hf⟩
end
structure BI (w:World) (mb cb:Nat) (M:MK) (K:CK) (how one:Int) (nd:Array Value) (wr:World) (next fk fa k a:Int) (go:OA) (gc:Nat) (gs:VV) (oo:OA) (oc:Nat) (os:VV) (gb:Nat) (eH:Array Value) (ob:Nat) (to':OA) (tc:Nat) (tl:List Int) (lo:OA) (lc:Nat) (ll:List Int):Prop where
 b:BM w mb cb M K how one nd wr next fk fa k a go gc gs oo oc os
 g:wr.heap[gb]? =some (Ob eH 46 (0,0))
 o:wr.heap[ob]? =some (Ob #[J to' (O tl) tc,J lo (O ll) lc] 95 (0,0))
 rt:wr.ownsRow (E (U w)+1) 3 1 (J to' (O tl) tc) (O tl) (aC tl)
 rl:wr.ownsRow (E (U w)+1) 3 1 (J lo (O ll) lc) (O ll) (aC ll)
 sep:∀b,(Value.slice to' (O tl) tc).ownBlock=some b->(Value.slice lo (O ll) lc).ownBlock≠some b
 xI:(Value.slice go (O gs) gc).ownBlock≠some ob
 lg:E (U w)<gb
 lM:E (U w)<ob
section
variable{w wr w':World} {mb cb:Nat} {M:MK} {K:CK} {how one:Int} {nd:Array Value} {next fk fa k a:Int} {go:OA} {gc:Nat} {gs:VV} {oo:OA} {oc:Nat} {os:VV} {next' fk' fa' k' a':Int} {gb:Nat} {eH:Array Value} {ob:Nat} {to':OA} {tc:Nat} {tl:List Int} {lo:OA} {lc:Nat} {ll:List Int}
theorem BI.step (q:BI w mb cb M K how one nd wr next fk fa k a go gc gs oo oc os gb eH ob to' tc tl lo lc ll) (d:KX (λb=>b=cb\/b=mb) (E (U wr)) wr w') (j:bP w' cb K how next' one fk' fa') (l:cF w' mb (M.bt k' a')) (m:M.fk≠0->k'=M.fk):BI w mb cb M K how one nd w' next' fk' fa' k' a' go gc gs oo oc os gb eH ob to' tc tl lo lc ll:=by
 have r:=q.b.gK;have s:=q.b.eS;have o:=q.lg;have p:=q.lM;exact⟨q.b.step d j l m,(d.block _ (gE q.g).1 oM).trans q.g,(d.block _ (gE q.o).1 oM).trans q.o,ag q.rt (λb f i=>d.block b i (oH (q.rt.lt b f).1)),ag q.rl (λb f i=>d.block b i (oH (q.rl.lt b f).1)),q.sep,q.xI,o,p⟩
theorem BI.below (q:BI w mb cb M K how one nd wr next fk fa k a go gc gs oo oc os gb eH ob to' tc tl lo lc ll) (d:Below (E (U wr)) wr w'):BI w mb cb M K how one nd w' next fk fa k a go gc gs oo oc os gb eH ob to' tc tl lo lc ll:=q.step (KX.aq d) (q.b.c.below d) (q.b.m.below d) q.b.hf
theorem BI.conv (q:BI w mb cb M K how one nd wr next fk fa k a go gc gs oo oc os gb eH ob to' tc tl lo lc ll) (d:Kp (E (U wr)) cb wr w') (f:bP w' cb K how next' one fk' fa'):BI w mb cb M K how one nd w' next' fk' fa' k a go gc gs oo oc os gb eH ob to' tc tl lo lc ll:=q.step (KX.cN d (.inl Q)) f ((d.block _ q.b.m.lt q.b.ne).trans q.b.m) q.b.hf
theorem BI.mk' (q:BI w mb cb M K how one nd wr next fk fa k a go gc gs oo oc os gb eH ob to' tc tl lo lc ll) (d:Kp (E (U wr)) mb wr w') (f:cF w' mb ((M.bt k a).bt k' a')) (i:(M.bt k a).fk≠0->k'=(M.bt k a).fk):BI w mb cb M K how one nd w' next fk fa k' a' go gc gs oo oc os gb eH ob to' tc tl lo lc ll:=q.step (KX.cN d (.inr Q)) ((d.block _ q.b.c.lt (λe=>q.b.ne e.symm)).trans q.b.c) f (λh=>by have e:=q.b.hf h;have:=i (by show k≠0;rw[e];exact h);rw[this];exact e)
theorem mE (x:Int):∀d∈(#[Value.int .i64 x]:Array Value).toList,d.oneCell'=true:=by
 intro d f;obtain rfl:d=vN x:=sU f;rfl
theorem BI.oD (q:BI w mb cb M K how one nd wr next fk fa k a go gc gs oo oc os gb eH ob to' tc tl lo lc ll) (x:Int) (hl:O tl<=30000) (s:TypeId) (z:ad=E (U wr)):
 ∃v' w',(Builtin.append_ #[22,22] s #[J to' (O tl) tc,J (aS ad) 1 1]).run Tryz.prog (wr.alloc (Ob #[vN x] 3))=.ok v' w'/\∃f i,v'=J f (O tl+1) i/\w'.heap[ob]? =some (Ob #[J to' (O tl) tc,J lo (O ll) lc] 95 (0,0))/\BI w mb cb M K how one nd (w'.setCell ⟨ob,0,I⟩ (J f (O tl+1) i)) next fk fa k a go gc gs oo oc os gb eH ob f i (tl++[x]) lo lc ll:=by
 have N:=q.b.ln;have A:=q.b.gK;have B:=q.b.eS;have u:=q.lM;obtain⟨v',w',C,m⟩:=fg (W:=wr) Tryz.underlying22 rF Q dC q.rt oM #[vN x] rfl (mE x) (by unfold maxLen;omega) oM s z;obtain⟨f,i,rfl⟩:=m.shape;have j:=App.kt q.rt m;have D:KX (λb=>b=cb\/b=mb) (E (U w)) wr w':=App.kx q.rt m oM oM;have o:=au j q.o dC;have l:=KT.set o 0 (J f (O tl+1) i);have r:O (tl++[x])=O tl+1:=sQ;have F:aC (tl++[x])=aC tl++[vN x]:=by simp[aC]
 have G:w'.ownsRow (E (U w)+1) 3 1 (J lo (O ll) lc) (O ll) (aC ll):=ag q.rl (λb d hl=>(m.grown.block b (by simp;omega) (λe=>q.sep b e.symm d)).trans (Below.heap_alloc _ _ _ hl));have H:=m.row;have L:=ah q.b.rg j dC;refine⟨_,w',C,f,i,Q,o,⟨⟨?_,au l (au j q.b.c dC) dC,au l (au j q.b.m dC) dC,B,A,q.b.ne,au l (au j q.b.nb dC) dC,ag L (λb d _=>Below.heap_setCell _ ⟨ob,0,I⟩ _ _ (λe=>q.xI (by rw[d];exact congrArg some e))),q.b.g2,ah (ah q.b.rq j dC) l dC,q.b.hf⟩,au l (au j q.g dC) dC,?_,?_,?_,?_,q.xI,q.lg,u⟩⟩
 ·exact q.b.kx.trans (D.setCell (p:=⟨ob,0,I⟩) (.inl (Nat.le_of_lt u)) _)
 ·have:=heap_setCell_same w' ob 0 _ 95 (J f (O tl+1) i) o;rw[r];simpa using this
 ·rw[F,r];exact ah H l dC
 ·exact ah G l dC
 ·intro b d y;rw[r] at d;have P:=(q.rl.lt b y).2;rcases m.own with e|e
  ·exact q.sep b (by rw[<-e];exact d) y
  ·rw[e] at d;simp at d;omega
theorem BI.uo (q:BI w mb cb M K how one nd wr next fk fa k a go gc gs oo oc os gb eH ob to' tc tl lo lc ll) (x:Int) (hl:O ll<=30000) (u:TypeId) (z:ad=E (U wr)):
 ∃v' w',(Builtin.append_ #[22,22] u #[J lo (O ll) lc,J (aS ad) 1 1]).run Tryz.prog (wr.alloc (Ob #[vN x] 3))=.ok v' w'/\∃d f,v'=J d (O ll+1) f/\w'.heap[ob]? =some (Ob #[J to' (O tl) tc,J lo (O ll) lc] 95 (0,0))/\BI w mb cb M K how one nd (w'.setCell ⟨ob,1,I⟩ (J d (O ll+1) f)) next fk fa k a go gc gs oo oc os gb eH ob to' tc tl d f (ll++[x]):=by
 have N:=q.b.ln;have A:=q.b.gK;have B:=q.b.eS;have y:=q.lM;obtain⟨v',w',C,l⟩:=fg (W:=wr) Tryz.underlying22 rF Q dC q.rl oM #[vN x] rfl (mE x) (by unfold maxLen;omega) oM u z;obtain⟨d,f,rfl⟩:=l.shape;have i:=App.kt q.rl l;have D:KX (λb=>b=cb\/b=mb) (E (U w)) wr w':=App.kx q.rl l oM oM;have r:=au i q.o dC;have j:=KT.set r 1 (J d (O ll+1) f);have s:O (ll++[x])=O ll+1:=sQ;have F:aC (ll++[x])=aC ll++[vN x]:=by simp[aC]
 have G:w'.ownsRow (E (U w)+1) 3 1 (J to' (O tl) tc) (O tl) (aC tl):=ag q.rt (λb m hl=>(l.grown.block b (by simp;omega) (λe=>q.sep b m e.symm)).trans (Below.heap_alloc _ _ _ hl));have H:=l.row;have L:=ah q.b.rg i dC;refine⟨_,w',C,d,f,Q,r,⟨⟨?_,au j (au i q.b.c dC) dC,au j (au i q.b.m dC) dC,B,A,q.b.ne,au j (au i q.b.nb dC) dC,ag L (λb m _=>Below.heap_setCell _ ⟨ob,1,I⟩ _ _ (λe=>q.xI (by rw[m];exact congrArg some e))),q.b.g2,ah (ah q.b.rq i dC) j dC,q.b.hf⟩,au j (au i q.g dC) dC,?_,?_,?_,?_,q.xI,q.lg,y⟩⟩
 ·exact q.b.kx.trans (D.setCell (p:=⟨ob,1,I⟩) (.inl (Nat.le_of_lt y)) _)
 ·have:=heap_setCell_same w' ob 1 _ 95 (J d (O ll+1) f) r;rw[s];simpa using this
 ·exact ah G j dC
 ·rw[F,s];exact ah H j dC
 ·intro b m o;rw[s] at o;have P:=(q.rt.lt b m).2;rcases l.own with e|e
  ·exact q.sep b m (by rw[<-e];exact o)
  ·rw[e] at o;simp at o;omega
theorem BI.yK (q:BI w mb cb M K how one nd wr next fk fa k a go gc gs oo oc os gb eH ob to' tc tl lo lc ll) (x f:Int) (hl:O os<=1000000000) (m:TypeId) (r:ad=E (U wr)):
 ∃v' w',(Builtin.append_ #[51,51] m #[J oo (O os) oc,J (aS ad) 1 1]).run Tryz.prog (wr.alloc (Ob #[vN x,vN f] 149))=.ok v' w'/\∃i j,v'=J i (O os+1) j/\BI w mb cb M K how one nd w' next fk fa k a go gc gs i j (os++[[vN x,vN f]]) gb eH ob to' tc tl lo lc ll:=by
 have A:=q.b.ln;have s:=q.b.gK;have u:=q.b.eS
 have one:∀o∈(#[Value.int .i64 x,Value.int .i64 f]:Array Value).toList,o.oneCell'=true:=by
  intro o p;simp at p;rcases p with rfl|rfl<;>rfl
 obtain⟨v',w',y,l⟩:=fg (W:=wr) Tryz.underlying51 zp Q dC q.b.rq oM #[vN x,vN f] rfl one (by unfold maxLen;omega) oM m r;obtain⟨i,j,rfl⟩:=l.shape;have d:=App.kt q.b.rq l;have z:KX (λb=>b=cb\/b=mb) (E (U w)) wr w':=App.kx q.b.rq l oM oM;refine⟨_,w',y,i,j,Q,⟨⟨q.b.kx.trans z,au d q.b.c dC,au d q.b.m dC,u,s,q.b.ne,au d q.b.nb dC,ah q.b.rg d dC,q.b.g2,?_,q.b.hf⟩,au d q.g dC,au d q.o dC,ah q.rt d dC,ah q.rl d dC,q.sep,q.xI,q.lg,q.lM⟩⟩;have:=l.row;simpa using this
theorem BI.zC (q:BI w mb cb M K how one nd wr next fk fa k a go gc gs oo oc os gb eH ob to' tc tl lo lc ll) (hl:O gs<=30000) (m:TypeId) (r:ad=E (U wr)):
 ∃v' w',(Builtin.append_ #[52,52] m #[J go (O gs) gc,J (aS ad) 1 1]).run Tryz.prog (wr.alloc (Ob #[J to' (O tl) tc,J lo (O ll) lc] 95))=.ok v' w'/\∃f i,v'=J f (O gs+1) i/\BM w mb cb M K how one nd w' next fk fa k a f i (gs++[[J to' (O tl) tc,J lo (O ll) lc]]) oo oc os:=by
 have A:=q.b.ln;have s:=q.b.gK;have u:=q.b.eS
 have one:∀o∈(#[Value.slice to' (O tl) tc,Value.slice lo (O ll) lc]:Array Value).toList,o.oneCell'=true:=by
  intro o p;simp at p;rcases p with rfl|rfl<;>rfl
 obtain⟨v',w',x,j⟩:=fg (W:=wr) Tryz.underlying52 zr Q dC q.b.rg oM #[J to' (O tl) tc,J lo (O ll) lc] rfl one (by unfold maxLen;omega) oM m r;obtain⟨f,i,rfl⟩:=j.shape;have l:=App.kt q.b.rg j;have y:KX (λb=>b=cb\/b=mb) (E (U w)) wr w':=App.kx q.b.rg j oM oM;refine⟨_,w',x,f,i,Q,⟨q.b.kx.trans y,au l q.b.c dC,au l q.b.m dC,u,s,q.b.ne,au l q.b.nb dC,?_,λz d=>?_,ah q.b.rq l dC,q.b.hf⟩⟩
 ·have:=j.row;simpa using this
 ·rcases List.mem_append.1 d with d|d
  ·exact q.b.g2 z d
  ·rw[List.mem_singleton.1 d];exact⟨_,_,_,_,_,_,Q⟩
end
def nf (w:World) (mb cb:Nat) (M:MK) (K:CK) (one:Int) (e:Ending) (w':World):Prop:=
 ∃(how next fk fa k a:Int) (go:OA) (gc:Nat) (gs:VV) (oo:OA) (on oc:Nat),e=.returned (.tuple #[J go (O gs) gc,J oo on oc])/\bP w' cb K how next one fk fa/\cF w' mb (M.bt k a)/\(M.fk≠0->k=M.fk)/\KX (λb=>b=cb\/b=mb) (E (U w)) w w'/\ro w' (λb=>E (U w)<=b) 2 (J go (O gs) gc) (O gs) gs.flatten/\(∀x∈gs,wT x)/\O gs<=30000
end
end Go.Proofs.YtcnnibahjmekdaaGreat
