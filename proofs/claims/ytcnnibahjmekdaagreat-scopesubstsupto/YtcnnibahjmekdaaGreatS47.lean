import Derived.Test.YtcnnibahjmekdaaGreatS43
namespace Go.Proofs.YtcnnibahjmekdaaGreat
open Go.RowKit
open Value renaming slice→J
open List renaming length→O
open Option renaming none→I
open World renaming heap→U
open _root_.Array renaming size→E
open Obj renaming cells→Ob
set_option linter.all false
set_option maxRecDepth 100000
set_option maxHeartbeats 0
theorem ly {P a:Prop} (h:(True->P)->a) (p:P):a:=h (λ_=>p)
def bG:List Value->Nat
 |.int _ k::_::_::_::_::kv::_=>if k=8 then 1 else if k=7 then lenOf kv - 2 else 0
 |_=>0
section
variable{base:Nat}
def uB (w:World) (base D H N:Nat) (e:Ending) (w':World):Prop:=
 ∃(ao:OA) (cp:Nat) (vs:VV),e=.returned (J ao (O vs) cp)/\w'.ownsRow base 39 4 (J ao (O vs) cp) (O vs) vs.flatten/\(∀x∈vs,af (λb=>b<base) (Gd D) H w' x)/\1<=O vs/\O vs<=N/\Below base w w'/\KT (λt=>t≠39) w w'
theorem fY {w w':World} (h:Below base w w'):al (λa=>a<base) w w':=λa b _=>h.block a b
theorem qk {D H:Nat}:(h:Nat)->h<=H->∀{w:World} {i j:Int} {k:OA} {l m:Nat} {d:OA} {C n:Nat} {y:OA} {z:Nat} {c:VV},base<=E (U w)->af (λb=>b<base) (Gd D) h w (ai i j (J k l m) (J d C n)).toList->w.ownsRow base 39 4 (J y (O c) z) (O c) c.flatten->(∀o∈c,af (λb=>b<base) (Gd D) H w o)->O c+aU h w (ai i j (J k l m) (J d C n)).toList<=2199023255552->Calls Tryz.prog 14 #[.agg (ai i j (J k l m) (J d C n)),J y (O c) z] w (uB w base D H (O c+aU h w (ai i j (J k l m) (J d C n)).toList))
 |0,_,_,_,_,_,_,_,_,_,_,_,_,_,_,hn,_,_,_=>absurd hn (λo=>o)
 |h+1,hH,w,i,j,k,l,m,d,C,n,y,z,c,hbase,hn,hrow,hvs,hX=>by
  have aO:Hid (∀{w:World} {i j:Int} {k:OA} {l m:Nat} {d:OA} {C n:Nat} {y:OA} {z:Nat} {c:VV},base<=E (U w)->af (λb=>b<base) (Gd D) h w (ai i j (J k l m) (J d C n)).toList->w.ownsRow base 39 4 (J y (O c) z) (O c) c.flatten->(∀o∈c,af (λb=>b<base) (Gd D) H w o)->O c+aU h w (ai i j (J k l m) (J d C n)).toList<=2199023255552->Calls Tryz.prog 14 #[.agg (ai i j (J k l m) (J d C n)),J y (O c) z] w (uB w base D H (O c+aU h w (ai i j (J k l m) (J d C n)).toList))):=qk h oM;have aP:Hid (af (λb=>b<base) (Gd D) H w (ai i j (J k l m) (J d C n)).toList):=af.le hn H hH;obtain⟨a,rfl,bp,R,ap,aq⟩:=hn.args;have R:=R h;rw[R] at hX⊢;have ar:Hid ((∀o∈a,af (λb=>b<base) (Gd D) h w o)/\∀e,e<O a->∃g q r s t u S al1 x,d=some ⟨g,0,I⟩/\g<E (U w)/\a[e]? =some (ai q r (J s t u) (J S al1 x)).toList/\∀B,B<4->w.cell? ⟨g,e*4+B,I⟩=(ai q r (J s t u) (J S al1 x))[B]?):=⟨ap,aq⟩
  have aQ:Hid (∀g,d=some ⟨g,0,I⟩->0<O a->g<base):=by
   intro g T bq;obtain⟨_,br,_,au,_⟩:=hn.parts;have K:=au.len;obtain⟨aR,bs,av,_,aw⟩:=au;obtain⟨aT,ax,hS,_⟩:=aw oM;have:aR=some ⟨g,0,I⟩:=(Value.slice.inj av).1.symm.trans T;rw[ax] at this;obtain rfl:aT=g:=sU this;exact hS
  have aV:Hid (O c+(1+(a.map (aU h w)).sum)<=2199023255552):=hX;obtain⟨aa,ay⟩:=al1 w (Ob (ai i j (J k l m) (J d (O a) n)) 39);have aW:E (U (w.alloc (Ob (ai i j (J k l m) (J d (O a) n)) 39)))=E (U w)+1:=sQ;have ab:=ag hrow (w':=w.alloc (Ob (ai i j (J k l m) (J d (O a) n)) 39)) (λb _ K=>aa.block b K)
  have one:∀V∈(ai i j (J k l m) (J d (O a) n)).toList,V.oneCell'=true:=by
   intro V az;simp at az;rcases az with rfl|rfl|rfl|rfl<;>rfl
  have aA:=λ(aX:TypeId)=>fg (W:=w.alloc (Ob (ai i j (J k l m) (J d (O a) n)) 39)) Tryz.underlying36 jD Q dC ab oM (ai i j (J k l m) (J d (O a) n)) Q one (by unfold maxLen;omega) oM aX (ad:=E (U w)+1) aW.symm
  have X:Hid (∀{ac:Value} {w':World},App ((w.alloc (Ob (ai i j (J k l m) (J d (O a) n)) 39)).alloc (Ob (ai i j (J k l m) (J d (O a) n)) 39)) base 39 4 (J y (O c) z) (O c) c.flatten (ai i j (J k l m) (J d (O a) n)).toList 1 ac w'->w'.heap[E (U w)]? =some (Ob (ai i j (J k l m) (J d (O a) n)) 39 (0,0))/\Below base w w'/\KT (λae=>ae≠39) w w'):=by
   intro ac w' ah;refine⟨ah.dH ((Below.heap_alloc _ _ _ oM).trans ay) (λT=>oH (hrow.lt _ T).2),ah.below (((Below.refl base w).alloc hbase _).alloc oM _) (by simp;omega) (λb F=>(hrow.lt b F).1),(KT.below aa).trans (App.kt ab ah)⟩
  clear hn ap aq hX aa ay R ab hrow;have aY:Hid (∀o∈c,af (λb=>b<base) (Gd D) H w o):=hvs;clear hvs;go_enter Tryz.func14,Tryz.ntmps14
  go_wp2_with (at_builtin;refine bC 36 (v:=J y (O c) z) (xv:=J (aS (E (U w)+1)) 1 1) rQ rQ rQ rQ (aA _) ?_;rintro ac aB L;obtain⟨S,aZ,rfl⟩:=L.shape;have a0:=λB=>cell_of_row aB _ B _ 39 (0,0) (X.out L).1;have a1:E (U w)<E (U aB):=(gE (X.out L).1).1)
  clear a0 a1 aA;go_loopg [1,6,14] (O a) (λa2 v _ V wr=>∃(e:Nat) (y:OA) (z:Nat) (A:VV),a2=O a - e/\V=.int .i64 e/\v=J y (O A) z/\e<=O a/\wr.ownsRow base 39 4 (J y (O A) z) (O A) A.flatten/\(∀o∈A,af (λb=>b<base) (Gd D) H wr o)/\(1<=O A/\O A<=O c+(1+((a.take e).map (aU h w)).sum))/\Below base w wr/\KT (λae=>ae≠39) w wr)
  case atStart=>
   have F:=(X.out L).2.1;refine⟨0,S,aZ,c++[(ai i j (J k l m) (J d (O a) n)).toList],Q,Q,sQ,zL _,by have:=L.row;simpa using this,λo M=>?_,⟨sQ,sQ⟩,F,(X.out L).2.2⟩;refine af.frame (fY F) F.size _ _ ?_;rcases List.mem_append.1 M with M|M
   ·exact aY.out o M
   ·obtain rfl:o=_:=sU M;exact aP.out
  case round=>
   clear L;obtain⟨e,y,z,A,aC,rfl,rfl,bt,aD,aE,K,F,aF⟩:=hrel;have a3:Hid (gk=O a - e):=aC;have Y:Hid (1<=O A/\O A<=O c+(1+((a.take e).map (aU h w)).sum)):=K;have aG:Hid (∀o∈A,af (λb=>b<base) (Gd D) H wr o):=aE;clear aC K aE;by_cases aH:e<O a
   ·have aI:(e:Int)<(O a:Int):=oM;obtain⟨g,q,r,s,t,u,G,al1,x,rfl,bu,aj,aK⟩:=ar.out.2 e aH;have a4:g<base:=aQ.out g Q oM;have N:∀B,B<4->wr.cell? ⟨g,e*4+B,I⟩=(ai q r (J s t u) (J G al1 x))[B]? :=λB a5=>(F.cell (p:=⟨g,e*4+B,I⟩) a4).trans (aK B a5);have a6:=N 0 dC;have bv:=N 1 dC;have av:=N 2 dC;have ax:=N 3 dC;simp only[Nat.add_zero] at a6;have bw:g<E (U wr):=oH F.size;have a7:base<=E (U wr):=oH F.size;have ak:Below base wr (wr.alloc (Ob (ai q r (J s t u) (J G al1 x)) 39)):=(Below.refl base wr).alloc a7 _;have P:Below base w (wr.alloc (Ob (ai q r (J s t u) (J G al1 x)) 39)):=F.trans ak;have al:=ar.out.1 _ (mG aj);obtain⟨Z,ao⟩:∃Z,aU h w (ai q r (J s t u) (J G al1 x)).toList=Z:=⟨_,Q⟩;have a8:Hid (af (λb=>b<base) (Gd D) h (wr.alloc (Ob (ai q r (J s t u) (J G al1 x)) 39)) (ai q r (J s t u) (J G al1 x)).toList):=af.frame (fY P) P.size _ _ al;have aL:Hid (aU h (wr.alloc (Ob (ai q r (J s t u) (J G al1 x)) 39)) (ai q r (J s t u) (J G al1 x)).toList=Z):=(aJ (fY P) P.size _ _ al h).trans ao
    have aM:Hid (((a.take (e+1)).map (aU h w)).sum=((a.take e).map (aU h w)).sum+Z):=by
     show _=_;rw[List.take_add_one,aj,List.map_append,List.sum_append,<-ao];simp
    have a9:Hid (((a.take (e+1)).map (aU h w)).sum<=(a.map (aU h w)).sum):=di a _;have a':=ag aD (w':=wr.alloc (Ob (ai q r (J s t u) (J G al1 x)) 39)) (λb _ K=>Below.heap_alloc _ _ _ K);have ba:Hid (∀o∈A,af (λb=>b<base) (Gd D) H (wr.alloc (Ob (ai q r (J s t u) (J G al1 x)) 39)) o):=λo M=>af.frame (fY ak) ak.size _ _ (aG.out o M);have bb:base<=E (U (wr.alloc (Ob (ai q r (J s t u) (J G al1 x)) 39))):=by simp;omega
    clear N aK aj al ao;go_wp2_with fail;refine(aO.out bb a8.out a' ba.out (by rw[aL.out];have aN:=aM.out;have bc:=a9.out;have aw:=aV.out;have bd:=Y.out.2;omega)).mono ?_;rintro T bx ⟨bf,bg,bh,rfl,bi,bj,bk,bl,bm,bn⟩;rw[aL.out] at bl;have bo:=P.trans bm;go_wp2_with fail;go_roundg (O a - (e+1))
    case measure=>rw[a3.out];omega
    case rel=>exact⟨e+1,bf,bg,bh,Q,by go_num,Q,aH,bi,bj,⟨bk,by have aN:=aM.out;have bd:=Y.out.2;omega⟩,bo,(aF.trans (KT.below ((Below.refl _ _).alloc (lR _) _))).trans bn⟩
   ·have aI:¬(e:Int)<(O a:Int):=oM;have bz:decide ((e:Int)<(O a:Int))=false:=sU aI;go_wp2_with fail;go_ret;refine⟨y,z,A,Q,aD,aG.out,Y.out.1,?_,F,aF⟩;have aN:=di (f:=aU h w) a e;have bc:=Y.out.2;omega
end
section
variable{F F':Nat} {Mu':Nat->Prop} {r:Nm}
theorem vM:(Tryz.prog.info? 117).map (λb=>(b.zero,b.size,b.bytes))=some (some (.agg #[.string ⟨#[]⟩,zI,zI,.bool false]),4,40):=by kernel_rfl
section
variable{w w':World} {mb:Nat} {M:MK} {trs ims fns:VV} {Xd Xi Xf:Nat} {Mu Mu':Nat->Prop} {H H':Nat}
theorem MS.other (h:MS w mb M trs ims fns Xd Xi Xf Mu H) {Y:Nat->Prop} (e:KX Y (E (U w)) w w') (y:∀b,Y b->Mu b) (z:¬Y mb) (t:∀b,(Value.slice M.mo (O M.ms) M.mc).ownBlock=some b->¬Y b) (u:∀m∈M.ms,∀b,(Value.slice m.ao (O m.ns) m.cp).ownBlock=some b->¬Y b) (A:∀b,(Value.slice M.cV (O M.ds) M.dN).ownBlock=some b->¬Y b) (B:∀b,M.tv.ownBlock=some b->¬Y b) (C:∀b,M.iv.ownBlock=some b->¬Y b) (D:∀b,M.fv.ownBlock=some b->¬Y b) (i:∀b,Mu b->Mu' b) (G:∀b,Mu' b->b<E (U w')) (K:∀b,b<E (U w)->Mu' b->Mu b):MS w' mb M trs ims fns Xd Xi Xf Mu' H:=by
 have n:al (λb=>¬Mu b/\b<E (U w)) w w':=λb o d=>e.block b d (λv=>o.1 (y b v));have p:=e.size;have q:∀b,¬Mu b->b<E (U w)->(¬Mu b/\b<E (U w)):=λb t u=>⟨t,u⟩;have s:∀b,(¬Mu b/\b<E (U w))->b<E (U w')->¬Mu' b:=λb o _ j=>o.1 (K b o.2 j);obtain⟨L,N,P,R⟩:=h.jF;have f:=h.pi;exact⟨⟨(e.block _ h.mk'.lt z).trans h.mk',⟨ag f.cK.row (λb c d=>e.block b d (t b c)),f.cK.bB,λm j=>⟨ag (f.cK.names m j).1 (λb c d=>e.block b d (u m j b c)),(f.cK.names m j).2⟩⟩,f.q,ag f.cu (λb c d=>e.block b d (A b c)),f.bB,f.lg⟩,ag h.tr (λb c d=>e.block b d (B b c)),ag h.im (λb c d=>e.block b d (C b c)),ag h.fn (λb c d=>e.block b d (D b c)),i _ h.dT,G,λb c=>i _ (h.lF b c),λm j b c=>i _ (h.jN m j b c),λb c=>i _ (h.jt b c),λb c=>i _ (h.jX b c),λb c=>i _ (h.lL b c),λb c=>i _ (h.lY b c),⟨L,N,P,λS T V W v=>(((R S T V W v).weaken q).frame n p).weaken s⟩,λx l=>(((h.jq x l).weaken q).frame n p).weaken s,h.lO.imp (λY x l=>((l.weaken q).frame n p).weaken s),h.lp.imp (λY x l=>((l.weaken q).frame n p).weaken s)⟩
end
def rW (D T F:Nat) (r:Nm):Prop:=NQ D T r/\(r.sort=3->r.n<(F:Int))
theorem rW.mono {D T c T':Nat} (h:rW D T F r) (d:D<=c) (e:T<=T') (hF:F<=F'):rW c T' F' r:=⟨⟨h.1.1,λb=>oH (h.1.2.1 b),λb=>oH (h.1.2.2 b)⟩,λb=>oH (h.2 b)⟩
structure NE (wb:World) (mb kb:Nat) (M:MK) (trs:VV) (Xd Xi Xf:Nat) (Mu0 Mu:Nat->Prop) (H:Nat) (nm:ByteArray) (ow:Int) (no:OA) (nc:Nat) (ns:List Nm) (F:Nat) (wr:World):Prop where
 s:MS wr mb M trs [] [] Xd Xi Xf Mu H
 ik:wr.heap[kb]? =some (Ob #[.string nm,J no (O ns) nc,vN ow] 115 (0,0))
 row:wr.ownsRow (E (U wb)) 117 4 (J no (O ns) nc) (O ns) (ns.map Nm.c).flatten
 own:∀b,(Value.slice no (O ns) nc).ownBlock=some b->Mu b
 rC:Mu kb
 rD:E (U wb)<=kb
 oO:∀b,(Value.slice M.mo (O M.ms) M.mc).ownBlock=some b->b<E (U wb)
 mQ:∀m∈M.ms,∀b,(Value.slice m.ao (O m.ns) m.cp).ownBlock=some b->b<E (U wb)
 kx:KX Mu0 (E (U wb)) wb wr
 m0:Mu0 mb
 m1:∀b,Mu0 b->Mu b
 m2:∀b,b<E (U wb)->Mu b->Mu0 b
 q:∀r∈ns,rW (O M.ds) (O trs) F r
section
variable{wb wr w':World} {mb kb:Nat} {M:MK} {trs:VV} {Xd Xi Xf:Nat} {Mu0 Mu:Nat->Prop} {H:Nat} {nm:ByteArray} {ow:Int} {no:OA} {nc:Nat} {ns:List Nm} {F F':Nat} {k a k' a':Int}
theorem NE.below (q:NE wb mb kb M trs Xd Xi Xf Mu0 Mu H nm ow no nc ns F wr) (b:Below (E (U wr)) wr w'):NE wb mb kb M trs Xd Xi Xf Mu0 Mu H nm ow no nc ns F w':=
 ⟨q.s.below b,(b.block _ (gE q.ik).1).trans q.ik,ag q.row (λc _ d=>b.block c d),q.own,q.rC,q.rD,q.oO,q.mQ,q.kx.trans ((KX.aq b).mono (λ_ _ h=>h) q.kx.size),q.m0,q.m1,q.m2,q.q⟩
theorem NE.bt (q:NE wb mb kb (M.bt k a) trs Xd Xi Xf Mu0 Mu H nm ow no nc ns F wr) (b:Kp (E (U wr)) mb wr w') (c:cF w' mb ((M.bt k a).bt k' a')):NE wb mb kb (M.bt k' a') trs Xd Xi Xf Mu0 Mu H nm ow no nc ns F w':=
 ⟨q.s.no c b,(b.block _ (gE q.ik).1 (aI q.ik q.s.mk' dC)).trans q.ik,ag q.row (λd e f=>b.block d f (by
  obtain⟨j,i⟩:=aX q.row e;exact aI i q.s.mk' dC)),q.own,q.rC,q.rD,q.oO,q.mQ,q.kx.trans ((KX.cN b q.m0).mono (λ_ _ h=>h) q.kx.size),q.m0,q.m1,q.m2,q.q⟩
theorem NE.vK {c:MK} {f:VV} (q:NE wb mb kb M trs Xd Xi Xf Mu0 Mu H nm ow no nc ns F wr) (n:MS w' mb c f [] [] Xd Xi Xf Mu' H) {P:Nat->Prop} (l:KT P wr w') (m:P 115/\P 117) (o:KX Mu (E (U wr)) wr w') (i:∀b,Mu b->Mu' b) (p:∀b,b<E (U wr)->Mu' b->Mu b) (e:c.ms=M.ms/\c.mo=M.mo/\c.mc=M.mc) (s:O M.ds<=O c.ds) (t:O trs<=O f) (hF:F<=F'):NE wb mb kb c f Xd Xi Xf Mu0 Mu' H nm ow no nc ns F' w':=by
 have u:=q.kx.size;exact⟨n,au l q.ik m.1,ah q.row l m.2,λb v=>i b (q.own b v),i _ q.rC,q.rD,by rw[e.1,e.2.1,e.2.2];exact q.oO,by rw[e.1];exact q.mQ,q.kx.trans (o.mono (λb j d=>q.m2 b j d) u),q.m0,λb d=>i b (q.m1 b d),λb j d=>q.m2 b j (p b oM d),λr x=>(q.q r x).mono s t hF⟩
theorem NE.push (q:NE wb mb kb M trs Xd Xi Xf Mu0 Mu H nm ow no nc ns F wr) (Y:rW (O M.ds) (O trs) F r) (D:O ns<=20000) (G:TypeId) {ad:Nat} (Z:ad=E (U wr)):
 ∃u w',(Builtin.append_ #[113,113] G #[J no (O ns) nc,J (aS ad) 1 1]).run Tryz.prog (wr.alloc (Ob #[.string r.name,vN r.sort,vN r.n,.bool r.eQ] 117))=.ok u w'/\∃e f Mu',u=J e (O ns+1) f/\w'.heap[kb]? =some (Ob #[.string nm,J no (O ns) nc,vN ow] 115 (0,0))/\KT (λl=>l≠117/\l≠115) wr (w'.setCell ⟨kb,1,I⟩ (J e (O ns+1) f))/\NE wb mb kb M trs Xd Xi Xf Mu0 Mu' H nm ow e f (ns++[r]) F (w'.setCell ⟨kb,1,I⟩ (J e (O ns+1) f)):=by
 have K:=q.kx.size;obtain⟨u,w',aa,i⟩:=fg (W:=wr) Tryz.underlying113 vM Q dC q.row K #[.string r.name,vN r.sort,vN r.n,.bool r.eQ] rfl (by intro av m;simp at m;repeat(first|(subst m;rfl)|(rcases m with m|m;(subst m;rfl)))) (by unfold maxLen;omega) oM G Z;obtain⟨e,f,rfl⟩:=i.shape;have L:=App.kt q.row i;have v:=au L q.ik dC;have N:=KT.set v 1 (J e (O ns+1) f);have ab:KT (λl=>l≠117/\l≠115) wr (w'.setCell ⟨kb,1,I⟩ (J e (O ns+1) f)):=(L.mono (λl x=>x.1)).trans (N.mono (λl x=>x.2));have ac:E (U wr)<=E (U w'):=lT sQ i.grown.size;have ae:KX (λb=>(Value.slice no (O ns) nc).ownBlock=some b\/b=kb) (E (U wr)) wr w':=⟨i.grown.os,i.grown.tape,i.grown.output,ac,λb c D=>(i.grown.block b (by simp;omega) (λj=>D (.inl j.symm))).trans (Below.heap_alloc _ _ _ c)⟩;have P:KX (λb=>(Value.slice no (O ns) nc).ownBlock=some b\/b=kb) (E (U wr)) wr (w'.setCell ⟨kb,1,I⟩ (J e (O ns+1) f)):=ae.setCell (p:=⟨kb,1,I⟩) (.inr (.inr Q)) _;have af:∀b,((Value.slice no (O ns) nc).ownBlock=some b\/b=kb)->Mu b:=λb c=>by rcases c with c|c;exact q.own b c;rw[c];exact q.rC
 have y:∀b,((Value.slice no (O ns) nc).ownBlock=some b\/b=kb)->E (U wb)<=b:=λb c=>by rcases c with c|c;exact(q.row.lt b c).1;rw[c];exact q.rD
 have ag:∀b,(Value.slice e (O ns+1) f).ownBlock=some b->b<E (U wr)->Mu b:=λb c o=>by
  rcases i.own with j|j
  ·exact q.own b (by rw[<-j];exact c)
  ·rw[j] at c;simp at c;omega
 have R:∀b,b<E (U wr)->(Mu b\/(Value.slice e (O ns+1) f).ownBlock=some b)->Mu b:=λb o c=>by rcases c with c|c;exact c;exact ag b c o
 have s:∀{S j T V:Nat} {z:Value} {X:List Value},wr.ownsRow S j T z V X->117≠j->115≠j->∀b,z.ownBlock=some b->¬((Value.slice no (O ns) nc).ownBlock=some b\/b=kb):=λ{S j T V z X} ai n t b c d=>by
  obtain⟨aw,A⟩:=aX ai c;rcases d with d|d
  ·obtain⟨aj,B⟩:=aX q.row d;exact aI B A n Q
  ·rw[d] at A;exact aI q.ik A t Q
 have ak:∀b,(Mu b\/(Value.slice e (O ns+1) f).ownBlock=some b)->b<E (U (w'.setCell ⟨kb,1,I⟩ (J e (O ns+1) f))):=λb c=>by
  rcases c with c|c
  ·have n:=q.s.mlt b c;simp;omega
  ·have n:=(i.row.lt b c).2;simpa using n
 have al:MS (w'.setCell ⟨kb,1,I⟩ (J e (O ns+1) f)) mb M trs [] [] Xd Xi Xf (λb=>Mu b\/(Value.slice e (O ns+1) f).ownBlock=some b) H:=q.s.other P af (λd=>by
  rcases d with d|d
  ·obtain⟨aj,B⟩:=aX q.row d;exact aI B q.s.mk' dC Q
  ·exact aI q.ik q.s.mk' dC d.symm) (λb c d=>by have n:=q.oO b c;have t:=y b d;omega) (λao ap b c d=>by have n:=q.mQ ao ap b c;have t:=y b d;omega) (s q.s.pi.cu dC dC) (s q.s.tr dC dC) (s q.s.im dC dC) (s q.s.fn dC dC) (λb c=>.inl c) ak R
 have C:O (ns++[r])=O ns+1:=sQ;refine⟨_,w',aa,e,f,λb=>Mu b\/(Value.slice e (O ns+1) f).ownBlock=some b,Q,v,ab,⟨al,?_,?_,λb c=>?_,.inl q.rC,q.rD,q.oO,q.mQ,q.kx.trans (P.mono (λb o d=>by have t:=y b d;omega) K),q.m0,λb c=>.inl (q.m1 b c),λb o c=>q.m2 b o (R b oM c),λaq d=>?_⟩⟩
 ·have:=heap_setCell_same w' kb 1 _ 115 (J e (O ns+1) f) v;rw[C];exact this
 ·rw[C,List.map_append,List.flatten_append];have ar:=ah i.row N dC;simpa[Nm.c] using ar
 ·rw[C] at c;exact .inr c
 ·rcases List.mem_append.1 d with d|d
  ·exact q.q aq d
  ·rw[List.mem_singleton.1 d];exact Y
theorem NE.oZ (q:NE wb mb kb M trs Xd Xi Xf Mu0 Mu H nm ow no nc ns F wr) (x:Int):NE wb mb kb M trs Xd Xi Xf Mu0 Mu H nm x no nc ns F (wr.setCell ⟨kb,2,I⟩ (vN x)):=by
 have e:KX (λb=>b=kb) (E (U wr)) wr (wr.setCell ⟨kb,2,I⟩ (vN x)):=(KX.refl (λb=>b=kb) (E (U wr)) wr).setCell (p:=⟨kb,2,I⟩) (.inr (show kb=kb from rfl)) _;have i:E (U (wr.setCell ⟨kb,2,I⟩ (vN x)))=E (U wr):=sQ;have n:=q.rD;have j:MS (wr.setCell ⟨kb,2,I⟩ (vN x)) mb M trs [] [] Xd Xi Xf Mu H:=q.s.other e (λb c=>c▸q.rC) (λc=>aI q.ik q.s.mk' dC c.symm) (λb d c=>oH (q.oO b d)) (λl m b d c=>oH (q.mQ l m b d)) (λb d c=>cW q.s.pi.cu q.ik dC (c▸d)) (λb d c=>cW q.s.tr q.ik dC (c▸d)) (λb d c=>cW q.s.im q.ik dC (c▸d)) (λb d c=>cW q.s.fn q.ik dC (c▸d)) (λ_ h=>h) (λb d=>by rw[i];exact q.s.mlt b d) (λ_ _ h=>h);exact⟨j,heap_setCell_same wr kb 2 _ 115 (vN x) q.ik,ag q.row (λb d f=>e.block b f (λc=>cW q.row q.ik dC (c▸d))),q.own,q.rC,q.rD,q.oO,q.mQ,q.kx.trans (e.mono (λb f c=>by omega) q.kx.size),q.m0,q.m1,q.m2,q.q⟩
end
end
section
variable{s:ByteArray} {c m n p:Int} {ns:List Nm} {r:Nm} {ks:VV} {kv:Value}
def cT (c:Int):List Value->Nat
 |.int _ k::_=>if k=c then 1 else 0
 |_=>0
def uH (ks:VV) (ns:List Nm):Prop:=∀(c p n m:Int) (s:ByteArray) (kv:Value),(ae c p n m s kv).toList∈ks->c=3\/c=6\/c=8->∃r∈ns,r.name.toList=s.toList/\(c=3->r.sort=0)/\(c=6->r.sort=2)/\(c=8->r.sort=3)
def vS (ns:List Nm):Prop:=ns.Pairwise (λx y=>x.name.toList≠y.name.toList)
theorem vS.eq (h:vS ns) {x b:Nm} (f:x∈ns) (i:b∈ns) (e:x.name.toList=b.name.toList):x=b:=by
 induction ns with
 |nil=>simp at f
 |cons t r o=>
  obtain⟨j,q⟩:=List.pairwise_cons.1 h;rcases List.mem_cons.1 f with l|hx2
  ·rcases List.mem_cons.1 i with d|hy2
   ·rw[l,d]
   ·rw[l] at e;exact absurd e (j b hy2)
  ·rcases List.mem_cons.1 i with d|hy2
   ·rw[d] at e;exact absurd e.symm (j x hx2)
   ·exact o q hx2 hy2
theorem uH.sort (h:uH ks ns) (b:vS ns) (d:(ae c p n m s kv).toList∈ks) (f:c=3\/c=6\/c=8) (i:r∈ns) (e:r.name.toList=s.toList):(c=3->r.sort=0)/\(c=6->r.sort=2)/\(c=8->r.sort=3):=by
 obtain⟨q,j,l,o⟩:=h c p n m s kv d f;obtain rfl:=b.eq i j (e.trans l.symm);exact o
theorem vS.snoc (h:vS ns) (b:∀x∈ns,x.name.toList≠r.name.toList):vS (ns++[r]):=List.pairwise_append.2 ⟨h,List.pairwise_singleton _ _,λx d f e=>by rw[List.mem_singleton.1 e];exact b x d⟩
theorem uH.snoc (h:uH ks ns) (e:r.name.toList=s.toList) (f:(c=3->r.sort=0)/\(c=6->r.sort=2)/\(c=8->r.sort=3)):uH (ks++[(ae c p n m s kv).toList]) (ns++[r]):=by
 intro i j l o q t b u;rcases List.mem_append.1 b with b|b
 ·obtain⟨v,x,y⟩:=h i j l o q t b u;exact⟨v,List.mem_append_left _ x,y⟩
 ·have d:=List.mem_singleton.1 b;simp at d;obtain⟨rfl,rfl,rfl,rfl,rfl,rfl⟩:=d;exact⟨r,sQ,e,f⟩
theorem uH.skip (h:uH ks ns) (f:¬(c=3\/c=6\/c=8)):uH (ks++[(ae c p n m s kv).toList]) ns:=by
 intro i j l o q t b d;rcases List.mem_append.1 b with b|b
 ·exact h i j l o q t b d
 ·have e:=List.mem_singleton.1 b;simp at e;obtain⟨rfl,rfl,rfl,rfl,rfl,rfl⟩:=e;exact absurd d f
def DJ (ms:List Md):Prop:=∀(i j:Nat) (a b:Md),ms[i]? =some a->ms[j]? =some b->i≠j->∀x,(Value.slice a.ao (O a.ns) a.cp).ownBlock=some x->(Value.slice b.ao (O b.ns) b.cp).ownBlock≠some x
structure NO (w:World) (mb:Nat) (M:MK) (trs:VV) (Xd Xi Xf:Nat) (Mu:Nat->Prop) (H:Nat) (kss:List VV) (wr:World) (M':MK) (trs':VV) (Mu':Nat->Prop):Prop where
 s:MS wr mb M' trs' [] [] Xd Xi Xf Mu' H
 kx:KX Mu (E (U w)) w wr
 m1:∀b,Mu b->Mu' b
 m2:∀b,b<E (U w)->Mu' b->Mu b
 ml:O M'.ms=O kss
 dl:O M'.ds=O M.ds+(kss.flatten.map (cT 3)).sum
 tl:O trs'=O trs+(kss.flatten.map (cT 6)).sum
 nz:∀(j:Nat) (d:Dd),O M.ds<=j->M'.ds[j]? =some d->d.ak=0/\d.cL=0
 tv:∃o c,M'.tv=J o (O trs') c
 rest:M'.iv=M.iv/\M'.fv=M.fv/\M'.mn=M.mn/\M'.rv=M.rv/\M'.nv=M.nv
 own:∀m∈M'.ms,m.own=O m.ns
 q:∀m∈M'.ms,∀r∈m.ns,rW (O M'.ds) (O trs') (kss.flatten.map bG).sum r
 ok:M'.fk=0->∀(j:Nat) (md:Md) (ks:VV),M'.ms[j]? =some md->kss[j]? =some ks->uH ks md.ns/\vS md.ns
 ln:∀(j:Nat) (md:Md) (ks:VV),M'.ms[j]? =some md->kss[j]? =some ks->O md.ns+(ks.map (cT 2)).sum<=O ks
 dj:DJ M'.ms
def ux (w:World) (mb:Nat) (M:MK) (trs:VV) (Xd Xi Xf:Nat) (Mu:Nat->Prop) (H:Nat) (kss:List VV) (e:Ending) (w':World):Prop:=∃(M':MK) (trs':VV) (Mu':Nat->Prop),e=.returned (.tuple #[])/\NO w mb M trs Xd Xi Xf Mu H kss w' M' trs' Mu'
section
variable{w wr w':World} {mb:Nat} {M M':MK} {trs trs':VV} {Xd Xi Xf:Nat} {Mu Mu':Nat->Prop} {H:Nat} {kss:List VV} {k a:Int}
theorem NO.below (q:NO w mb M trs Xd Xi Xf Mu H kss wr M' trs' Mu') (b:Below (E (U wr)) wr w'):NO w mb M trs Xd Xi Xf Mu H kss w' M' trs' Mu':=
 ⟨q.s.below b,q.kx.trans ((KX.aq b).mono (λ_ _ h=>h) q.kx.size),q.m1,q.m2,q.ml,q.dl,q.tl,q.nz,q.tv,q.rest,q.own,q.q,q.ok,q.ln,q.dj⟩
theorem NO.bt (q:NO w mb M trs Xd Xi Xf Mu H kss wr M' trs' Mu') (d:Kp (E (U wr)) mb wr w') (e:cF w' mb (M'.bt k a)) (f:M'.fk≠0->k=M'.fk):NO w mb M trs Xd Xi Xf Mu H kss w' (M'.bt k a) trs' Mu':=
 ⟨q.s.no e d,q.kx.trans ((KX.cN d q.s.dT).mono (λi j l=>q.m2 i j l) q.kx.size),q.m1,q.m2,q.ml,q.dl,q.tl,q.nz,q.tv,q.rest,q.own,q.q,λo=>q.ok (by
  by_cases b:M'.fk=0
  ·exact b
  ·have t:=f b;have u:k=0:=o;exact absurd (t.symm.trans u) b),q.ln,q.dj⟩
theorem NO.begin (q:NO w mb M trs Xd Xi Xf Mu H kss wr M' trs' Mu') (f:ByteArray):NE wr mb (E (U wr)) M' trs' Xd Xi Xf Mu' (λb=>Mu' b\/b=E (U wr)) H f 0 I 0 [] (kss.flatten.map bG).sum (wr.alloc (Ob #[.string f,J I 0 0,vN 0] 115)):=by
 obtain⟨j,o⟩:=al1 wr (Ob #[.string f,J I 0 0,vN 0] 115);have v:E (U (wr.alloc (Ob #[.string f,J I 0 0,vN 0] 115)))=E (U wr)+1:=sQ;have i:=q.s.mlt;have l:∀b,b<E (U wr)->(Mu' b\/b=E (U wr))->Mu' b:=λb d e=>by rcases e with e|e;exact e;omega
 exact⟨q.s.grow j (λb d=>.inl d) (λb d=>by rcases d with d|d;(have:=i b d;omega);omega) l,o,World.ownsRow_nil _ _ _ _,λb t=>by simp[Value.ownBlock] at t,.inr Q,lR _,λb d=>i b (q.s.lF b d),λm e b d=>i b (q.s.jN m e b d),KX.aq j,q.s.dT,λb d=>.inl d,l,λr u=>by simp at u⟩
end
end
section
variable{s:ByteArray} {c m n p:Int} {x:List Value} {ad:Nat} {kc:VV} {kv:Value}
structure NI (wb:World) (mb kb:Nat) (M0:MK) (trs0:VV) (Xd Xi Xf:Nat) (Mu0 Mu:Nat->Prop) (H:Nat) (nm:ByteArray) (ow:Int) (no:OA) (nc:Nat) (ns:List Nm) (kc kn:VV) (F0:Nat) (wr:World) (M1:MK) (trs1:VV):Prop where
 e:NE wb mb kb M1 trs1 Xd Xi Xf Mu0 Mu H nm ow no nc ns (F0+(kc.map bG).sum) wr
 ms:M1.ms=M0.ms/\M1.mo=M0.mo/\M1.mc=M0.mc
 dl:O M1.ds=O M0.ds+(kc.map (cT 3)).sum
 tl:O trs1=O trs0+(kc.map (cT 6)).sum
 nz:∀(j:Nat) (d:Dd),O M0.ds<=j->M1.ds[j]? =some d->d.ak=0/\d.cL=0
 dk:∀j,j<O M0.ds->M1.ds[j]? =M0.ds[j]?
 tv:∃o c,M1.tv=J o (O trs1) c
 rest:M1.iv=M0.iv/\M1.fv=M0.fv/\M1.mn=M0.mn/\M1.rv=M0.rv/\M1.nv=M0.nv
 hf:M0.fk≠0->M1.fk≠0
 ok:M1.fk=0->uH kn ns/\vS ns
 len:O ns+(kn.map (cT 2)).sum<=O kn
section
variable{wb wr w':World} {mb kb:Nat} {M0 M1:MK} {trs0 trs1:VV} {Xd Xi Xf:Nat} {Mu0 Mu:Nat->Prop} {H:Nat} {nm:ByteArray} {ow:Int} {no:OA} {nc:Nat} {ns:List Nm} {kc kn:VV} {F0:Nat} {k a:Int}
theorem NI.below (q:NI wb mb kb M0 trs0 Xd Xi Xf Mu0 Mu H nm ow no nc ns kc kn F0 wr M1 trs1) (b:Below (E (U wr)) wr w'):NI wb mb kb M0 trs0 Xd Xi Xf Mu0 Mu H nm ow no nc ns kc kn F0 w' M1 trs1:=
 ⟨q.e.below b,q.ms,q.dl,q.tl,q.nz,q.dk,q.tv,q.rest,q.hf,q.ok,q.len⟩
theorem NI.bt (q:NI wb mb kb M0 trs0 Xd Xi Xf Mu0 Mu H nm ow no nc ns kc kn F0 wr M1 trs1) (j:Kp (E (U wr)) mb wr w') (l:cF w' mb (M1.bt k a)) (i:M1.fk≠0->k=M1.fk):NI wb mb kb M0 trs0 Xd Xi Xf Mu0 Mu H nm ow no nc ns kc kn F0 w' (M1.bt k a) trs1:=by
 have o:NE wb mb kb (M1.bt k a) trs1 Xd Xi Xf Mu0 Mu H nm ow no nc ns (F0+(kc.map bG).sum) w':=NE.bt (M:=M1) (k:=M1.fk) (a:=M1.fa) q.e j l;refine⟨o,q.ms,q.dl,q.tl,q.nz,q.dk,q.tv,q.rest,λh d=>?_,λd=>q.ok ?_,q.len⟩
 ·have b:=q.hf h;have e:=i b;have r:k=0:=d;exact b (e.symm.trans r)
 ·by_cases f:M1.fk=0
  ·exact f
  ·have b:=i f;have e:k=0:=d;exact absurd (b.symm.trans e) f
theorem tQ (c:Int) (x:List Value):cT c x<=1:=by
 unfold cT;split
 ·split<;>omega
 ·omega
theorem ck {f:List Value->Nat}:((kc++[x]).map f).sum=(kc.map f).sum+f x:=sQ
theorem NI.other (q:NI wb mb kb M0 trs0 Xd Xi Xf Mu0 Mu H nm ow no nc ns kc kn F0 wr M1 trs1) (d:cT 3 x=0) (e:cT 6 x=0):NI wb mb kb M0 trs0 Xd Xi Xf Mu0 Mu H nm ow no nc ns (kc++[x]) kn F0 wr M1 trs1:=by
 have b:=q.e;exact⟨⟨b.s,b.ik,b.row,b.own,b.rC,b.rD,b.oO,b.mQ,b.kx,b.m0,b.m1,b.m2,λf i=>(b.q f i).mono (lR _) (lR _) (by rw[ck];omega)⟩,q.ms,by rw[ck,d];exact q.dl,by rw[ck,e];exact q.tl,q.nz,q.dk,q.tv,q.rest,q.hf,q.ok,q.len⟩
theorem NI.data (q:NI wb mb kb M0 trs0 Xd Xi Xf Mu0 Mu H nm ow no nc ns kc kn F0 wr M1 trs1) (C:cT 3 x=1) (D:cT 6 x=0) {d:Dd} (F:d.ao=I) (G:d.cs=[]) (t:d.ak=0/\d.cL=0) (K:d.cp=0) {cl:Array Value} (L:cl.toList=d.c) (N:cl.size=10) (one:∀u∈cl.toList,u.oneCell'=true) (P:O M1.ds<=199999) (v:TypeId) (R:ad=E (U wr)):
 ∃i w',(Builtin.append_ #[24,24] v #[J M1.cV (O M1.ds) M1.dN,J (aS ad) 1 1]).run Tryz.prog (wr.alloc (Ob cl 64))=.ok i w'/\∃b e j,i=J b (O M1.ds+1) e/\cF w' mb M1/\KT (λl=>l≠64) wr w'/\KX Mu (E (U wr)) wr w'/\KT (λl=>l≠64/\l≠88) wr (w'.setCell ⟨mb,1,I⟩ (J b (O M1.ds+1) e))/\KX Mu (E (U wr)) wr (w'.setCell ⟨mb,1,I⟩ (J b (O M1.ds+1) e))/\NI wb mb kb M0 trs0 Xd Xi Xf Mu0 j H nm ow no nc ns (kc++[x]) kn F0 (w'.setCell ⟨mb,1,I⟩ (J b (O M1.ds+1) e)) {M1 with cV:=b,dN:=e,ds:=M1.ds++[d]} trs1:=by
 obtain⟨i,w',S,b,e,j,T,V,W,X,y,Y,Z,z,aa⟩:=q.e.s.yN F G t K L N one P v R;have ag:=q.dl;have A:O (M1.ds++[d])=O M1.ds+1:=sQ;have ab:NE wb mb kb {M1 with cV:=b,dN:=e,ds:=M1.ds++[d]} trs1 Xd Xi Xf Mu0 j H nm ow no nc ns (F0+((kc++[x]).map bG).sum) (w'.setCell ⟨mb,1,I⟩ (J b (O M1.ds+1) e)):=q.e.vK aa z dC y Y Z ⟨Q,Q,Q⟩ (by show _<=O (M1.ds++[d]);rw[A];omega) (lR _) (by rw[ck];omega);refine⟨i,w',S,b,e,j,T,V,W,X,z,y,⟨ab,q.ms,?_,by rw[ck,D];exact q.tl,λf B r ac=>?_,λf r=>?_,q.tv,q.rest,q.hf,q.ok,q.len⟩⟩
 ·show(M1.ds++[d]).length=_;rw[A,ck,C];omega
 ·have o:(M1.ds++[d])[f]? =some B:=ac;by_cases ae:f<O M1.ds
  ·rw[List.getElem?_append_left ae] at o;exact q.nz f B r o
  ·rw[List.getElem?_append_right oM] at o;have af:=mG o;rw[List.mem_singleton.1 af];exact t
 ·show(M1.ds++[d])[f]? =_;rw[List.getElem?_append_left oM];exact q.dk f r
theorem NI.sy (q:NI wb mb kb M0 trs0 Xd Xi Xf Mu0 Mu H nm ow no nc ns kc kn F0 wr M1 trs1) (A:cT 3 x=0) (B:cT 6 x=1) {t:OA} {u:Nat} (C:M1.tv=J t (O trs1) u) (e:ByteArray) (mod f:Int) (i:Bool) (D:O trs1<=199999) (v:TypeId) (F:ad=E (U wr)):
 ∃j w',(Builtin.append_ #[25,25] v #[J t (O trs1) u,J (aS ad) 1 1]).run Tryz.prog (wr.alloc (Ob (js e mod f i I 0 0) 93))=.ok j w'/\∃b d l,j=J b (O trs1+1) d/\cF w' mb M1/\KT (λo=>o≠93) wr w'/\KX Mu (E (U wr)) wr w'/\KT (λo=>o≠93/\o≠88) wr (w'.setCell ⟨mb,2,I⟩ (J b (O trs1+1) d))/\KX Mu (E (U wr)) wr (w'.setCell ⟨mb,2,I⟩ (J b (O trs1+1) d))/\NI wb mb kb M0 trs0 Xd Xi Xf Mu0 l H nm ow no nc ns (kc++[x]) kn F0 (w'.setCell ⟨mb,2,I⟩ (J b (O trs1+1) d)) {M1 with tv:=J b (O trs1+1) d} (trs1++[(js e mod f i I 0 0).toList]):=by
 obtain⟨j,w',G,b,d,l,K,L,N,P,y,R,S,z,T⟩:=q.e.s.um C e mod f i D v F;have W:=q.tl;have r:O (trs1++[(js e mod f i I 0 0).toList])=O trs1+1:=sQ;have V:NE wb mb kb {M1 with tv:=J b (O trs1+1) d} (trs1++[(js e mod f i I 0 0).toList]) Xd Xi Xf Mu0 l H nm ow no nc ns (F0+((kc++[x]).map bG).sum) (w'.setCell ⟨mb,2,I⟩ (J b (O trs1+1) d)):=q.e.vK T z dC y R S ⟨Q,Q,Q⟩ (lR _) (by rw[r];omega) (by rw[ck];omega);refine⟨j,w',G,b,d,l,K,L,N,P,z,y,⟨V,q.ms,by rw[ck,A];exact q.dl,?_,q.nz,q.dk,⟨b,d,by rw[r]⟩,q.rest,q.hf,q.ok,q.len⟩⟩;rw[r,ck,B];omega
theorem NI.oZ (q:NI wb mb kb M0 trs0 Xd Xi Xf Mu0 Mu H nm ow no nc ns kc kn F0 wr M1 trs1) (x:Int):NI wb mb kb M0 trs0 Xd Xi Xf Mu0 Mu H nm x no nc ns kc kn F0 (wr.setCell ⟨kb,2,I⟩ (vN x)) M1 trs1:=
 ⟨q.e.oZ x,q.ms,q.dl,q.tl,q.nz,q.dk,q.tv,q.rest,q.hf,q.ok,q.len⟩
theorem NI.skip (q:NI wb mb kb M0 trs0 Xd Xi Xf Mu0 Mu H nm ow no nc ns kc kn F0 wr M1 trs1) (d:¬(c=3\/c=6\/c=8)):NI wb mb kb M0 trs0 Xd Xi Xf Mu0 Mu H nm ow no nc ns kc (kn++[(ae c p n m s kv).toList]) F0 wr M1 trs1:=
 ⟨q.e,q.ms,q.dl,q.tl,q.nz,q.dk,q.tv,q.rest,q.hf,λb=>⟨(q.ok b).1.skip d,(q.ok b).2⟩,by have e:=q.len;have f:=tQ 2 (ae c p n m s kv).toList;rw[ck,List.length_append,List.length_singleton];omega⟩
theorem NI.push (q:NI wb mb kb M0 trs0 Xd Xi Xf Mu0 Mu H nm ow no nc ns kc kn F0 wr M1 trs1) {r:Nm} (o:rW (O M1.ds) (O trs1) (F0+(kc.map bG).sum) r) (t:r.name.toList=s.toList) (u:(c=3->r.sort=0)/\(c=6->r.sort=2)/\(c=8->r.sort=3)) (v:M1.fk=0->∀x∈ns,x.name.toList≠r.name.toList) (K:c=3\/c=6\/c=8) (y:O ns<=20000) (j:TypeId) (z:ad=E (U wr)):
 ∃e w',(Builtin.append_ #[113,113] j #[J no (O ns) nc,J (aS ad) 1 1]).run Tryz.prog (wr.alloc (Ob #[.string r.name,vN r.sort,vN r.n,.bool r.eQ] 117))=.ok e w'/\∃b d f,e=J b (O ns+1) d/\w'.heap[kb]? =some (Ob #[.string nm,J no (O ns) nc,vN ow] 115 (0,0))/\KT (λl=>l≠117/\l≠115) wr (w'.setCell ⟨kb,1,I⟩ (J b (O ns+1) d))/\NI wb mb kb M0 trs0 Xd Xi Xf Mu0 f H nm ow b d (ns++[r]) kc (kn++[(ae c p n m s kv).toList]) F0 (w'.setCell ⟨kb,1,I⟩ (J b (O ns+1) d)) M1 trs1:=by
 obtain⟨e,w',A,b,d,f,B,C,D,F⟩:=q.e.push o y j z;exact⟨e,w',A,b,d,f,B,C,D,⟨F,q.ms,q.dl,q.tl,q.nz,q.dk,q.tv,q.rest,q.hf,λi=>⟨(q.ok i).1.snoc t u,(q.ok i).2.snoc (v i)⟩,by have L:=q.len;have G:cT 2 (ae c p n m s kv).toList=0:=(if_neg oM:(if c=2 then 1 else 0)=0);rw[ck,G,List.length_append,List.length_append,List.length_singleton,List.length_singleton];omega⟩⟩
end
section
variable{w wb wr w':World} {mb kb:Nat} {M M0 M1:MK} {trs trs0 trs1:VV} {Xd Xi Xf:Nat} {Mu Mu0 Mu1:Nat->Prop} {H:Nat} {nm:ByteArray} {ow:Int} {no:OA} {nc:Nat} {ns:List Nm} {ks:VV} {kss:List VV}
theorem NO.open (q:NO w mb M trs Xd Xi Xf Mu H kss wr M0 trs0 Mu0) (nm:ByteArray):NI wr mb (E (U wr)) M0 trs0 Xd Xi Xf Mu0 (λb=>Mu0 b\/b=E (U wr)) H nm 0 I 0 [] [] [] (kss.flatten.map bG).sum (wr.alloc (Ob #[.string nm,J I 0 0,vN 0] 115)) M0 trs0:=by
 have d:=q.begin nm;have i:O trs0=O trs0+(([]:VV).map (cT 6)).sum:=sQ;refine⟨sU d,⟨Q,Q,Q⟩,sQ,sQ,?_,λ_ _=>rfl,q.tv,⟨Q,Q,Q,Q,Q⟩,λh=>h,λ_=>⟨λc p n m s kv e=>by simp at e,List.Pairwise.nil⟩,lR _⟩;intro j l o f;have:=(gS f).1;omega
theorem NI.done (d:NO w mb M trs Xd Xi Xf Mu H kss wb M0 trs0 Mu0) (q:NI wb mb kb M0 trs0 Xd Xi Xf Mu0 Mu1 H nm ow no nc ns ks ks (kss.flatten.map bG).sum wr M1 trs1) (aj:O M1.ms<=19999) (hl:O ns<=30000) (Z:TypeId) (ak:ad=E (U wr)):
 ∃C w',(Builtin.append_ #[23,23] Z #[J M1.mo (O M1.ms) M1.mc,J (aS ad) 1 1]).run Tryz.prog (wr.alloc (Ob #[.string nm,J no (O ns) nc,vN (O ns)] 115))=.ok C w'/\∃v y G,C=J v (O M1.ms+1) y/\cF w' mb M1/\w'.heap[kb]? =wr.heap[kb]? /\NO w mb M trs Xd Xi Xf Mu H (kss++[ks]) (w'.setCell ⟨mb,0,I⟩ (J v (O M1.ms+1) y)) {M1 with mo:=v,mc:=y,ms:=M1.ms++[(⟨nm,no,nc,ns,O ns⟩:Md)]} trs1 G:=by
 have al:wr.ownsRow 0 117 4 (J no (O ns) nc) (O ns) (ns.map Nm.c).flatten:=⟨q.e.row.1,q.e.row.2.imp id (λ⟨g,ao,ap,aq,_,ar⟩=>⟨g,ao,ap,aq,zL _,ar⟩)⟩;obtain⟨C,w',au,v,y,G,av,aw,aQ,aR,ax,ay,az,aT,aA,aB⟩:=q.e.s.yL (md:=⟨nm,no,nc,ns,O ns⟩) al q.e.own ⟨lR _,hl⟩ (λaC aD=>(q.e.q aC aD).1) aj Z ak;have aE:=d.kx.size;have aF:=q.e.kx.size;have K:(kss++[ks]).flatten=kss.flatten++ks:=sQ;have aa:=d.dl;have ab:=d.tl;have aU:=q.dl;have aV:=q.tl;have aG:(((kss++[ks]).flatten).map (cT 3)).sum=(kss.flatten.map (cT 3)).sum+(ks.map (cT 3)).sum:=by rw[K,List.map_append,List.sum_append]
 have aH:(((kss++[ks]).flatten).map (cT 6)).sum=(kss.flatten.map (cT 6)).sum+(ks.map (cT 6)).sum:=by rw[K,List.map_append,List.sum_append]
 have aI:(((kss++[ks]).flatten).map bG).sum=(kss.flatten.map bG).sum+(ks.map bG).sum:=by rw[K,List.map_append,List.sum_append]
 have z:=q.rest;have A:=d.rest;have aJ:KX Mu0 (E (U wb)) wb (w'.setCell ⟨mb,0,I⟩ (J v (O M1.ms+1) y)):=q.e.kx.trans (ax.mono (λf hl l=>q.e.m2 f hl l) aF);refine⟨C,w',au,v,y,G,av,aw,aB kb (gE q.e.ik).1 (λL=>by have b:=q.e.oO kb L;have i:=q.e.rD;omega),⟨aA,d.kx.trans (aJ.mono (λf hl l=>d.m2 f hl l) aE),λf l=>ay f (q.e.m1 f (d.m1 f l)),λf hl l=>d.m2 f hl (q.e.m2 f oM (az f oM l)),?_,?_,?_,?_,q.tv,⟨z.1.trans A.1,z.2.1.trans A.2.1,z.2.2.1.trans A.2.2.1,z.2.2.2.1.trans A.2.2.2.1,z.2.2.2.2.trans A.2.2.2.2⟩,?_,?_,?_,?_,?_⟩⟩
 ·show(M1.ms++[_]).length=O (kss++[ks]);rw[List.length_append,List.length_append,q.ms.1,d.ml];rfl
 ·show O M1.ds=_;rw[aG];omega
 ·rw[aH];omega
 ·intro e N aK aL;have P:M1.ds[e]? =some N:=aL;by_cases j:e<O M0.ds
  ·rw[q.dk e j] at P;exact d.nz e N aK P
  ·exact q.nz e N oM P
 ·intro m R;have S:m∈M1.ms++[(⟨nm,no,nc,ns,O ns⟩:Md)]:=R;rcases List.mem_append.1 S with b|b
  ·rw[q.ms.1] at b;exact d.own m b
  ·rw[List.mem_singleton.1 b]
 ·intro m R T V;have S:m∈M1.ms++[(⟨nm,no,nc,ns,O ns⟩:Md)]:=R;show rW (O M1.ds) (O trs1) _ T;rw[aI];rcases List.mem_append.1 S with b|b
  ·rw[q.ms.1] at b;exact(d.q m b T V).mono oM oM oM
  ·rw[List.mem_singleton.1 b] at V;exact q.e.q T V
 ·intro L e md W X o;have r:(M1.ms++[(⟨nm,no,nc,ns,O ns⟩:Md)])[e]? =some md:=X;have ac:M1.fk=0:=L
  have aM:M0.fk=0:=by
   by_cases ae:M0.fk=0
   ·exact ae
   ·exact absurd ac (q.hf ae)
  have af:=d.ml;have t:=q.ms.1;by_cases j:e<O M1.ms
  ·rw[List.getElem?_append_left j,t] at r;rw[t] at j;rw[List.getElem?_append_left oM] at o;exact d.ok aM e md W r o
  ·rw[List.getElem?_append_right oM] at r;rw[t] at j;rw[List.getElem?_append_right oM] at o;have b:=List.mem_singleton.1 (mG r);have i:=List.mem_singleton.1 (mG o);rw[b,i];exact q.ok ac
 ·intro e md W X o;have r:(M1.ms++[(⟨nm,no,nc,ns,O ns⟩:Md)])[e]? =some md:=X;have af:=d.ml;have t:=q.ms.1;by_cases j:e<O M1.ms
  ·rw[List.getElem?_append_left j,t] at r;rw[t,af] at j;rw[List.getElem?_append_left j] at o;exact d.ln e md W r o
  ·rw[List.getElem?_append_right oM] at r;rw[List.getElem?_append_right (by rw[t] at j;omega)] at o;have b:=List.mem_singleton.1 (mG r);have i:=List.mem_singleton.1 (mG o);rw[b,i];exact q.len
 ·intro ag e a f aN l aO x D F;have aP:(M1.ms++[(⟨nm,no,nc,ns,O ns⟩:Md)])[ag]? =some a:=aN;have ah:(M1.ms++[(⟨nm,no,nc,ns,O ns⟩:Md)])[e]? =some f:=l;have t:=q.ms.1
  have one:∀{k:Nat} {c:Md},(M1.ms++[(⟨nm,no,nc,ns,O ns⟩:Md)])[k]? =some c->(k<O M1.ms/\M1.ms[k]? =some c)\/(k=O M1.ms/\c=⟨nm,no,nc,ns,O ns⟩):=λ{k c} B=>by
   by_cases ai:k<O M1.ms
   ·rw[List.getElem?_append_left ai] at B;exact .inl ⟨ai,B⟩
   ·rw[List.getElem?_append_right oM] at B;have b:=(gS B).1;simp at b;exact .inr ⟨oM,List.mem_singleton.1 (mG B)⟩
  rcases one aP with⟨b,i⟩|⟨b,i⟩
  ·rcases one ah with⟨Y,u⟩|⟨Y,u⟩
   ·rw[t] at i u;exact d.dj ag e a f i u aO x D F
   ·rw[u] at F;have aa:=q.e.mQ a (mG i) x D;have ab:=(q.e.row.lt x F).1;omega
  ·rcases one ah with⟨Y,u⟩|⟨Y,u⟩
   ·rw[i] at D;have aa:=q.e.mQ f (mG u) x F;have ab:=(q.e.row.lt x D).1;omega
   ·omega
end
end
section
variable{i:Nat}
theorem ch {c:Type} {l:List c} {j:Nat} {x a:c} (h:(l.set i x)[j]? =some a):(j=i/\a=x)\/(j≠i/\l[j]? =some a):=by
 by_cases b:i=j
 ·subst b;rw[List.getElem?_set_self'] at h;by_cases d:i<O l
  ·rw[gG d] at h;exact .inl ⟨Q,sU h.symm⟩
  ·rw[List.getElem?_eq_none oM] at h;simp at h
 ·rw[List.getElem?_set_ne b] at h;exact .inr ⟨λe=>b e.symm,h⟩
section
variable{w w':World} {mb:Nat} {M:MK} {trs:VV} {Xd Xi Xf:Nat} {Mu Mu':Nat->Prop} {H H':Nat}
theorem MS.xR (h:MS w mb M trs [] [] Xd Xi Xf Mu H) (ak:DJ M.ms) {md:Md} (X:M.ms[i]? =some md) {q:Nat} (aF:M.mo=some ⟨q,0,I⟩) {r:Nm} (aG:NQ (O M.ds) (O trs) r) (N:O md.ns<=29999) (ao:TypeId) {ad:Nat} (aH:ad=E (U w)):
 ∃Y w',(Builtin.append_ #[113,113] ao #[J md.ao (O md.ns) md.cp,J (aS ad) 1 1]).run Tryz.prog (w.alloc (Ob #[.string r.name,vN r.sort,vN r.n,.bool r.eQ] 117))=.ok Y w'/\∃d e Mu',Y=J d (O md.ns+1) e/\cF w' mb M/\(∃aJ,w'.heap[q]? =some (Ob aJ 115 (0,0)))/\KT (λt=>t≠117) w w'/\KX Mu (E (U w)) w (w'.setCell ⟨q,i*3+1,I⟩ (J d (O md.ns+1) e))/\(∀a,Mu a->Mu' a)/\(∀a,a<E (U w)->Mu' a->Mu a)/\KT (λt=>t≠117/\t≠115) w (w'.setCell ⟨q,i*3+1,I⟩ (J d (O md.ns+1) e))/\MS (w'.setCell ⟨q,i*3+1,I⟩ (J d (O md.ns+1) e)) mb {M with ms:=M.ms.set i {md with ao:=d,cp:=e,ns:=md.ns++[r]}} trs [] [] Xd Xi Xf Mu' H/\DJ (M.ms.set i {md with ao:=d,cp:=e,ns:=md.ns++[r]})/\(∀a,a<E (U w)->(Value.slice md.ao (O md.ns) md.cp).ownBlock≠some a->w'.heap[a]? =w.heap[a]?):=by
 have m:=h.pi;have u:=mG X;obtain⟨ap,a4,a5⟩:=m.cK.names md u;obtain⟨Y,w',aK,n⟩:=fg (W:=w) Tryz.underlying113 vM Q dC ap (zL _) #[.string r.name,vN r.sort,vN r.n,.bool r.eQ] rfl (by intro a6 z;simp at z;repeat(first|(subst z;rfl)|(rcases z with z|z;(subst z;rfl)))) (by unfold maxLen;omega) oM ao aH;obtain⟨d,e,rfl⟩:=n.shape;have D:=App.kt ap n;have aq:=au D h.mk' dC;have Z:(Value.slice M.mo (O M.ms) M.mc).ownBlock=some q:=by rw[aF];rfl
 obtain⟨aL,ar⟩:=aX m.cK.row Z;have av:=au D ar dC;have P:=KT.set av (i*3+1) (J d (O md.ns+1) e);obtain⟨W,A⟩:∃W,W=w'.setCell ⟨q,i*3+1,I⟩ (J d (O md.ns+1) e):=⟨_,Q⟩;rw[<-A] at P;have F:KT (λt=>t≠117/\t≠115) w W:=(D.mono (λt aa=>aa.1)).trans (P.mono (λt aa=>aa.2));have aM:E (U w)<=E (U w'):=lT sQ n.grown.size;have a7:E (U W)=E (U w'):=by rw[A];simp
 have aw:E (U w)<=E (U W):=oM;have ab:∀a,(Value.slice md.ao (O md.ns) md.cp).ownBlock=some a->Mu a:=h.jN md u;have aN:KX Mu (E (U w)) w w':=⟨n.grown.os,n.grown.tape,n.grown.output,aM,λa b N=>(n.grown.block a (by simp;omega) (λj=>N (ab a j.symm))).trans (Below.heap_alloc _ _ _ b)⟩;have ax:KX Mu (E (U w)) w W:=by rw[A];exact aN.setCell (p:=⟨q,i*3+1,I⟩) (.inr (h.lF q Z)) _
 have ay:al (λa=>¬Mu a/\a<E (U w)) w W:=λa b y=>ax.block a y b.1
 have ac:∀a,(Value.slice d (O md.ns+1) e).ownBlock=some a->a<E (U w)->(Value.slice md.ao (O md.ns) md.cp).ownBlock=some a:=λa b y=>by
  rcases n.own with j|j
  ·rw[<-j];exact b
  ·rw[j] at b;simp at b;omega
 have az:∀a,¬Mu a->a<E (U w)->(¬Mu a/\a<E (U w)):=λa k f=>⟨k,f⟩
 have aA:∀a,(¬Mu a/\a<E (U w))->a<E (U W)->¬(Mu a\/(Value.slice d (O md.ns+1) e).ownBlock=some a):=λa b _ u=>by
  rcases u with u|u
  ·exact b.1 u
  ·exact b.1 (ab a (ac a u b.2))
 have aO:∀a,(Mu a\/(Value.slice d (O md.ns+1) e).ownBlock=some a)->a<E (U W):=λa b=>by
  rcases b with b|b
  ·have:=h.mlt a b;omega
  ·have:=(n.row.lt a b).2;omega
 have aP:∀a,(Value.slice md.ao (O md.ns) md.cp).ownBlock≠some a->a≠q->a<E (U w)->W.heap[a]? =w.heap[a]? :=λa k f B=>by
  rw[A];exact(Below.heap_setCell _ ⟨q,i*3+1,I⟩ _ _ f).trans ((n.grown.block a (by simp;omega) (λj=>k j.symm)).trans (Below.heap_alloc _ _ _ B))
 have G:O (md.ns++[r])=O md.ns+1:=sQ;have ae:O (M.ms.set i {md with ao:=d,cp:=e,ns:=md.ns++[r]})=O M.ms:=sQ;have aB:∀(l:Nat) (c:Md),M.ms[l]? =some c->l≠i->∀a,(Value.slice c.ao (O c.ns) c.cp).ownBlock=some a->(Value.slice md.ao (O md.ns) md.cp).ownBlock≠some a:=λl c s af a b R=>ak l i c md s X af a b R
 have aQ:W.ownsRow 0 117 4 (J d (O (md.ns++[r])) e) (O (md.ns++[r])) ((md.ns++[r]).map Nm.c).flatten:=by
  rw[G,List.map_append,List.flatten_append];have aR:=ah n.row P dC;simpa[Nm.c] using aR
 obtain⟨aT,aU,aV,aW⟩:=h.jF;refine⟨_,w',aK,d,e,λa=>Mu a\/(Value.slice d (O md.ns+1) e).ownBlock=some a,Q,aq,⟨aL,av⟩,D,?_⟩;rw[<-A];refine⟨ax,λa b=>.inl b,λa y b=>by rcases b with b|b;exact b;exact ab a (ac a b y),F,⟨⟨?_,⟨?_,?_,?_⟩,?_,ah m.cu F dC,m.bB,m.lg⟩,ah h.tr F dC,ah h.im F dC,ah h.fn F dC,.inl h.dT,aO,?_,?_,λa j=>.inl (h.jt a j),λa j=>.inl (h.jX a j),λa j=>.inl (h.lL a j),λa j=>.inl (h.lY a j),⟨aT,aU,aV,λi aY S aZ v=>(((aW i aY S aZ v).weaken az).frame ay aw).weaken aA⟩,λx ai=>(((h.jq x ai).weaken az).frame ay aw).weaken aA,Sm.nil.mono (zL _),Sm.nil.mono (zL _)⟩,?_,λa b N=>(n.grown.block a (by simp;omega) (λj=>N j.symm)).trans (Below.heap_alloc _ _ _ b)⟩
 ·have k:=au P aq dC;show W.heap[mb]? =_;rw[k];simp
 ·show W.ownsRow 0 115 3 (J M.mo (O (M.ms.set i _)) M.mc) (O (M.ms.set i _)) ((M.ms.set i _).map Md.c).flatten;rw[ae];have k:=dq (ah m.cK.row D dC) Z (i*3+1) (J d (O md.ns+1) e);rw[gp (size:=3) (us:=M.ms.map Md.c) (λx ai=>by obtain⟨a8,_,rfl⟩:=List.mem_map.1 ai;rfl) (i:=i) (x:=md.c) (by rw[List.getElem?_map,X];rfl) (o:=1) dC,<-A] at k;rw[List.map_set]
  have a0:Md.c {md with ao:=d,cp:=e,ns:=md.ns++[r]}=md.c.set 1 (J d (O md.ns+1) e):=by
   simp[Md.c]
  rw[a0];exact k
 ·show(M.ms.set i _).length<=20000;rw[ae];exact m.cK.bB
 ·intro c K;obtain⟨l,s⟩:=List.mem_iff_getElem?.1 K;rcases ch s with⟨k,f⟩|⟨k,f⟩
  ·rw[f];refine⟨aQ,?_,?_⟩
   ·show md.own<=O (md.ns++[r]);rw[G];omega
   ·show(md.ns++[r]).length<=30000;rw[G];omega
  ·have aj:=mG f;refine⟨ag (m.cK.names c aj).1 (λa b y=>aP a (aB l c f k a b) (λj=>?_) y),(m.cK.names c aj).2⟩;obtain⟨a9,a1⟩:=aX (m.cK.names c aj).1 b;exact aI a1 ar dC j
 ·intro c K S v;obtain⟨l,s⟩:=List.mem_iff_getElem?.1 K;rcases ch s with⟨k,f⟩|⟨k,f⟩
  ·rw[f] at v;rcases List.mem_append.1 v with v|v
   ·exact m.q md u S v
   ·rw[List.mem_singleton.1 v];exact aG
  ·exact m.q c (mG f) S v
 ·intro a b;have L:(Value.slice M.mo (O (M.ms.set i {md with ao:=d,cp:=e,ns:=md.ns++[r]})) M.mc).ownBlock=some a:=b;rw[ae] at L;exact .inl (h.lF a L)
 ·intro c K a b;obtain⟨l,s⟩:=List.mem_iff_getElem?.1 K;rcases ch s with⟨k,f⟩|⟨k,f⟩
  ·rw[f] at b;have L:(Value.slice d (O (md.ns++[r])) e).ownBlock=some a:=b;rw[G] at L;exact .inr L
  ·exact .inl (h.jN c (mG f) a b)
 ·have aC:∀(l:Nat) (c:Md),M.ms[l]? =some c->l≠i->∀a,(Value.slice c.ao (O c.ns) c.cp).ownBlock=some a->(Value.slice d (O (md.ns++[r])) e).ownBlock≠some a:=λl c s af a b R=>by
   rw[G] at R;have y:=h.mlt a (h.jN c (mG s) a b);exact aB l c s af a b (ac a R y)
  intro l aD aE a a2 b a3 x T V;rcases ch a2 with⟨k,f⟩|⟨k,f⟩
  ·rcases ch b with⟨B,C⟩|⟨B,C⟩
   ·omega
   ·rw[f] at T;exact aC aD a C B x V T
  ·rcases ch b with⟨B,C⟩|⟨B,C⟩
   ·rw[C] at V;exact aC l aE f k x T V
   ·exact ak l aD aE a f C a3 x T V
end
end
section
variable{x:List Value} {B0 db h i:Nat} {ks:VV} {w:World}
def qy (B0:Nat) (w:World) (o1:OA) (j:Nat) (x:List Value):Prop:=∃(g2:Nat) (c2 p2 n2 m2:Int) (s2:ByteArray) (o2:OA) (l2 d2:Nat),o1=some ⟨g2,0,I⟩/\g2<B0/\x=(ae c2 p2 n2 m2 s2 (J o2 l2 d2)).toList/\(c2=2->NT s2/\∃i,rS s2 i)/\(∀W:World,al (λb=>b<B0) w W->∀o,o<11->W.cell? ⟨g2,j*11+o,I⟩=x[o]?)/\(c2=3->∃(gd:Nat) (p3 n3 m3:Int) (s3:ByteArray) (o3:OA) (gl c3:Nat),o2=some ⟨gd,0,I⟩/\gd<B0/\1<=l2/\gl<=6100/\(∀W:World,al (λb=>b<B0) w W->∀o,o<11->W.cell? ⟨gd,o,I⟩=(ae 9 p3 n3 m3 s3 (J o3 gl c3)).toList[o]?)/\∀q,q<gl->∃(g3:Nat) (k4 p4 n4 m4:Int) (s4:ByteArray) (o4:OA) (l4 c4:Nat),o3=some ⟨g3,0,I⟩/\g3<B0/\∀W:World,al (λb=>b<B0) w W->∀o,o<11->W.cell? ⟨g3,q*11+o,I⟩=(ae k4 p4 n4 m4 s4 (J o4 l4 c4)).toList[o]?)
def yO (B0:Nat) (w:World) (ko:OA) (i:Nat) (ks:VV):Prop:=∃(g:Nat) (p1 n1 m1:Int) (s1:ByteArray) (o1:OA) (c1:Nat),ko=some ⟨g,0,I⟩/\g<B0/\O ks<=20000/\(∀W:World,al (λb=>b<B0) w W->∀j,j<11->W.cell? ⟨g,i*11+j,I⟩=(ae 1 p1 n1 m1 s1 (J o1 (O ks) c1)).toList[j]?)/\∀(j:Nat) (x:List Value),ks[j]? =some x->qy B0 w o1 j x
theorem eY {g n c:Nat} (h:cZ B0 w (J (aS g) n c) ks) (l:B0<=E (U w)) (j:ks[i]? =some x):g<B0/\∀d:World,al (λm=>m<B0) w d->∀b,b<11->d.cell? ⟨g,i*11+b,I⟩=x[b]? :=by
 obtain⟨o,p,e,q,-⟩:=h.nth j;obtain⟨rfl,rfl⟩:g=o/\p=0:=by simp at e;exact⟨e.1,e.2.symm⟩
 refine⟨q,λd r b s=>?_⟩;obtain⟨t,u,f,-,v⟩:=(h.frame r l).nth j;obtain⟨rfl,rfl⟩:g=t/\u=0:=by simp at f;exact⟨f.1,f.2.symm⟩
 have:=v b s;rw[Nat.zero_add] at this;exact this
theorem xM (d:B0<=E (U w)) {c:OA} {c1:Nat} (N:cZ B0 w (J c (O ks) c1) ks) (P:∀i,i<O ks->∃g,c=some ⟨g,0,I⟩) (R:∀x∈ks,isNode (λb=>b<B0) True (h+3) w x) {j:Nat} (e:ks[j]? =some x):qy B0 w c j x:=by
 have q:=R x (mG e);obtain⟨S,T,V,W,X,r,aR,Y,rfl,Z⟩:=isNode.cells q;obtain⟨s,aa⟩:=P j (gS e).1;obtain rfl:c=some ⟨s,0,I⟩:=aa;obtain⟨ab,ac⟩:=eY N d e;obtain⟨f,rfl,ad,ae,t,-,-,af,-,-⟩:=q.kids;refine⟨s,S,T,V,W,X,r,O f,Y,Q,ab,Q,λm=>?_,ac,λm=>?_⟩
 ·obtain⟨u,ag⟩:=t.use m;exact⟨u.nt Z,u.two ag⟩
 ·obtain⟨aS,ah,aT⟩:=t.data m;obtain⟨v,aU,y,ai,aV⟩:=List.map_eq_cons_iff.1 ah;have aj:1<=O f:=by rw[y];simp
  have z:f[0]? =some v:=by rw[y];rfl
  have A:=ae v (mG z);obtain⟨ak,al,B,ao,ap,C,aq,ar,rfl,-⟩:=isNode.cells A;obtain rfl:ak=9:=dG (n:=B) (l:=aq) ai dC;obtain⟨o,rfl,au,av,aw,-,-,ax,-,-⟩:=A.kids;have ay:O o<=6100:=by have:=(aw.cL Q).1;simpa using this
  obtain⟨D,az⟩:=af 0 oM;obtain rfl:r=some ⟨D,0,I⟩:=az;obtain⟨aA,aB⟩:=eY ad d z;refine⟨D,al,B,ao,ap,C,O o,ar,Q,aA,aj,ay,λaC aD aE aF=>?_,λF G=>?_⟩
  ·have:=aB aC aD aE aF;simpa using this
  ·obtain⟨p,K⟩:∃p,o[F]? =some p:=⟨_,gG G⟩;obtain⟨aG,aH,aI,aJ,aK,aL,aM,aN,rfl,-⟩:=isNode.cells (av p (mG K));obtain⟨L,aO⟩:=ax F G;obtain rfl:C=some ⟨L,0,I⟩:=aO;obtain⟨aP,aQ⟩:=eY au d K;exact⟨L,aG,aH,aI,aJ,aK,aL,aM,aN,Q,aP,aQ⟩
theorem umod (l:B0<=E (U w)) {ko:OA} {kc:Nat} {mks:VV} (o:cZ B0 w (J ko (O mks) kc) mks) (p:∀i,i<O mks->∃g,ko=some ⟨g,0,I⟩) {kss:List VV} (q:∀(i:Nat) (ks:VV),kss[i]? =some ks->∃d e f j c c1,mks[i]? =some (ae 1 d e f j (J c (O ks) c1)).toList/\cZ B0 w (J c (O ks) c1) ks/\(∀i,i<O ks->∃g,c=some ⟨g,0,I⟩)/\∀x∈ks,isNode (λb=>b<B0) True (h+3) w x) (r:kss[i]? =some ks):yO B0 w ko i ks:=by
 obtain⟨d,e,f,j,c,c1,m,n,s,t⟩:=q i ks r;obtain⟨g,u⟩:=p i (gS m).1;obtain rfl:ko=some ⟨g,0,I⟩:=u;obtain⟨v,y⟩:=eY o l m;exact⟨g,d,e,f,j,c,c1,Q,v,n.len.2,y,λA x z=>xM l n s t z⟩
structure US (w:World) (mb:Nat) (M:MK) (trs:VV) (Xd Xi Xf:Nat) (Mu:Nat->Prop) (H:Nat) (wr:World) (M':MK) (Mu':Nat->Prop):Prop where
 s:MS wr mb M' trs [] [] Xd Xi Xf Mu' H
 kx:KX Mu (E (U w)) w wr
 m1:∀b,Mu b->Mu' b
 m2:∀b,b<E (U w)->Mu' b->Mu b
 ml:O M'.ms=O M.ms
 own:∀(j:Nat) (md':Md),M'.ms[j]? =some md'->∃md,M.ms[j]? =some md/\md'.own=md.own/\md'.ns.take md'.own=md.ns.take md.own
 ds:O M'.ds=O M.ds
 rest:M'.tv=M.tv/\M'.iv=M.iv/\M'.fv=M.fv/\M'.mn=M.mn/\M'.rv=M.rv/\M'.nv=M.nv
 hf:M.fk≠0->M'.fk≠0
 dj:DJ M'.ms
def uq (w:World) (mb:Nat) (M:MK) (trs:VV) (Xd Xi Xf:Nat) (Mu:Nat->Prop) (H:Nat) (e:Ending) (w':World):Prop:=∃(M':MK) (Mu':Nat->Prop),e=.returned (.tuple #[])/\US w mb M trs Xd Xi Xf Mu H w' M' Mu'
section
variable{w wr w':World} {mb:Nat} {M M':MK} {trs:VV} {Xd Xi Xf:Nat} {Mu Mu':Nat->Prop} {H:Nat} {k a:Int}
theorem US.below (q:US w mb M trs Xd Xi Xf Mu H wr M' Mu') (b:Below (E (U wr)) wr w'):US w mb M trs Xd Xi Xf Mu H w' M' Mu':=
 ⟨q.s.below b,q.kx.trans ((KX.aq b).mono (λ_ _ h=>h) q.kx.size),q.m1,q.m2,q.ml,q.own,q.ds,q.rest,q.hf,q.dj⟩
theorem US.bt (q:US w mb M trs Xd Xi Xf Mu H wr M' Mu') (b:Kp (E (U wr)) mb wr w') (d:cF w' mb (M'.bt k a)) (e:M'.fk≠0->k=M'.fk):US w mb M trs Xd Xi Xf Mu H w' (M'.bt k a) Mu':=
 ⟨q.s.no d b,q.kx.trans ((KX.cN b q.s.dT).mono (λf j l=>q.m2 f j l) q.kx.size),q.m1,q.m2,q.ml,q.own,q.ds,q.rest,λh=>by
  have c:=q.hf h;show k≠0;rw[e c];exact c,q.dj⟩
theorem US.name (q:US w mb M trs Xd Xi Xf Mu H wr M' Mu') {md:Md} (l:M'.ms[i]? =some md) {m:Nat} (v:M'.mo=some ⟨m,0,I⟩) {r:Nm} (y:NQ (O M'.ds) (O trs) r) (z:O md.ns<=29999) (p:TypeId) {ad:Nat} (A:ad=E (U wr)):
 ∃f w',(Builtin.append_ #[113,113] p #[J md.ao (O md.ns) md.cp,J (aS ad) 1 1]).run Tryz.prog (wr.alloc (Ob #[.string r.name,vN r.sort,vN r.n,.bool r.eQ] 117))=.ok f w'/\∃c d n,f=J c (O md.ns+1) d/\cF w' mb M'/\(∃B,w'.heap[m]? =some (Ob B 115 (0,0)))/\KT (λC=>C≠117) wr w'/\US w mb M trs Xd Xi Xf Mu H (w'.setCell ⟨m,i*3+1,I⟩ (J c (O md.ns+1) d)) {M' with ms:=M'.ms.set i {md with ao:=c,cp:=d,ns:=md.ns++[r]}} n/\(∀b,b<E (U wr)->(Value.slice md.ao (O md.ns) md.cp).ownBlock≠some b->w'.heap[b]? =wr.heap[b]?):=by
 obtain⟨f,w',D,c,d,n,F,G,K,L,N,P,R,-,S,T,V⟩:=q.s.xR q.dj l v y z p A;have W:=q.kx.size;refine⟨f,w',D,c,d,n,F,G,K,L,⟨S,q.kx.trans (N.mono (λb o e=>q.m2 b o e) W),λb e=>P b (q.m1 b e),λb o e=>q.m2 b o (R b oM e),?_,λs t X=>?_,q.ds,q.rest,q.hf,T⟩,V⟩
 ·show(M'.ms.set i _).length=_;rw[List.length_set];exact q.ml
 ·have Y:(M'.ms.set i {md with ao:=c,cp:=d,ns:=md.ns++[r]})[s]? =some t:=X;rcases ch Y with⟨u,j⟩|⟨u,j⟩
  ·obtain⟨Z,aa,ab,ac⟩:=q.own i md l;refine⟨Z,by rw[u];exact aa,by rw[j];exact ab,?_⟩;rw[j,<-ac];show(md.ns++[r]).take md.own=_;exact List.take_append_of_le_length (q.s.pi.cK.names md (mG l)).2.1
  ·exact q.own s t j
theorem US.fresh (q:US w mb M trs Xd Xi Xf Mu H wr M' Mu') (c:Below (E (U wr)) wr w') (e:E (U wr)<=db) (f:db<E (U w')):US w mb M trs Xd Xi Xf Mu H w' M' (λb=>Mu' b\/b=db):=by
 have j:=c.size;have l:=q.kx.size;exact⟨q.s.grow c (λb h=>.inl h) (λb h=>by rcases h with h|h;(have:=q.s.mlt b h;omega);omega) (λb d h=>by rcases h with h|h;exact h;omega),q.kx.trans ((KX.aq c).mono (λ_ _ h=>h) q.kx.size),λb h=>.inl (q.m1 b h),λb d h=>by rcases h with h|h;exact q.m2 b d h;omega,q.ml,q.own,q.ds,q.rest,q.hf,q.dj⟩
theorem US.ze (q:US w mb M trs Xd Xi Xf Mu H wr M' Mu') {c:Array Value} (f:wr.heap[db]? =some (Ob c 117 (0,0))) (j:Mu' db) (hw:E (U w)<=db) (l:∀m∈M'.ms,∀b,(Value.slice m.ao (O m.ns) m.cp).ownBlock=some b->b≠db) (o:Nat) (u:Value):US w mb M trs Xd Xi Xf Mu H (wr.setCell ⟨db,o,I⟩ u) M' Mu':=by
 have n:KX (λb=>b=db) (E (U wr)) wr (wr.setCell ⟨db,o,I⟩ u):=(KX.refl (λb=>b=db) (E (U wr)) wr).setCell (p:=⟨db,o,I⟩) (.inr (show db=db from rfl)) _;have r:E (U (wr.setCell ⟨db,o,I⟩ u))=E (U wr):=sQ;exact⟨q.s.other n (λb d=>d▸j) (λd=>aI f q.s.mk' dC d.symm) (λb e d=>cW q.s.pi.cK.row f dC (d▸e)) (λm s b e d=>l m s b e d) (λb e d=>cW q.s.pi.cu f dC (d▸e)) (λb e d=>cW q.s.tr f dC (d▸e)) (λb e d=>cW q.s.im f dC (d▸e)) (λb e d=>cW q.s.fn f dC (d▸e)) (λ_ h=>h) (λb e=>by rw[r];exact q.s.mlt b e) (λ_ _ h=>h),q.kx.setCell (p:=⟨db,o,I⟩) (.inl hw) _,q.m1,q.m2,q.ml,q.own,q.ds,q.rest,q.hf,q.dj⟩
end
end
section
variable{x:Int} {g n:Nat}
section
variable{w w':World} {mb:Nat} {M:MK} {trs ims fns:VV} {Xd Xi Xf:Nat} {Mu Mu':Nat->Prop} {H H':Nat}
theorem MS.xS (h:MS w mb M trs ims fns Xd Xi Xf Mu H) {d:Dd} (s:M.ds[n]? =some d) (G:M.cV=some ⟨g,0,I⟩) (a:0<=x/\x<=6100):MS (w.setCell ⟨g,n*10+6,I⟩ (vN x)) mb (M.put n {d with ak:=x}) trs ims fns Xd Xi Xf Mu H/\KX Mu (E (U w)) w (w.setCell ⟨g,n*10+6,I⟩ (vN x))/\KT (λv=>v≠64) w (w.setCell ⟨g,n*10+6,I⟩ (vN x)):=by
 have y:(Value.slice M.cV (O M.ds) M.dN).ownBlock=some g:=by rw[G];rfl
 obtain⟨ab,K⟩:=aX h.pi.cu y;have j:KT (λv=>v≠64) w (w.setCell ⟨g,n*10+6,I⟩ (vN x)):=KT.set K _ _;have z:KX Mu (E (U w)) w (w.setCell ⟨g,n*10+6,I⟩ (vN x)):=(KX.refl _ _ _).setCell (p:=⟨g,n*10+6,I⟩) (.inr (h.jt g y)) _;have q:al (λf=>¬Mu f) w (w.setCell ⟨g,n*10+6,I⟩ (vN x)):=λf k L=>z.block f L k;have l:=z.size;have b:O (M.put n {d with ak:=x}).ds=O M.ds:=List.length_set;have m:=h.pi;have N:∀c∈(M.put n {d with ak:=x}).ds,c∈M.ds\/c={d with ak:=x}:=λc e=>List.mem_or_eq_of_mem_set e;have P:=mG s;have R:=(gS s).1;obtain⟨S,T,V,B⟩:=h.jF;have C:=dq m.cu y (n*10+6) (vN x)
 have W:(M.ds.map Dd.c).flatten.set (n*10+6) (vN x)=((M.put n {d with ak:=x}).ds.map Dd.c).flatten:=by
  have:=gp (size:=10) (us:=M.ds.map Dd.c) (λx a=>by obtain⟨r,_,rfl⟩:=List.mem_map.1 a;rfl) (i:=n) (x:=d.c) (by rw[List.getElem?_map,s];rfl) (o:=6) dC (vN x);rw[this];show _=((M.ds.set n {d with ak:=x}).map Dd.c).flatten;rw[List.map_set];rfl
 rw[W] at C;refine⟨⟨⟨?_,m.cK.kt j dC dC,?_,?_,?_,?_⟩,ah h.tr j dC,ah h.im j dC,ah h.fn j dC,h.dT,λf k=>Nat.lt_of_lt_of_le (h.mlt f k) l,h.lF,h.jN,?_,h.jX,h.lL,h.lY,⟨S,by rw[b];exact T,V,?_⟩,?_,?_,?_⟩,z,j⟩
 ·have:=au j h.mk' dC;unfold cF at*;rw[this];simp
 ·intro X Y r t;rw[b];exact m.q X Y r t
 ·rw[b];exact C
 ·rw[b];exact m.bB
 ·intro c e;rcases N c e with A|A
  ·exact m.lg c A
  ·have D:=m.lg d P;rw[A];exact⟨a.1,a.2,D.2.2.1,D.2.2.2⟩
 ·intro f k;rw[b] at k;exact h.jt f k
 ·intro i c r e t;rw[b];by_cases F:i=n
  ·subst F;rw[List.getElem?_set_self R] at e;obtain rfl:=Option.some.inj e;have u:=(B i d r s t).frame q l;exact⟨u.row,u.parts,u.len,u.sz⟩
  ·rw[List.getElem?_set_ne (λZ=>F Z.symm)] at e;exact(B i c r e t).frame q l
 ·intro x a;rw[b];exact(h.jq x a).frame q l
 ·rw[b];exact h.lO.imp (λaa x a=>a.frame q l)
 ·rw[b];exact h.lp.imp (λaa x a=>a.frame q l)
theorem MS.xT (h:MS w mb M trs ims fns Xd Xi Xf Mu H) {d:Dd} (s:M.ds[n]? =some d) (G:M.cV=some ⟨g,0,I⟩) (a:0<=x/\x<=6100):MS (w.setCell ⟨g,n*10+7,I⟩ (vN x)) mb (M.put n {d with cL:=x}) trs ims fns Xd Xi Xf Mu H/\KX Mu (E (U w)) w (w.setCell ⟨g,n*10+7,I⟩ (vN x))/\KT (λv=>v≠64) w (w.setCell ⟨g,n*10+7,I⟩ (vN x)):=by
 have y:(Value.slice M.cV (O M.ds) M.dN).ownBlock=some g:=by rw[G];rfl
 obtain⟨ab,K⟩:=aX h.pi.cu y;have j:KT (λv=>v≠64) w (w.setCell ⟨g,n*10+7,I⟩ (vN x)):=KT.set K _ _;have z:KX Mu (E (U w)) w (w.setCell ⟨g,n*10+7,I⟩ (vN x)):=(KX.refl _ _ _).setCell (p:=⟨g,n*10+7,I⟩) (.inr (h.jt g y)) _;have q:al (λf=>¬Mu f) w (w.setCell ⟨g,n*10+7,I⟩ (vN x)):=λf k L=>z.block f L k;have l:=z.size;have b:O (M.put n {d with cL:=x}).ds=O M.ds:=List.length_set;have m:=h.pi;have N:∀c∈(M.put n {d with cL:=x}).ds,c∈M.ds\/c={d with cL:=x}:=λc e=>List.mem_or_eq_of_mem_set e;have P:=mG s;have R:=(gS s).1;obtain⟨S,T,V,B⟩:=h.jF;have C:=dq m.cu y (n*10+7) (vN x)
 have W:(M.ds.map Dd.c).flatten.set (n*10+7) (vN x)=((M.put n {d with cL:=x}).ds.map Dd.c).flatten:=by
  have:=gp (size:=10) (us:=M.ds.map Dd.c) (λx a=>by obtain⟨r,_,rfl⟩:=List.mem_map.1 a;rfl) (i:=n) (x:=d.c) (by rw[List.getElem?_map,s];rfl) (o:=7) dC (vN x);rw[this];show _=((M.ds.set n {d with cL:=x}).map Dd.c).flatten;rw[List.map_set];rfl
 rw[W] at C;refine⟨⟨⟨?_,m.cK.kt j dC dC,?_,?_,?_,?_⟩,ah h.tr j dC,ah h.im j dC,ah h.fn j dC,h.dT,λf k=>Nat.lt_of_lt_of_le (h.mlt f k) l,h.lF,h.jN,?_,h.jX,h.lL,h.lY,⟨S,by rw[b];exact T,V,?_⟩,?_,?_,?_⟩,z,j⟩
 ·have:=au j h.mk' dC;unfold cF at*;rw[this];simp
 ·intro X Y r t;rw[b];exact m.q X Y r t
 ·rw[b];exact C
 ·rw[b];exact m.bB
 ·intro c e;rcases N c e with A|A
  ·exact m.lg c A
  ·have D:=m.lg d P;rw[A];exact⟨D.1,D.2.1,a.1,a.2⟩
 ·intro f k;rw[b] at k;exact h.jt f k
 ·intro i c r e t;rw[b];by_cases F:i=n
  ·subst F;rw[List.getElem?_set_self R] at e;obtain rfl:=Option.some.inj e;have u:=(B i d r s t).frame q l;exact⟨u.row,u.parts,u.len,u.sz⟩
  ·rw[List.getElem?_set_ne (λZ=>F Z.symm)] at e;exact(B i c r e t).frame q l
 ·intro x a;rw[b];exact(h.jq x a).frame q l
 ·rw[b];exact h.lO.imp (λaa x a=>a.frame q l)
 ·rw[b];exact h.lp.imp (λaa x a=>a.frame q l)
end
section
variable{w wr:World} {mb:Nat} {M M':MK} {trs:VV} {Xd Xi Xf:Nat} {Mu Mu':Nat->Prop} {H:Nat}
theorem US.Lv (q:US w mb M trs Xd Xi Xf Mu H wr M' Mu') {d:Dd} (a:M'.ds[n]? =some d) (b:M'.cV=some ⟨g,0,I⟩) (c:0<=x/\x<=6100):US w mb M trs Xd Xi Xf Mu H (wr.setCell ⟨g,n*10+6,I⟩ (vN x)) (M'.put n {d with ak:=x}) Mu':=by
 obtain⟨e,f,-⟩:=q.s.xS a b c;refine⟨e,q.kx.trans (f.mono (λi j k=>q.m2 i j k) q.kx.size),q.m1,q.m2,q.ml,q.own,?_,q.rest,q.hf,q.dj⟩;show(M'.ds.set n _).length=_;rw[List.length_set];exact q.ds
theorem US.Gn (q:US w mb M trs Xd Xi Xf Mu H wr M' Mu') {d:Dd} (a:M'.ds[n]? =some d) (b:M'.cV=some ⟨g,0,I⟩) (c:0<=x/\x<=6100):US w mb M trs Xd Xi Xf Mu H (wr.setCell ⟨g,n*10+7,I⟩ (vN x)) (M'.put n {d with cL:=x}) Mu':=by
 obtain⟨e,f,-⟩:=q.s.xT a b c;refine⟨e,q.kx.trans (f.mono (λi j k=>q.m2 i j k) q.kx.size),q.m1,q.m2,q.ml,q.own,?_,q.rest,q.hf,q.dj⟩;show(M'.ds.set n _).length=_;rw[List.length_set];exact q.ds
end
end
section
variable{M:MK} {mb:Nat} {Mu:Nat->Prop} {trs:VV} {w:World}
structure PS (w:World) (mb:Nat) (M:MK) (d:Dd) (trs:VV) (Mu:Nat->Prop):Prop where
 kb:cF w mb M
 ms:M.ms=[]/\M.mo=I/\M.mc=0
 ds:M.ds=[d]
 dd:eB (λb=>¬Mu b) 1 1 1 w d
 lg:0<=d.ak/\d.ak<=6100/\0<=d.cL/\d.cL<=6100
 da:w.ownsRow 0 64 10 (J M.cV (O M.ds) M.dN) (O M.ds) (M.ds.map Dd.c).flatten
 tr:w.ownsRow 0 93 5 M.tv (O trs) trs.flatten
 tv:∃o c,M.tv=J o (O trs) c
 rest:M.iv=J I 0 0/\M.fv=J I 0 0/\M.fk=0
 dT:Mu mb
 mlt:∀b,Mu b->b<E (U w)
 jt:∀b,(Value.slice M.cV (O M.ds) M.dN).ownBlock=some b->Mu b
 jX:∀b,M.tv.ownBlock=some b->Mu b
 jq:∀x∈trs,ja (λb=>¬Mu b) 1 1 w x
section
variable{w w':World} {mb:Nat} {M:MK} {d:Dd} {trs:VV} {Mu:Nat->Prop}
theorem PS.below (q:PS w mb M d trs Mu) (b:Below (E (U w)) w w'):PS w' mb M d trs Mu:=by
 have f:al (λa=>¬Mu a) w w':=λa _ c=>b.block a c;have e:=b.size;exact⟨q.kb.below b,q.ms,q.ds,q.dd.frame f e,q.lg,ag q.da (λa _ c=>b.block a c),ag q.tr (λa _ c=>b.block a c),q.tv,q.rest,q.dT,λa h=>Nat.lt_of_lt_of_le (q.mlt a h) e,q.jt,q.jX,λi j=>(q.jq i j).frame f e⟩
theorem PS.um (q:PS w mb M d trs Mu) {r:OA} {s:Nat} (y:M.tv=J r (O trs) s) (k:ByteArray) (z:O trs<=100) (A:TypeId) {ad:Nat} (T:ad=E (U w)):
 ∃t w',(Builtin.append_ #[25,25] A #[J r (O trs) s,J (aS ad) 1 1]).run Tryz.prog (w.alloc (Ob (js k (-1) 0 true I 0 0) 93))=.ok t w'/\∃c e B,t=J c (O trs+1) e/\cF w' mb M/\KX Mu (E (U w)) w (w'.setCell ⟨mb,2,I⟩ (J c (O trs+1) e))/\(∀a,a<E (U w)->B a->Mu a)/\PS (w'.setCell ⟨mb,2,I⟩ (J c (O trs+1) e)) mb {M with tv:=J c (O trs+1) e} d (trs++[(js k (-1) 0 true I 0 0).toList]) B:=by
 have u:=q.tr;rw[y] at u;obtain⟨t,w',V,i⟩:=fg (W:=w) Tryz.underlying25 yh Q dC u (zL _) (js k (-1) 0 true I 0 0) Q (by intro af j;simp at j;repeat(first|(subst j;rfl)|(rcases j with j|j;(subst j;rfl)))) (by unfold maxLen;omega) oM A T;obtain⟨c,e,rfl⟩:=i.shape;have C:=App.kt u i;have v:=au C q.kb dC;have D:=KT.set v 2 (J c (O trs+1) e);have X:KT (λn=>n≠93/\n≠88) w (w'.setCell ⟨mb,2,I⟩ (J c (O trs+1) e)):=(C.mono (λn x=>x.1)).trans (D.mono (λn x=>x.2));have F:E (U w)<=E (U w'):=lT sQ i.grown.size;have G:E (U w)<=E (U (w'.setCell ⟨mb,2,I⟩ (J c (O trs+1) e))):=sU F;have H:∀a,(Value.slice r (O trs) s).ownBlock=some a->Mu a:=by rw[<-y];exact q.jX
 have Y:KX Mu (E (U w)) w w':=⟨i.grown.os,i.grown.tape,i.grown.output,F,λa b z=>(i.grown.block a (by simp;omega) (λf=>z (H a f.symm))).trans (Below.heap_alloc _ _ _ b)⟩;have K:KX Mu (E (U w)) w (w'.setCell ⟨mb,2,I⟩ (J c (O trs+1) e)):=Y.setCell (p:=⟨mb,2,I⟩) (.inr q.dT) _;have L:al (λa=>¬Mu a/\a<E (U w)) w (w'.setCell ⟨mb,2,I⟩ (J c (O trs+1) e)):=λa b o=>K.block a o b.1
 have N:∀a,(Value.slice c (O trs+1) e).ownBlock=some a->a<E (U w)->Mu a:=λa b o=>by
  rcases i.own with f|f
  ·exact H a (by rw[<-f];exact b)
  ·rw[f] at b;simp at b;omega
 have P:∀a,¬Mu a->a<E (U w)->(¬Mu a/\a<E (U w)):=λa Z aa=>⟨Z,aa⟩
 have R:∀a,(¬Mu a/\a<E (U w))->a<E (U (w'.setCell ⟨mb,2,I⟩ (J c (O trs+1) e)))->¬(Mu a\/(Value.slice c (O trs+1) e).ownBlock=some a):=λa b _ l=>by
  rcases l with l|l
  ·exact b.1 l
  ·exact b.1 (N a l b.2)
 have S:O (trs++[(js k (-1) 0 true I 0 0).toList])=O trs+1:=sQ;refine⟨_,w',V,c,e,λa=>Mu a\/(Value.slice c (O trs+1) e).ownBlock=some a,Q,v,K,λa o b=>by rcases b with b|b;exact b;exact N a b o,⟨?_,q.ms,q.ds,((q.dd.weaken P).frame L G).weaken R,q.lg,ah q.da X dC,?_,⟨c,e,by rw[S]⟩,q.rest,.inl q.dT,?_,λa f=>.inl (q.jt a f),λa f=>.inr f,?_⟩⟩
 ·have:=heap_setCell_same w' mb 2 _ 88 (J c (O trs+1) e) v;unfold cF at*;rw[this];simp
 ·show(w'.setCell _ _).ownsRow 0 93 5 (J c (O trs+1) e) _ _;rw[S,List.flatten_append];have ab:=ah i.row D dC;simpa using ab
 ·intro a b;rcases b with b|b
  ·have:=q.mlt a b;omega
  ·have:=(i.row.lt a b).2;simpa using this
 ·intro ac m;rcases List.mem_append.1 m with m|m
  ·exact(((q.jq ac m).weaken P).frame L G).weaken R
  ·rw[List.mem_singleton.1 m];exact⟨k,-1,0,true,I,0,[],Q,ro.bJ (World.ownsRow_nil _ 0 0 9) (λa f=>by simp[Value.ownBlock] at f),λag ae=>by simp at ae,zL _⟩
theorem PS.y0 (q:PS w mb M d trs Mu) (k:O trs=4):MS w mb M trs [] [] 1 0 0 Mu 1:=by
 have f:O M.ds=1:=by rw[q.ds];rfl
 have i:∀a,(Value.slice I 0 0).ownBlock=some a->False:=λa l=>by simp[Value.ownBlock] at l
 refine⟨⟨q.kb,⟨?_,?_,?_⟩,?_,q.da,?_,?_⟩,q.tr,?_,?_,q.dT,q.mlt,?_,?_,q.jt,q.jX,?_,?_,⟨[1],?_,lR _,?_⟩,?_,Sm.nil,Sm.nil⟩
 ·rw[q.ms.1,q.ms.2.1,q.ms.2.2];exact World.ownsRow_nil _ _ _ _
 ·rw[q.ms.1];exact zL _
 ·intro j b;rw[q.ms.1] at b;simp at b
 ·intro j b;rw[q.ms.1] at b;simp at b
 ·rw[f,k];omega
 ·intro m e;rw[q.ds,List.mem_singleton] at e;rw[e];exact q.lg
 ·rw[q.rest.1];exact World.ownsRow_nil _ _ _ _
 ·rw[q.rest.2.1];exact World.ownsRow_nil _ _ _ _
 ·intro a c;rw[q.ms.1,q.ms.2.1,q.ms.2.2] at c;exact absurd c (i a)
 ·intro j b;rw[q.ms.1] at b;simp at b
 ·intro a c;rw[q.rest.1] at c;exact absurd c (i a)
 ·intro a c;rw[q.rest.2.1] at c;exact absurd c (i a)
 ·rw[f];rfl
 ·intro r m s e n;rw[q.ds] at e;have o:=List.mem_singleton.1 (mG e);have p:=List.mem_singleton.1 (mG n);rw[o,p,f];exact q.dd
 ·rw[f];exact q.jq
end
theorem nY {B0 h:Nat}:∀{mks:VV},(∀b∈mks,isNode (λm=>m<B0) True (h+5) w b)->(∀f∈mks.map aA,f=1)->∃e:List VV,O e=O mks/\(∀(c:Nat) (a:VV),e[c]? =some a->∃o p q r i j,mks[c]? =some (ae 1 o p q r (J i (O a) j)).toList/\cZ B0 w (J i (O a) j) a/\(∀c,c<O a->∃g,i=some ⟨g,0,I⟩)/\(∀b∈a,isNode (λm=>m<B0) True (h+4) w b)/\∀b∈a.map aA,b=2\/b=3\/b=6\/b=7\/b=108)/\(e.map (λa=>(a.map (aG (h+4) w)).sum)).sum<=(mks.map (aG (h+5) w)).sum
 |[],_,_=>⟨[],Q,λc a k=>by simp at k,lR _⟩
 |b::mks,hk,hl=>by
  obtain⟨e,C,D,T⟩:=nY (mks:=mks) (λf s=>hk f (List.mem_cons_of_mem _ s)) (λf s=>hl f (by rw[List.map_cons];exact List.mem_cons_of_mem _ s));have t:=hk b (List.mem_cons_self ..);obtain⟨u,v,n,x,y,z,l,A,rfl,-⟩:=isNode.cells t;have F:=hl (aA (ae u v n x y (J z l A)).toList) (by rw[List.map_cons];exact List.mem_cons_self ..);obtain rfl:u=1:=dG (n:=n) (l:=l) F dC;obtain⟨B,rfl,G,H,K,L,-,N,-,-⟩:=t.kids;refine⟨B::e,by simp[C],λc a k=>?_,?_⟩
  ·cases c with
   |zero=>
    obtain rfl:B=a:=sU k;exact⟨v,n,x,y,z,A,Q,G,N,H,K.mod Q⟩
   |succ c=>
    have P:e[c]? =some a:=sU k;obtain⟨o,p,q,r,i,j,R,S⟩:=D c a P;exact⟨o,p,q,r,i,j,sU R,S⟩
  ·rw[List.map_cons,List.map_cons,List.sum_cons,List.sum_cons,L];omega
def Iq (M:MK) (kss:List VV) (F:Nat):Prop:=O M.ms=O kss/\(M.fk=0->(∀(j:Nat) (md:Md) (ks:VV),M.ms[j]? =some md->kss[j]? =some ks->∀(c p n m:Int) (s:ByteArray) (kv:Value),(ae c p n m s kv).toList∈ks->c=3\/c=6\/c=8->∀r∈md.ns.take md.own,r.name.toList=s.toList->(c=3->r.sort=0)/\(c=6->r.sort=2))/\∀m∈M.ms,∀y∈m.ns.take m.own,y.sort=3->0<=y.n/\y.n<(F:Int))
theorem Iq.next {a:MK} {kss:List VV} {b:Nat} (h:Iq M kss b) (c:a.ms=M.ms) (f:M.fk≠0->a.fk≠0):Iq a kss b:=by
 refine⟨by rw[c];exact h.1,λi=>?_⟩
 have j:M.fk=0:=by
  by_cases e:M.fk=0
  ·exact e
  ·exact absurd i (f e)
 rw[c];exact h.2 j
theorem Iq.of {j x:World} {a k:MK} {l:VV} {m n o:Nat} {p y:Nat->Prop} {H:Nat} {kss:List VV} (q:NO w mb M trs m n o Mu H kss j a l p) (u:US j mb a l m n o p H x k y):Iq k kss (kss.flatten.map bG).sum:=by
 refine⟨u.ml.trans q.ml,λz=>?_⟩
 have A:a.fk=0:=by
  by_cases r:a.fk=0
  ·exact r
  ·exact absurd z (u.hf r)
 refine⟨λb B C c D V W X s Y Z F G aa t K=>?_,λs L N v P=>?_⟩
 ·obtain⟨e,f,R,i⟩:=u.own b B c;rw[i] at t;obtain⟨S,T⟩:=q.ok A b e C f D;have:=S.sort T F G (List.mem_of_mem_take t) K;exact⟨this.1,this.2.1⟩
 ·obtain⟨b,c⟩:=List.mem_iff_getElem?.1 L;obtain⟨e,f,R,i⟩:=u.own b s c;rw[i] at v;have:=q.q e (mG f) N (List.mem_of_mem_take v);exact⟨this.1.1,this.2 P⟩
end
section
variable{D H j:Nat} {w:World}
structure GT (w:World) (base D H:Nat) (wr:World) (ao:OA) (cp:Nat) (us:VV) (N:Nat):Prop where
 row:wr.ownsRow base 39 4 (J ao (O us) cp) (O us) us.flatten
 all:∀x∈us,af (λb=>b<base) (Gd D) H wr x
 one:1<=O us
 le:O us<=N
 below:Below base w wr
 hb:base<=E (U w)
section
variable{w wr w':World} {base D H:Nat} {ao:OA} {cp:Nat} {us:VV} {N N':Nat}
theorem GT.grow (q:GT w base D H wr ao cp us N) (a:Below (E (U wr)) wr w'):GT w base D H w' ao cp us N:=by
 have d:base<=E (U wr):=lT q.hb q.below.size;exact⟨ag q.row (λb _ c=>a.block b c),λe f=>af.frame (λb _ c=>a.block b c) a.size _ _ (q.all e f),q.one,q.le,q.below.trans (a.mono d),q.hb⟩
theorem GT.mono (q:GT w base D H wr ao cp us N) (h:N<=N'):GT w base D H wr ao cp us N':=⟨q.row,q.all,q.one,lT q.le h,q.below,q.hb⟩
theorem GT.inner (q:GT w base D H wr ao cp us N) {kind n:Int} {e:OA} {f i:Nat} {k:OA} {l m:Nat} (o:af (λb=>b<base) (Gd D) H w (ai kind n (J e f i) (J k l m)).toList) {t:Nat} (s:aU H w (ai kind n (J e f i) (J k l m)).toList=t) (F:N+t<=2199023255552):
 Calls Tryz.prog 14 #[.agg (ai kind n (J e f i) (J k l m)),J ao (O us) cp] wr (λp w'=>∃a c d,p=.returned (J a (O d) c)/\GT w base D H w' a c d (N+t)/\KT (λt=>t≠39) wr w'):=by
 have u:base<=E (U wr):=lT q.hb q.below.size;have v:=af.frame (fY q.below) q.below.size _ _ o;have r:=(aJ (fY q.below) q.below.size _ _ o H).trans s;have G:=q.le;refine(qk H (lR _) u v q.row q.all (by rw[r];omega)).mono ?_;rintro p w' ⟨a,c,d,rfl,x,y,z,A,B,C⟩;rw[r] at A;exact⟨a,c,d,Q,⟨x,y,z,oM,q.below.trans B,q.hb⟩,C⟩
end
theorem dU {a:Type} {l:List a} {f:a->Nat} {x:a} (h:l[j]? =some x):((l.take (j+1)).map f).sum=((l.take j).map f).sum+f x:=by
 rw[List.take_add_one,h,List.map_append,List.sum_append];simp
theorem jd {l:List Nat} {x:Nat} (h:l[j]? =some x):(l.take (j+1)).sum=(l.take j).sum+x:=by
 rw[List.take_add_one,h,List.sum_append];simp
theorem dh {a:Type} (l:List a) (f:a->Nat) (j:Nat):((l.take j).map f).sum<=(l.map f).sum:=by
 have h:=congrArg (λb=>(b.map f).sum) (List.take_append_drop j l);simp only[List.map_append,List.sum_append] at h;omega
theorem iy (l:List Nat) (j:Nat):(l.take j).sum<=l.sum:=by
 have h:=congrArg List.sum (List.take_append_drop j l);simp only[List.sum_append] at h;omega
theorem tT:(Tryz.prog.info? 64).map (·.size)=some 10:=by kernel_rfl
theorem tS:(Tryz.prog.info? 71).map (·.size)=some 10:=by kernel_rfl
structure PG (w:World) (D H:Nat) (cV:OA) (dN:Nat) (ds:List Dd) (ivo:OA) (ivc:Nat) (ims:VV) (fvo:OA) (fvc:Nat) (fns:VV) (Xd Xi Xf:Nat):Prop where
 da:ro w (λb=>b<E (U w)) 10 (J cV (O ds) dN) (O ds) (ds.map Dd.c).flatten
 im:ro w (λb=>b<E (U w)) 10 (J ivo (O ims) ivc) (O ims) ims.flatten
 fn:ro w (λb=>b<E (U w)) 30 (J fvo (O fns) fvc) (O fns) fns.flatten
 jF:∃Ys:List Nat,O Ys=O ds/\Ys.sum<=Xd/\∀(i:Nat) (d:Dd) (y:Nat),ds[i]? =some d->Ys[i]? =some y->eB (λb=>b<E (U w)) D H y w d
 lO:Sm (λY x=>iI (λb=>b<E (U w)) D H Y w x) ims Xi
 lp:Sm (λY x=>gM (λb=>b<E (U w)) D H Y w x) fns Xf
 bB:O ds<=200000/\O ims<=200000/\O fns<=200000
 h1:1<=H
 sum:1+3*Xf+Xd+Xi<=2199023255552
def uu (w:World) (D H N:Nat) (e:Ending) (w':World):Prop:=∃(ao:OA) (cp:Nat) (us:VV),e=.returned (J ao (O us) cp)/\GT w (E (U w)) D H w' ao cp us N
theorem vZ {ax:OA} {aj:Nat} {L:List Dd} {ivo:OA} {ivc:Nat} {C:VV} {ay:OA} {ak:Nat} {F:VV} {aR ch P:Nat} (aa:PG w D H ax aj L ivo ivc C ay ak F aR ch P) (aA aB aC:Value) (aD:Int):
 Calls Tryz.prog 5 #[.agg (fD aA (J ax (O L) aj) aB (J ivo (O C) ivc) (J ay (O F) ak) aD aC)] w (uu w D H (1+3*P+aR+ch)):=by
 obtain⟨G,c5,dy,ci⟩:=aa.lp;obtain⟨aO,c6,dA,cj⟩:=aa.lO;obtain⟨T,dB,dD,cL⟩:=aa.jF;have dE:=aa.sum;obtain⟨dF,dG,dH⟩:=aa.bB
 have PF:Hid (ro w (λq=>q<E (U w)) 30 (J ay (O F) ak) (O F) F.flatten/\(∀(i:Nat) (x:List Value) (c:Nat),F[i]? =some x->G[i]? =some c->gM (λq=>q<E (U w)) D H c w x)/\∀x∈F,O x=30):=⟨aa.fn,ci,λx e=>by
  obtain⟨i,a3⟩:=List.getElem?_of_mem e;obtain⟨c,V⟩:∃c,G[i]? =some c:=⟨_,gG (by rw[c5];exact(gS a3).1)⟩;obtain⟨c7,ck,cl,cm,cn,co,cq,cr,cs,ct,cu,c8,c9,c',da,db,dc,dd,dI,dJ,dK,dL,dM,dN,dO,dP,dQ,dR,dS,dT,dV,dW,dX,dY,dZ,d0,d1,d2,ad,-⟩:=ci i x c a3 V;rw[ad];rfl⟩
 have cv:Hid (ro w (λq=>q<E (U w)) 10 (J ivo (O C) ivc) (O C) C.flatten/\(∀(i:Nat) (x:List Value) (c:Nat),C[i]? =some x->aO[i]? =some c->iI (λq=>q<E (U w)) D H c w x)/\∀x∈C,O x=10):=⟨aa.im,cj,λx e=>by
  obtain⟨i,a3⟩:=List.getElem?_of_mem e;obtain⟨c,V⟩:∃c,aO[i]? =some c:=⟨_,gG (by rw[c6];exact(gS a3).1)⟩;obtain⟨c7,ck,cl,cm,cn,co,cq,cr,cs,ct,cu,c8,c9,c',da,db,dc,dd,ad,-⟩:=cj i x c a3 V;rw[ad];rfl⟩
 have cM:Hid (ro w (λq=>q<E (U w)) 10 (J ax (O L) aj) (O L) (L.map Dd.c).flatten/\∀(i:Nat) (aT:Dd) (c:Nat),L[i]? =some aT->T[i]? =some c->eB (λq=>q<E (U w)) D H c w aT):=⟨aa.da,cL⟩;obtain⟨cN,cO,cP⟩:=eI w (Ob (fD aA (J ax (O L) aj) aB (J ivo (O C) ivc) (J ay (O F) ak) aD aC) 30) (Ob (ai 1 0 aF aF) 39);have cQ:GT w (E (U w)) D H ((w.alloc (Ob (fD aA (J ax (O L) aj) aB (J ivo (O C) ivc) (J ay (O F) ak) aD aC) 30)).alloc (Ob (ai 1 0 aF aF) 39)) (aS (E (U w)+1)) 1 [(ai 1 0 aF aF).toList] 1:=⟨⟨Q,.inr ⟨E (U w)+1,1,ai 1 0 aF aF,Q,oM,cP,lR _,by unfold maxLen;omega,Q,Q⟩⟩,λx e=>by rw[List.mem_singleton.1 e];exact af.le (dz (kind:=1) (n:=0) ⟨λad=>absurd ad dC,dC,dC⟩).1 _ aa.h1,lR _,lR _,cN,lR _⟩;clear aa ci cj cL cN cP;go_enter Tryz.func5,Tryz.ntmps5
 go_wp2_with fail;go_loopg [3,5,7,9,23] (O F) (λal ab _ _ _ W wr=>∃(a:Nat) (ao:OA) (cp:Nat) (us:VV),al=O F - a/\W=vN a/\ab=J ao (O us) cp/\a<=O F/\GT w (E (U w)) D H wr ao cp us (1+3*(G.take a).sum)/\wr.heap[E (U w)]? =some (Ob (fD aA (J ax (O L) aj) aB (J ivo (O C) ivc) (J ay (O F) ak) aD aC) 30 (0,0)))
 case atStart=>exact⟨0,_,_,_,Q,Q,Q,zL _,cQ.mono oM,cO⟩
 case round=>
  clear cQ cO;obtain⟨a,ao,cp,us,R,rfl,rfl,cR,b,k⟩:=hrel;have a4:Hid (gk=O F - a):=R;clear R;by_cases aV:a<O F
  ·have bs:(a:Int)<(O F:Int):=oM;obtain⟨x,e⟩:∃x,F[a]? =some x:=⟨_,gG aV⟩;obtain⟨c,V⟩:∃c,G[a]? =some c:=⟨_,gG oM⟩;obtain⟨g,d,ae,bt,ap⟩:=PF.out.1.iH Q PF.out.2.2 e;obtain⟨rfl,rfl⟩:ay=some ⟨g,0,I⟩/\ak=d:=sU ae;obtain⟨bu,aE,aG,bv,bw,kind,bx,bz,bA,bB,bC,on,bD,aH,aI,aJ,a5,a6,K,a7,a8,a9,a',ba,bb,bc,bd,bf,bg,M,bE,bF,bG,bH,bI,bJ,bK,bL,rfl,aW⟩:=PF.out.2.1 a x c e V;have aX:wr.rangeAt g (a*30) (nj bu aE aG bv bw kind bx bz bA bB bC on bD aH aI aJ a5 (O K) a6 a7 a8 (J a9 a' ba) (J bb bc bd) (J bf (O M) bg) bE bF bG bH bI bJ bK bL).toList:=kL (λj bh=>(b.below.cell (p:=⟨g,a*30+j,I⟩) bt).trans (ap j bh));have cw:g<E (U wr):=oH b.below.size;have cx:=aW.li;have d3:=aW.lv;have aK:Hid (nr (λq=>q<E (U w)) D H w a5 a6 K bf bg M (ai a7 a8 (J a9 a' ba) (J bb bc bd)).toList c):=aW
   have d4:1+3*(G.take a).sum+3*c<=2199023255552:=by
    have aP:=jd V;have bl:=iy G (a+1);omega
   have cy:Hid ((∀(j:Nat) (x:List Value),K[j]? =some x->1+3*(G.take a).sum+((K.take j).map (aU H w)).sum+aU H w x<=2199023255552)/\(1+3*(G.take a).sum+(K.map (aU H w)).sum+aU H w (ai a7 a8 (J a9 a' ba) (J bb bc bd)).toList<=2199023255552)/\(∀(j:Nat) (x:List Value),M[j]? =some x->1+3*(G.take a).sum+2*c+((M.take j).map (λx=>aU H w (x.drop 2))).sum+aU H w (x.drop 2)<=2199023255552)):=by
    refine⟨λj x e=>?_,?_,λj x e=>?_⟩
    ·have aP:=dU (f:=aU H w) e;have bl:=dh K (aU H w) (j+1);have bM:=aW.si H;omega
    ·have bM:=aW.si H;have de:=aW.so H;omega
    ·have aP:=dU (f:=λx=>aU H w (x.drop 2)) e;have bl:=dh M (λx=>aU H w (x.drop 2)) (j+1);have bM:=aW.sv H;omega
   have b6:Hid (1+3*(G.take a).sum+3*c=1+3*(G.take (a+1)).sum):=by
    have aP:=jd V;show _=_;omega
   clear ap ae e V aW;go_upto_region 4 with fail
   refine wp_region_lit ?_;refine wpList_plain Q λaz hK=>?_;go_simp;refine hK _ _ ?_;clear hK az;try simp only[Act.put,List.setIfInBounds_toArray,List.set_cons_zero,List.set_cons_succ]
   refine wpList_load_mid Q 58 (.tmp 25) Q g (a*30) Q (nj bu aE aG bv bw kind bx bz bA bB bC on bD aH aI aJ a5 (O K) a6 a7 a8 (J a9 a' ba) (J bb bc bd) (J bf (O M) bg) bE bF bG bH bI bJ bK bL).toList _ aX Tryz.underlying58 Q tU ?_;try simp only[Act.put,List.setIfInBounds_toArray,List.set_cons_zero,List.set_cons_succ]
   refine wpList_plain Q λaz hK=>?_;go_simp;refine hK _ _ ?_;clear hK az;try simp only[Act.put,List.setIfInBounds_toArray,List.set_cons_zero,List.set_cons_succ]
   refine wpList_store_mid Q 58 (.tmp 5) (.tmp 26) Q (E (U wr)) 0 (nj bu aE aG bv bw kind bx bz bA bB bC on bD aH aI aJ a5 (O K) a6 a7 a8 (J a9 a' ba) (J bb bc bd) (J bf (O M) bg) bE bF bG bH bI bJ bK bL) Q Q (ju (al1 wr _).2 (show _<=_ from lR 30)) tU (Array.all_eq_true_iff_forall_mem.2 (by intro W S;simp at S;repeat(first|(subst S;rfl)|(rcases S with S|S;(subst S;rfl))))) ?_;try simp only[Act.put,List.setIfInBounds_toArray,List.set_cons_zero,List.set_cons_succ]
   generalize hwq:World.setCells _ (E (U wr)) 0 _=ag;have bN:Below (E (U wr)) wr ag/\ag.heap[E (U wr)]? =some (Ob (nj bu aE aG bv bw kind bx bz bA bB bC on bD aH aI aJ a5 (O K) a6 a7 a8 (J a9 a' ba) (J bb bc bd) (J bf (O M) bg) bE bF bG bH bI bJ bK bL) 58 (0,0)):=by rw[<-hwq];exact copied Q
   clear hwq;obtain⟨o,ah⟩:=bN;have X:=b.grow o;have Y:=(o.block _ (gE k).1).trans k;clear b k o aX;obtain⟨bm,aY⟩:∃bm,bm=E (U wr):=⟨_,Q⟩;rw[<-aY] at ah⊢;clear aY cw;have bO:=λaq=>cell_of_row ag _ aq _ 58 (0,0) ah;have bn:bm<E (U ag):=(gE ah).1;go_wp2_with fail;clear bO bn;go_loopg [3,7,31] (O K) (λal ab _ W av=>∃(j:Nat) (ao:OA) (cp:Nat) (us:VV),al=O K - j/\W=.int .i64 j/\ab=J ao (O us) cp/\j<=O K/\GT w (E (U w)) D H av ao cp us (1+3*(G.take a).sum+((K.take j).map (aU H w)).sum)/\av.heap[E (U w)]? =some (Ob (fD aA (J ax (O L) aj) aB (J ivo (O C) ivc) (J (some ⟨g,0,I⟩) (O F) ak) aD aC) 30 (0,0))/\av.heap[bm]? =some (Ob (nj bu aE aG bv bw kind bx bz bA bB bC on bD aH aI aJ a5 (O K) a6 a7 a8 (J a9 a' ba) (J bb bc bd) (J bf (O M) bg) bE bF bG bH bI bJ bK bL) 58 (0,0)))
   case atStart=>exact⟨0,_,_,_,Q,Q,Q,zL _,X,Y,ah⟩
   case round=>
    clear X Y ah;obtain⟨j,ao,cp,us,R,rfl,rfl,bh,b,k,aY⟩:=hrel;have cz:Hid (gk=O K - j):=R;clear R;have bO:=λaq=>cell_of_row wr _ aq _ 58 (0,0) aY;have bn:bm<E (U wr):=(gE aY).1;by_cases bP:j<O K
    ·have cA:(j:Int)<(O K:Int):=oM;obtain⟨x,e⟩:∃x,K[j]? =some x:=⟨_,gG bP⟩;have aQ:=aK.out.ti x (mG e);obtain⟨aL,dg,bQ,b7,bR⟩:=aK.out.ri.iH Q (λx e=>af.four _ _ (aK.out.ti x e)) e;obtain⟨rfl,rfl⟩:a5=some ⟨aL,0,I⟩/\a6=dg:=sU bQ;obtain⟨s,t,u,v,y,z,A,B,rfl⟩:=af.cells _ aQ;have d5:wr.cell? ⟨aL,j*4,I⟩=some (vN s):=(b.below.cell (p:=⟨aL,j*4,I⟩) b7).trans (bR 0 dC);have d6:wr.cell? ⟨aL,j*4+1,I⟩=some (vN t):=(b.below.cell (p:=⟨aL,j*4+1,I⟩) b7).trans (bR 1 dC);have d7:wr.cell? ⟨aL,j*4+2,I⟩=some (J u v y):=(b.below.cell (p:=⟨aL,j*4+2,I⟩) b7).trans (bR 2 dC);have d8:wr.cell? ⟨aL,j*4+3,I⟩=some (J z A B):=(b.below.cell (p:=⟨aL,j*4+3,I⟩) b7).trans (bR 3 dC);have d9:aL<E (U wr):=oH b.below.size;have ac:Hid (af (λq=>q<E (U w)) (Gd D) H w (ai s t (J u v y) (J z A B)).toList/\1+3*(G.take a).sum+((K.take j).map (aU H w)).sum+aU H w (ai s t (J u v y) (J z A B)).toList<=2199023255552/\1+3*(G.take a).sum+((K.take (j+1)).map (aU H w)).sum=1+3*(G.take a).sum+((K.take j).map (aU H w)).sum+aU H w (ai s t (J u v y) (J z A B)).toList):=⟨aQ,cy.out.1 j _ e,(congrArg (λbi=>1+3*(G.take a).sum+bi) (dU e)).trans (Nat.add_assoc _ _ _).symm⟩;obtain⟨o,-⟩:=al1 wr (Ob (ai s t (J u v y) (J z A B)) 39);have X:=b.grow o;have Y:=(o.block _ (gE k).1).trans k;have di:=(o.block _ bn).trans aY;clear bR bQ e aQ b k aY o;go_wp2_with (go_at_call 14;refine(X.inner ac.out.1 Q ac.out.2.1).mono ?_;rintro ad bo ⟨aZ,a0,a1,rfl,aM,aw⟩;have aN:=au aw Y dC;have bS:=au aw di dC)
     go_roundg (O K - (j+1))
     case measure=>rw[cz.out];omega
     case rel=>exact⟨j+1,aZ,a0,a1,Q,by go_num,Q,bP,by rw[ac.out.2.2];exact aM,aN,bS⟩
    ·have cA:¬(j:Int)<(O K:Int):=oM;have cS:=b.mono (N':=1+3*(G.take a).sum+(K.map (aU H w)).sum) (Nat.add_le_add_left (dh K (aU H w) j) _);clear b;go_wp2_with (go_at_call 14;refine(cS.inner aK.out.lH Q cy.out.2.1).mono ?_;rintro ad bo ⟨aZ,a0,a1,rfl,aM,aw⟩;have aN:=au aw k dC;have bS:=au aw aY dC;clear bO bn;have bO:=λaq=>cell_of_row bo _ aq _ 58 (0,0) bS;have bn:bm<E (U bo):=(gE bS).1)
     have cT:=aM.mono (N':=1+3*(G.take a).sum+2*c+((M.take 0).map (λx=>aU H w (x.drop 2))).sum) (by have bM:=aK.out.si H;have de:=aK.out.so H;simp;omega);clear aM cS aw bO bn;go_loopg [3,9,47] (O M) (λal ab _ W av=>∃(i:Nat) (ao:OA) (cp:Nat) (us:VV),al=O M - i/\W=.int .i64 i/\ab=J ao (O us) cp/\i<=O M/\GT w (E (U w)) D H av ao cp us (1+3*(G.take a).sum+2*c+((M.take i).map (λx=>aU H w (x.drop 2))).sum)/\av.heap[E (U w)]? =some (Ob (fD aA (J ax (O L) aj) aB (J ivo (O C) ivc) (J (some ⟨g,0,I⟩) (O F) ak) aD aC) 30 (0,0)))
     case atStart=>exact⟨0,_,_,_,Q,Q,Q,zL _,cT,aN⟩
     case round=>
      clear cT aN bS;obtain⟨i,ao,cp,us,R,rfl,rfl,a3,b,k⟩:=hrel;have cB:Hid (gk=O M - i):=R;clear R;by_cases cU:i<O M
      ·have cC:(i:Int)<(O M:Int):=oM;obtain⟨x,e⟩:∃x,M[i]? =some x:=⟨_,gG cU⟩;obtain⟨l,dj,bQ,ar,Z⟩:=aK.out.rv.iH Q (λx e=>by obtain⟨ck,cl,cm,cn,co,cq,cr,cs,ct,cu,ad,-⟩:=aK.out.tv x e;rw[ad];rfl) e;obtain⟨rfl,rfl⟩:bf=some ⟨l,0,I⟩/\bg=dj:=sU bQ;have cV:=cy.out.2.2 i x e;have a2:=dU (f:=λx=>aU H w (x.drop 2)) e;obtain⟨bT,bU,s,t,u,v,y,z,A,B,rfl,aQ⟩:=aK.out.tv x (mG e);have dk:wr.cell? ⟨l,i*6,I⟩=some (.string bT):=(b.below.cell (p:=⟨l,i*6,I⟩) ar).trans (Z 0 dC);have dl:wr.cell? ⟨l,i*6+1,I⟩=some (.bool bU):=(b.below.cell (p:=⟨l,i*6+1,I⟩) ar).trans (Z 1 dC);have dm:wr.cell? ⟨l,i*6+2,I⟩=some (vN s):=(b.below.cell (p:=⟨l,i*6+2,I⟩) ar).trans (Z 2 dC);have ab:wr.cell? ⟨l,i*6+3,I⟩=some (vN t):=(b.below.cell (p:=⟨l,i*6+3,I⟩) ar).trans (Z 3 dC);have dn:wr.cell? ⟨l,i*6+4,I⟩=some (J u v y):=(b.below.cell (p:=⟨l,i*6+4,I⟩) ar).trans (Z 4 dC);have dp:wr.cell? ⟨l,i*6+5,I⟩=some (J z A B):=(b.below.cell (p:=⟨l,i*6+5,I⟩) ar).trans (Z 5 dC);have dq:l<E (U wr):=oH b.below.size;have ac:Hid (af (λq=>q<E (U w)) (Gd D) H w (ai s t (J u v y) (J z A B)).toList/\1+3*(G.take a).sum+2*c+((M.take i).map (λx=>aU H w (x.drop 2))).sum+aU H w (ai s t (J u v y) (J z A B)).toList<=2199023255552/\1+3*(G.take a).sum+2*c+((M.take (i+1)).map (λx=>aU H w (x.drop 2))).sum=1+3*(G.take a).sum+2*c+((M.take i).map (λx=>aU H w (x.drop 2))).sum+aU H w (ai s t (J u v y) (J z A B)).toList):=⟨aQ,cV,(congrArg (λbi=>1+3*(G.take a).sum+2*c+bi) a2).trans (Nat.add_assoc _ _ _).symm⟩;obtain⟨o,-⟩:=al1 wr (Ob (gO bT bU s t (J u v y) (J z A B)) 61);have X:=b.grow o;have Y:=(o.block _ (gE k).1).trans k;clear Z bQ e aQ b k o cV a2;go_wp2_with (go_at_call 14;refine(X.inner ac.out.1 Q ac.out.2.1).mono ?_;rintro ad bo ⟨aZ,a0,a1,rfl,aM,aw⟩;have aN:=au aw Y dC)
       go_roundg (O M - (i+1))
       case measure=>rw[cB.out];omega
       case rel=>exact⟨i+1,aZ,a0,a1,Q,by go_num,Q,cU,by rw[ac.out.2.2];exact aM,aN⟩
      ·have cC:¬(i:Int)<(O M:Int):=oM;have bj:=b.mono (N':=1+3*(G.take (a+1)).sum) (by rw[<-b6.out];have aP:=dh M (λx=>aU H w (x.drop 2)) i;have bM:=aK.out.sv H;omega);clear b;go_wp2_with fail;go_roundg (O F - (a+1))
       case measure=>rw[a4.out];omega
       case rel=>exact⟨a+1,ao,cp,us,Q,by go_num,Q,aV,bj,k⟩
  ·have bs:¬(a:Int)<(O F:Int):=oM;have cD:=λaq=>cell_of_row wr _ aq _ 30 (0,0) k;have cE:E (U w)<E (U wr):=(gE k).1;have bV:=b.mono (N':=1+3*P) (oH (iy G a));clear b;go_wp2_with fail;clear cD cE;go_loopg [3,11,13,15,60] (O L) (λal ab _ _ _ W wr=>∃(a:Nat) (ao:OA) (cp:Nat) (us:VV),al=O L - a/\W=vN a/\ab=J ao (O us) cp/\a<=O L/\GT w (E (U w)) D H wr ao cp us (1+3*P+(T.take a).sum)/\wr.heap[E (U w)]? =some (Ob (fD aA (J ax (O L) aj) aB (J ivo (O C) ivc) (J ay (O F) ak) aD aC) 30 (0,0)))
   case atStart=>exact⟨0,_,_,_,Q,Q,Q,zL _,bV.mono oM,k⟩
   case round=>
    clear bV k a4;obtain⟨a,ao,cp,us,R,rfl,rfl,cR,b,k⟩:=hrel;have a4:Hid (gk=O L - a):=R;clear R;by_cases aV:a<O L
    ·have bs:(a:Int)<(O L:Int):=oM;obtain⟨aT,cF⟩:∃aT,L[a]? =some aT:=⟨_,gG aV⟩;obtain⟨c,V⟩:∃c,T[a]? =some c:=⟨_,gG oM⟩;obtain⟨g,d,ae,bt,ap⟩:=cM.out.1.iH sQ (λx e=>by obtain⟨bi,_,rfl⟩:=List.mem_map.1 e;rfl) (i:=a) (x:=aT.c) (by rw[List.getElem?_map,cF];rfl);obtain⟨rfl,rfl⟩:ax=some ⟨g,0,I⟩/\aj=d:=sU ae;have b8:=cM.out.2 a aT c cF V;obtain⟨bW,bX,bY,bZ,b0,b1,b2,b3,bp,bq,m,b4⟩:=aT;have aX:wr.rangeAt g (a*10) (#[.string bW,vN bX,vN bY,.bool bZ,.bool b0,.bool b1,vN b2,vN b3,J bp (O m) bq,vN b4]:Array Value).toList:=kL (λj bh=>(b.below.cell (p:=⟨g,a*10+j,I⟩) bt).trans (ap j bh));have cw:g<E (U wr):=oH b.below.size;have d':O m<=30000:=b8.len;have cW:Hid (eB (λq=>q<E (U w)) D H c w ⟨bW,bX,bY,bZ,b0,b1,b2,b3,bp,bq,m,b4⟩):=b8;have dr:(m.map (λd:Cs=>(d.ps.map (λp=>aU H w p.ty)).sum)).sum<=c:=b8.sz H
     have b6:Hid (1+3*P+(T.take a).sum+c<=2199023255552/\1+3*P+(T.take a).sum+c=1+3*P+(T.take (a+1)).sum):=by
      have aP:=jd V;have bl:=iy T (a+1);exact⟨oM,oM⟩
     clear ap ae cF V b8;go_upto_region 19 with fail
     refine wp_region_lit ?_;refine wpList_plain Q λaz hK=>?_;go_simp;refine hK _ _ ?_;clear hK az;try simp only[Act.put,List.setIfInBounds_toArray,List.set_cons_zero,List.set_cons_succ]
     refine wpList_load_mid Q 64 (.tmp 62) Q g (a*10) Q (#[.string bW,vN bX,vN bY,.bool bZ,.bool b0,.bool b1,vN b2,vN b3,J bp (O m) bq,vN b4]:Array Value).toList _ aX Tryz.underlying64 Q tT ?_;try simp only[Act.put,List.setIfInBounds_toArray,List.set_cons_zero,List.set_cons_succ]
     refine wpList_plain Q λaz hK=>?_;go_simp;refine hK _ _ ?_;clear hK az;try simp only[Act.put,List.setIfInBounds_toArray,List.set_cons_zero,List.set_cons_succ]
     refine wpList_store_mid Q 64 (.tmp 11) (.tmp 63) Q (E (U wr)) 0 (#[.string bW,vN bX,vN bY,.bool bZ,.bool b0,.bool b1,vN b2,vN b3,J bp (O m) bq,vN b4]:Array Value) Q Q (ju (al1 wr _).2 (show _<=_ from lR 10)) tT (Array.all_eq_true_iff_forall_mem.2 (by intro W S;simp at S;repeat(first|(subst S;rfl)|(rcases S with S|S;(subst S;rfl))))) ?_;try simp only[Act.put,List.setIfInBounds_toArray,List.set_cons_zero,List.set_cons_succ]
     generalize hwq:World.setCells _ (E (U wr)) 0 _=ag;have bN:Below (E (U wr)) wr ag/\ag.heap[E (U wr)]? =some (Ob (#[.string bW,vN bX,vN bY,.bool bZ,.bool b0,.bool b1,vN b2,vN b3,J bp (O m) bq,vN b4]:Array Value) 64 (0,0)):=by rw[<-hwq];exact copied Q
     clear hwq;obtain⟨o,ah⟩:=bN;have X:=b.grow o;have Y:=(o.block _ (gE k).1).trans k;clear b k o aX;obtain⟨bk,b5⟩:∃bk,bk=E (U wr):=⟨_,Q⟩;rw[<-b5] at ah⊢;clear b5;have cX:=λaq=>cell_of_row ag _ aq _ 64 (0,0) ah;have cY:bk<E (U ag):=(gE ah).1;go_wp2_with fail;clear cX cY;go_loopg [3,13,15,67] (O m) (λal ab _ _ W av=>∃(j:Nat) (ao:OA) (cp:Nat) (us:VV),al=O m - j/\W=.int .i64 j/\ab=J ao (O us) cp/\j<=O m/\GT w (E (U w)) D H av ao cp us (1+3*P+(T.take a).sum+((m.take j).map (λd:Cs=>(d.ps.map (λp=>aU H w p.ty)).sum)).sum)/\av.heap[E (U w)]? =some (Ob (fD aA (J (some ⟨g,0,I⟩) (O L) aj) aB (J ivo (O C) ivc) (J ay (O F) ak) aD aC) 30 (0,0)))
     case atStart=>exact⟨0,_,_,_,Q,Q,Q,zL _,X,Y⟩
     case round=>
      clear X Y ah;obtain⟨j,ao,cp,us,R,rfl,rfl,bh,b,k⟩:=hrel;have cz:Hid (gk=O m - j):=R;clear R;by_cases bP:j<O m
      ·have cA:(j:Int)<(O m:Int):=oM;obtain⟨d,ap⟩:∃d,m[j]? =some d:=⟨_,gG bP⟩;obtain⟨br,ds,ae,cZ,cG⟩:=cW.out.row.iH sQ (λx e=>by obtain⟨bi,_,rfl⟩:=List.mem_map.1 e;rfl) (i:=j) (x:=d.c) (by rw[List.getElem?_map,ap];rfl);obtain⟨rfl,rfl⟩:bp=some ⟨br,0,I⟩/\bq=ds:=sU ae;have b9:=cW.out.parts d (mG ap);have a2:=dU (f:=(λd:Cs=>(d.ps.map (λp=>aU H w p.ty)).sum)) ap;have cH:=dh m (λd:Cs=>(d.ps.map (λp=>aU H w p.ty)).sum) (j+1);obtain⟨c0,b',ca,r⟩:=d;have ea:O r<=30000:=b9.2.1;have cI:Hid (ro w (λq=>q<E (U w)) 6 (J b' (O r) ca) (O r) (r.map Pt.c).flatten/\∀p∈r,eo (λq=>q<E (U w)) D H w p.c):=⟨b9.1,b9.2.2⟩
       have c1:Hid (1+3*P+(T.take a).sum+((m.take j).map (λd:Cs=>(d.ps.map (λp=>aU H w p.ty)).sum)).sum+(r.map (λp:Pt=>aU H w p.ty)).sum=1+3*P+(T.take a).sum+((m.take (j+1)).map (λd:Cs=>(d.ps.map (λp=>aU H w p.ty)).sum)).sum/\1+3*P+(T.take a).sum+((m.take j).map (λd:Cs=>(d.ps.map (λp=>aU H w p.ty)).sum)).sum+(r.map (λp:Pt=>aU H w p.ty)).sum<=2199023255552):=by
        have aP:((m.take (j+1)).map (λd:Cs=>(d.ps.map (λp=>aU H w p.ty)).sum)).sum=((m.take j).map (λd:Cs=>(d.ps.map (λp=>aU H w p.ty)).sum)).sum+(r.map (λp:Pt=>aU H w p.ty)).sum:=a2;have bl:=b6.out.1;exact⟨oM,oM⟩
       have dt:wr.cell? ⟨br,j*2,I⟩=some (.string c0):=(b.below.cell (p:=⟨br,j*2,I⟩) cZ).trans (cG 0 dC);have du:wr.cell? ⟨br,j*2+1,I⟩=some (J b' (O r) ca):=(b.below.cell (p:=⟨br,j*2+1,I⟩) cZ).trans (cG 1 dC);have dv:br<E (U wr):=oH b.below.size;obtain⟨o,-⟩:=al1 wr (Ob #[.string c0,J b' (O r) ca] 67);have X:=b.grow o;have Y:=(o.block _ (gE k).1).trans k;clear cG ae ap b9 b k o a2 cH;go_wp2_with fail;clear dt du dv;go_loopg [3,15,74] (O r) (λal ab _ W av=>∃(i:Nat) (ao:OA) (cp:Nat) (us:VV),al=O r - i/\W=.int .i64 i/\ab=J ao (O us) cp/\i<=O r/\GT w (E (U w)) D H av ao cp us (1+3*P+(T.take a).sum+((m.take j).map (λd:Cs=>(d.ps.map (λp=>aU H w p.ty)).sum)).sum+((r.take i).map (λp:Pt=>aU H w p.ty)).sum)/\av.heap[E (U w)]? =some (Ob (fD aA (J (some ⟨g,0,I⟩) (O L) aj) aB (J ivo (O C) ivc) (J ay (O F) ak) aD aC) 30 (0,0)))
       case atStart=>exact⟨0,_,_,_,Q,Q,Q,zL _,X,Y⟩
       case round=>
        clear X Y;obtain⟨i,ao,cp,us,R,rfl,rfl,a3,b,k⟩:=hrel;have cB:Hid (gk=O r - i):=R;clear R;by_cases cx:i<O r
        ·have cC:(i:Int)<(O r:Int):=oM;obtain⟨cb,aa⟩:∃p,r[i]? =some p:=⟨_,gG cx⟩;obtain⟨l,dw,ae,ar,Z⟩:=cI.out.1.iH sQ (λx e=>by obtain⟨bi,dx,rfl⟩:=List.mem_map.1 e;obtain⟨ck,cl,cm,cn,co,cq,cr,cs,ct,cu,ad,-⟩:=cI.out.2 bi dx;rw[ad];rfl) (i:=i) (x:=cb.c) (by rw[List.getElem?_map,aa];rfl);obtain⟨rfl,rfl⟩:b'=some ⟨l,0,I⟩/\ca=dw:=sU ae;obtain⟨bT,bU,s,t,u,v,y,z,A,B,cJ,aQ⟩:=cI.out.2 cb (mG aa)
         have c2:cb.ty=(ai s t (J u v y) (J z A B)).toList:=by
          have cK:=cJ;unfold Pt.c at cK;simp at cK;rw[cK.2.2]
         have a2:=dU (f:=(λp:Pt=>aU H w p.ty)) aa;have cH:=dh r (λp:Pt=>aU H w p.ty) (i+1);rw[cJ] at Z;have dk:wr.cell? ⟨l,i*6,I⟩=some (.string bT):=(b.below.cell (p:=⟨l,i*6,I⟩) ar).trans (Z 0 dC);have dl:wr.cell? ⟨l,i*6+1,I⟩=some (.bool bU):=(b.below.cell (p:=⟨l,i*6+1,I⟩) ar).trans (Z 1 dC);have dm:wr.cell? ⟨l,i*6+2,I⟩=some (vN s):=(b.below.cell (p:=⟨l,i*6+2,I⟩) ar).trans (Z 2 dC);have ab:wr.cell? ⟨l,i*6+3,I⟩=some (vN t):=(b.below.cell (p:=⟨l,i*6+3,I⟩) ar).trans (Z 3 dC);have dn:wr.cell? ⟨l,i*6+4,I⟩=some (J u v y):=(b.below.cell (p:=⟨l,i*6+4,I⟩) ar).trans (Z 4 dC);have dp:wr.cell? ⟨l,i*6+5,I⟩=some (J z A B):=(b.below.cell (p:=⟨l,i*6+5,I⟩) ar).trans (Z 5 dC);have dq:l<E (U wr):=oH b.below.size
         have ac:Hid (af (λq=>q<E (U w)) (Gd D) H w (ai s t (J u v y) (J z A B)).toList/\1+3*P+(T.take a).sum+((m.take j).map (λd:Cs=>(d.ps.map (λp=>aU H w p.ty)).sum)).sum+((r.take i).map (λp:Pt=>aU H w p.ty)).sum+aU H w (ai s t (J u v y) (J z A B)).toList<=2199023255552/\1+3*P+(T.take a).sum+((m.take j).map (λd:Cs=>(d.ps.map (λp=>aU H w p.ty)).sum)).sum+((r.take (i+1)).map (λp:Pt=>aU H w p.ty)).sum=1+3*P+(T.take a).sum+((m.take j).map (λd:Cs=>(d.ps.map (λp=>aU H w p.ty)).sum)).sum+((r.take i).map (λp:Pt=>aU H w p.ty)).sum+aU H w (ai s t (J u v y) (J z A B)).toList):=by
          have aP:((r.take (i+1)).map (λp:Pt=>aU H w p.ty)).sum=((r.take i).map (λp:Pt=>aU H w p.ty)).sum+aU H w cb.ty:=a2;rw[c2] at aP;have bl:=c1.out.2;exact⟨aQ,oM,oM⟩
         obtain⟨o,-⟩:=al1 wr (Ob (gO bT bU s t (J u v y) (J z A B)) 69);have X:=b.grow o;have Y:=(o.block _ (gE k).1).trans k;clear Z ae aa aQ b k o cH a2 cJ c2;go_wp2_with (go_at_call 14;refine(X.inner ac.out.1 Q ac.out.2.1).mono ?_;rintro ad bo ⟨aZ,a0,a1,rfl,aM,aw⟩;have aN:=au aw Y dC)
         go_roundg (O r - (i+1))
         case measure=>rw[cB.out];omega
         case rel=>exact⟨i+1,aZ,a0,a1,Q,by go_num,Q,cx,by rw[ac.out.2.2];exact aM,aN⟩
        ·have cC:¬(i:Int)<(O r:Int):=oM;have bj:=b.mono (N':=1+3*P+(T.take a).sum+((m.take (j+1)).map (λd:Cs=>(d.ps.map (λp=>aU H w p.ty)).sum)).sum) (by rw[<-c1.out.1];exact Nat.add_le_add_left (dh r (λp:Pt=>aU H w p.ty) i) _);clear b;go_wp2_with fail;go_roundg (O m - (j+1))
         case measure=>rw[cz.out];omega
         case rel=>exact⟨j+1,ao,cp,us,Q,by go_num,Q,bP,bj,k⟩
      ·have cA:¬(j:Int)<(O m:Int):=oM;have bj:=b.mono (N':=1+3*P+(T.take (a+1)).sum) (by rw[<-b6.out.2];exact Nat.add_le_add_left (lT (dh m (λd:Cs=>(d.ps.map (λp=>aU H w p.ty)).sum) j) dr) _);clear b;go_wp2_with fail;go_roundg (O L - (a+1))
       case measure=>rw[a4.out];omega
       case rel=>exact⟨a+1,ao,cp,us,Q,by go_num,Q,aV,bj,k⟩
    ·have bs:¬(a:Int)<(O L:Int):=oM;have cD:=λaq=>cell_of_row wr _ aq _ 30 (0,0) k;have cE:E (U w)<E (U wr):=(gE k).1;have bV:=b.mono (N':=1+3*P+aR) (oH (iy T a));clear b;go_wp2_with fail;clear cD cE;go_loopg [3,17,88] (O C) (λal ab _ W wr=>∃(a:Nat) (ao:OA) (cp:Nat) (us:VV),al=O C - a/\W=vN a/\ab=J ao (O us) cp/\a<=O C/\GT w (E (U w)) D H wr ao cp us (1+3*P+aR+(aO.take a).sum)/\wr.heap[E (U w)]? =some (Ob (fD aA (J ax (O L) aj) aB (J ivo (O C) ivc) (J ay (O F) ak) aD aC) 30 (0,0)))
     case atStart=>exact⟨0,_,_,_,Q,Q,Q,zL _,bV.mono oM,k⟩
     case round=>
      clear bV k a4;obtain⟨a,ao,cp,us,R,rfl,rfl,cR,b,k⟩:=hrel;have a4:Hid (gk=O C - a):=R;clear R;by_cases aV:a<O C
      ·have bs:(a:Int)<(O C:Int):=oM;obtain⟨x,e⟩:∃x,C[a]? =some x:=⟨_,gG aV⟩;obtain⟨c,V⟩:∃c,aO[a]? =some c:=⟨_,gG oM⟩;obtain⟨g,d,ae,bt,ap⟩:=cv.out.1.iH Q cv.out.2.2 e;obtain⟨rfl,rfl⟩:ivo=some ⟨g,0,I⟩/\ivc=d:=sU ae;obtain⟨cc,aE,aG,cd,aH,aI,aJ,s,t,u,v,y,z,A,B,ce,cf,cg,rfl,c3,c4⟩:=cv.out.2.1 a x c e V;have aX:wr.rangeAt g (a*10) (df cc aE aG cd (J aH aI aJ) s t (J u v y) (J z A B) (J ce cf cg)).toList:=kL (λj bh=>(b.below.cell (p:=⟨g,a*10+j,I⟩) bt).trans (ap j bh));have cw:g<E (U wr):=oH b.below.size
       have ac:Hid (af (λq=>q<E (U w)) (Gd D) H w (ai s t (J u v y) (J z A B)).toList/\1+3*P+aR+(aO.take a).sum+aU H w (ai s t (J u v y) (J z A B)).toList<=2199023255552/\1+3*P+aR+(aO.take a).sum+aU H w (ai s t (J u v y) (J z A B)).toList<=1+3*P+aR+(aO.take (a+1)).sum):=by
        have aP:=jd V;have bl:=iy aO (a+1);have bM:=c4 H;exact⟨c3,oM,oM⟩
       clear ap ae e V c3 c4;go_upto_region 32 with fail
       refine wp_region_lit ?_;refine wpList_plain Q λaz hK=>?_;go_simp;refine hK _ _ ?_;clear hK az;try simp only[Act.put,List.setIfInBounds_toArray,List.set_cons_zero,List.set_cons_succ]
       refine wpList_load_mid Q 71 (.tmp 90) Q g (a*10) Q (df cc aE aG cd (J aH aI aJ) s t (J u v y) (J z A B) (J ce cf cg)).toList _ aX Tryz.underlying71 Q tS ?_;try simp only[Act.put,List.setIfInBounds_toArray,List.set_cons_zero,List.set_cons_succ]
       refine wpList_plain Q λaz hK=>?_;go_simp;refine hK _ _ ?_;clear hK az;try simp only[Act.put,List.setIfInBounds_toArray,List.set_cons_zero,List.set_cons_succ]
       refine wpList_store_mid Q 71 (.tmp 17) (.tmp 91) Q (E (U wr)) 0 (df cc aE aG cd (J aH aI aJ) s t (J u v y) (J z A B) (J ce cf cg)) Q Q (ju (al1 wr _).2 (show _<=_ from lR 10)) tS (Array.all_eq_true_iff_forall_mem.2 (by intro W S;simp at S;repeat(first|(subst S;rfl)|(rcases S with S|S;(subst S;rfl))))) ?_;try simp only[Act.put,List.setIfInBounds_toArray,List.set_cons_zero,List.set_cons_succ]
       generalize hwq:World.setCells _ (E (U wr)) 0 _=ag;have bN:Below (E (U wr)) wr ag/\ag.heap[E (U wr)]? =some (Ob (df cc aE aG cd (J aH aI aJ) s t (J u v y) (J z A B) (J ce cf cg)) 71 (0,0)):=by rw[<-hwq];exact copied Q
       clear hwq;obtain⟨o,ah⟩:=bN;have X:=b.grow o;have Y:=(o.block _ (gE k).1).trans k;clear b k o aX;obtain⟨bk,b5⟩:∃bk,bk=E (U wr):=⟨_,Q⟩;rw[<-b5] at ah⊢;clear b5;have cX:=λaq=>cell_of_row ag _ aq _ 71 (0,0) ah;have cY:bk<E (U ag):=(gE ah).1;go_wp2_with (go_at_call 14;refine(X.inner ac.out.1 Q ac.out.2.1).mono ?_;rintro ad bo ⟨aZ,a0,a1,rfl,aM,aw⟩;have aN:=au aw Y dC)
       go_roundg (O C - (a+1))
       case measure=>rw[a4.out];omega
       case rel=>exact⟨a+1,aZ,a0,a1,Q,by go_num,Q,aV,aM.mono ac.out.2.2,aN⟩
      ·have bs:¬(a:Int)<(O C:Int):=oM;have bj:=b.mono (N':=1+3*P+aR+ch) (oH (iy aO a));clear b;go_wp2_with fail;go_ret;exact⟨ao,cp,us,Q,bj⟩
end
section
variable{Mu:Nat->Prop} {W W' w:World}
def gD (w:World) (e:Ending) (w':World):Prop:=∃(mo:OA) (ml mc:Nat) (cV:OA) (dl dN:Nat) (to':OA) (tl tc:Nat) (io:OA) (il ic:Nat) (fo:OA) (fl fc:Nat) (mn:Int) (ro':OA) (rl rc:Nat) (k a:Int),e=.returned (.tuple #[.agg (fD (J mo ml mc) (J cV dl dN) (J to' tl tc) (J io il ic) (J fo fl fc) mn (J ro' rl rc)),.agg #[vN k,vN a]])/\Below (E (U w)) w w'/\(k=0->a=0/\∃(D H:Nat) (ds:List Dd) (ims fns:VV) (Xd Xi Xf:Nat),dl=O ds/\il=O ims/\fl=O fns/\PG w' D H cV dN ds io ic ims fo fc fns Xd Xi Xf)
abbrev MZ:MK:=⟨I,0,[],I,0,[],J I 0 0,J I 0 0,J I 0 0,0,J I 0 0,0,0,J I 0 0⟩
structure yZ (w w3 w4:World) (nd:Array Value):Prop where
 b3:Below (E (U w)) w w3
 s3:E (U w3)=E (U w)+3
 n:w3.heap[E (U w)]? =some (Ob nd 46 (0,0))
 p:w3.heap[E (U w)+1]? =some (Ob (fD (J I 0 0) (J I 0 0) (J I 0 0) (J I 0 0) (J I 0 0) 0 (J I 0 0)) 30 (0,0))
 f:w3.heap[E (U w)+2]? =some (Ob #[vN 0,vN 0] 33 (0,0))
 b4:Below (E (U w3)) w3 w4
 mk':cF w4 (E (U w)+3) MZ
theorem yZ.of {c d:World} {a:Array Value} (e:c=(((w.alloc (Ob a 46)).alloc (Ob (fD (J I 0 0) (J I 0 0) (J I 0 0) (J I 0 0) (J I 0 0) 0 (J I 0 0)) 30)).alloc (Ob #[vN 0,vN 0] 33))) (f:d=(((w.alloc (Ob a 46)).alloc (Ob (fD (J I 0 0) (J I 0 0) (J I 0 0) (J I 0 0) (J I 0 0) 0 (J I 0 0)) 30)).alloc (Ob #[vN 0,vN 0] 33)).alloc (Ob (jO MZ) 88)):yZ w c d a:=by
 rw[<-e] at f;subst f;subst e;obtain⟨n,o⟩:=al1 w (Ob a 46);obtain⟨i,j⟩:=al1 (w.alloc (Ob a 46)) (Ob (fD (J I 0 0) (J I 0 0) (J I 0 0) (J I 0 0) (J I 0 0) 0 (J I 0 0)) 30);obtain⟨b,k⟩:=al1 ((w.alloc (Ob a 46)).alloc (Ob (fD (J I 0 0) (J I 0 0) (J I 0 0) (J I 0 0) (J I 0 0) 0 (J I 0 0)) 30)) (Ob #[vN 0,vN 0] 33);obtain⟨p,l⟩:=al1 (((w.alloc (Ob a 46)).alloc (Ob (fD (J I 0 0) (J I 0 0) (J I 0 0) (J I 0 0) (J I 0 0) 0 (J I 0 0)) 30)).alloc (Ob #[vN 0,vN 0] 33)) (Ob (jO MZ) 88);have q:E (U (w.alloc (Ob a 46)))=E (U w)+1:=sQ;have r:E (U ((w.alloc (Ob a 46)).alloc (Ob (fD (J I 0 0) (J I 0 0) (J I 0 0) (J I 0 0) (J I 0 0) 0 (J I 0 0)) 30)))=E (U w)+2:=sQ;have m:E (U (((w.alloc (Ob a 46)).alloc (Ob (fD (J I 0 0) (J I 0 0) (J I 0 0) (J I 0 0) (J I 0 0) 0 (J I 0 0)) 30)).alloc (Ob #[vN 0,vN 0] 33)))=E (U w)+3:=sQ;rw[q] at j;rw[r] at k;rw[m] at l;refine⟨(n.trans (i.mono oM)).trans (b.mono oM),m,?_,?_,k,p,l⟩
 ·exact(b.block _ oM).trans ((i.block _ oM).trans o)
 ·exact(b.block _ oM).trans j
def IB (w W:World) (Mu:Nat->Prop):Prop:=Below (E (U w)) w W/\∀b,Mu b->E (U w)<=b
theorem IB.kx {Mu':Nat->Prop} (h:IB w W Mu) (c:KX Mu (E (U W)) W W') (f:∀b,b<E (U W)->Mu' b->Mu b):IB w W' Mu':=by
 obtain⟨a,e⟩:=h;have k:=a.size;refine⟨⟨c.os.trans a.os,c.tape.trans a.tape,c.output.trans a.output,lT a.size c.size,λb d=>(c.block b oM (λi=>oH (e b i))).trans (a.block b d)⟩,λb d=>?_⟩;by_cases j:b<E (U W)
 ·exact e b (f b j d)
 ·omega
theorem IB.below (h:IB w W Mu) (a:Below (E (U W)) W W'):IB w W' Mu:=h.kx (KX.aq a) (λ_ _ h=>h)
end
section
variable{nm:ByteArray} {M:MK} {A B c gt mb:Nat} {Mu:Nat->Prop} {tA:TypeId} {trs:VV} {w w3:World}
theorem mw {S:Nat->Prop} {size g:Nat} {e:TypeId} {cs:Array Value} (h:w.heap[g]? =some (Ob cs e (0,0))) (a:cs.size=size) (hS:S g):ro w S size (J (aS g) 1 c) 1 cs.toList:=
 ⟨_,_,Q,by simp[a],λ_=>⟨g,Q,hS,(gE h).1,λb _=>by rw[cell_of_row w g b cs e (0,0) h];simp⟩⟩
theorem xj (w:World) (c1 c2 c3:Array Value) (t1 t2 t3:TypeId):Below (E (U w)) w (((w.alloc (Ob c1 t1)).alloc (Ob c2 t2)).alloc (Ob c3 t3))/\(((w.alloc (Ob c1 t1)).alloc (Ob c2 t2)).alloc (Ob c3 t3)).heap[E (U w)]? =some (Ob c1 t1 (0,0))/\(((w.alloc (Ob c1 t1)).alloc (Ob c2 t2)).alloc (Ob c3 t3)).heap[E (U w)+1]? =some (Ob c2 t2 (0,0))/\(((w.alloc (Ob c1 t1)).alloc (Ob c2 t2)).alloc (Ob c3 t3)).heap[E (U w)+1+1]? =some (Ob c3 t3 (0,0)):=by
 obtain⟨d,e,f⟩:=eI w (Ob c1 t1) (Ob c2 t2);obtain⟨a,b⟩:=al1 ((w.alloc (Ob c1 t1)).alloc (Ob c2 t2)) (Ob c3 t3);have i:E (U ((w.alloc (Ob c1 t1)).alloc (Ob c2 t2)))=E (U w)+1+1:=sQ;rw[i] at b;exact⟨d.trans (a.mono oM),(a.block _ oM).trans e,(a.block _ oM).trans f,b⟩
abbrev MO (w4 w2:World):MK:={MZ with cV:=some ⟨E (U w2),0,I⟩,dN:=1,ds:=[mD w4]}
theorem PS.init {d a:World} (v:E (U w3)<=mb) (H:mb<E (U d)) (n:cF a mb MZ) (o:Below (E (U w3)) w3 d) (q:Below (E (U d)) d a) (r:eB (λb=>E (U d)<=b) 1 1 1 a (mD d)):PS ((a.setCell ⟨mb,1,I⟩ (J (aS (E (U a))) 1 1)).alloc (Ob #[.string ⟨#[79,112,116,105,111,110]⟩,vN (-1),vN 0,.bool true,.bool true,.bool true,vN 0,vN 1,J (aS (E (U d)+2)) 2 2,vN (-1)] 64)) mb (MO d a) (mD d) [] (λb=>b=mb\/b=E (U a))/\IB w3 ((a.setCell ⟨mb,1,I⟩ (J (aS (E (U a))) 1 1)).alloc (Ob #[.string ⟨#[79,112,116,105,111,110]⟩,vN (-1),vN 0,.bool true,.bool true,.bool true,vN 0,vN 1,J (aS (E (U d)+2)) 2 2,vN (-1)] 64)) (λb=>b=mb\/b=E (U a)):=by
 have K:=q.size;have x:=o.size;have L:=n.lt;obtain⟨e,k⟩:∃e,e=a.setCell ⟨mb,1,I⟩ (J (aS (E (U a))) 1 1):=⟨_,Q⟩;have s:E (U e)=E (U a):=by rw[k];simp
 have f:=heap_setCell_same a mb 1 _ 88 (J (aS (E (U a))) 1 1) n;rw[<-k] at f⊢;obtain⟨m,t⟩:=al1 e (Ob #[.string ⟨#[79,112,116,105,111,110]⟩,vN (-1),vN 0,.bool true,.bool true,.bool true,vN 0,vN 1,J (aS (E (U d)+2)) 2 2,vN (-1)] 64);rw[s] at t;have y:(e.alloc (Ob #[.string ⟨#[79,112,116,105,111,110]⟩,vN (-1),vN 0,.bool true,.bool true,.bool true,vN 0,vN 1,J (aS (E (U d)+2)) 2 2,vN (-1)] 64)).heap[mb]? =some (Ob (jO (MO d a)) 88 (0,0)):=(m.block _ oM).trans f;have N:E (U (e.alloc (Ob #[.string ⟨#[79,112,116,105,111,110]⟩,vN (-1),vN 0,.bool true,.bool true,.bool true,vN 0,vN 1,J (aS (E (U d)+2)) 2 2,vN (-1)] 64)))=E (U a)+1:=by simp[s]
 have u:∀b,b≠mb->b<E (U a)->(e.alloc (Ob #[.string ⟨#[79,112,116,105,111,110]⟩,vN (-1),vN 0,.bool true,.bool true,.bool true,vN 0,vN 1,J (aS (E (U d)+2)) 2 2,vN (-1)] 64)).heap[b]? =a.heap[b]? :=λb i j=>(m.block b oM).trans (by rw[k];exact Below.heap_setCell _ ⟨mb,1,I⟩ _ _ i);have z:al (λb=>E (U d)<=b) a (e.alloc (Ob #[.string ⟨#[79,112,116,105,111,110]⟩,vN (-1),vN 0,.bool true,.bool true,.bool true,vN 0,vN 1,J (aS (E (U d)+2)) 2 2,vN (-1)] 64)):=λb i j=>u b oM j;have P:=r.frame z oM;have C:eB (λb=>E (U d)<=b/\b<E (U a)) 1 1 1 (e.alloc (Ob #[.string ⟨#[79,112,116,105,111,110]⟩,vN (-1),vN 0,.bool true,.bool true,.bool true,vN 0,vN 1,J (aS (E (U d)+2)) 2 2,vN (-1)] 64)) (mD d):=(r.weaken (S':=λb=>E (U d)<=b/\b<E (U a)) (λb i j=>⟨i,j⟩)).frame (λb i j=>u b oM j) oM;refine⟨⟨y,⟨Q,Q,Q⟩,Q,C.weaken (λb i _ f=>by rcases f with f|f<;>omega),⟨show(0:Int)<=0 by decide,show(0:Int)<=6100 by decide,show(0:Int)<=1 by decide,show(1:Int)<=6100 by decide⟩,⟨Q,.inr ⟨E (U a),1,#[.string ⟨#[79,112,116,105,111,110]⟩,vN (-1),vN 0,.bool true,.bool true,.bool true,vN 0,vN 1,J (aS (E (U d)+2)) 2 2,vN (-1)],Q,zL _,t,lR _,by unfold maxLen;omega,Q,Q⟩⟩,World.ownsRow_nil _ _ _ _,⟨I,0,Q⟩,⟨Q,Q,Q⟩,.inl Q,λb h=>by rcases h with h|h<;>omega,λb l=>.inr (by simp[Value.ownBlock] at l;exact l.symm),λb l=>by simp[Value.ownBlock] at l,λR D=>by simp at D⟩,⟨?_,λb h=>by rcases h with h|h<;>omega⟩⟩;have F:Below (E (U w3)) w3 a:=o.trans (q.mono x);have G:Below (E (U w3)) w3 e:=by rw[k];exact F.setCell (p:=⟨mb,1,I⟩) v _
 exact G.trans (m.mono oM)
theorem PS.drop {d:Dd} (q:PS w mb M d trs Mu) (i:O trs=4) (l:trs[3]? =some (js nm (-1) 0 true I 0 0).toList) (m:M.tv=J (aS gt) 4 c) {G b e:Nat} (n:w.heap[A]? =some (Ob #[vN 1] tA (0,0))) (o:w.heap[B]? =some (Ob (ai 5 0 (J I 0 0) (J I 0 0)) 39 (0,0))) (p:w.heap[b]? =some (Ob (ai 7 0 (J (aS A) 1 1) (J (aS B) 1 1)) 39 (0,0))) (r:w.heap[e]? =some (Ob (eR ⟨#[100,114,111,112]⟩ 1 (J I 0 0) (J (aS G) 1 1) (aS b) 1 1 3 0 (J I 0 0) (J I 0 0)) 97 (0,0))) (s:¬Mu A) (t:¬Mu B) (u:¬Mu b) (v:¬Mu e):
 ∃j,O j=4/\MS (w.setCell ⟨gt,19,I⟩ (J (aS e) 1 1)) mb M j [] [] 1 0 0 Mu 3/\KX Mu (E (U w)) w (w.setCell ⟨gt,19,I⟩ (J (aS e) 1 1)):=by
 have x:=(q.y0 i).le (H':=3) dC;have y:O M.ds=1:=by rw[q.ds];rfl
 have z:af (λa=>¬Mu a) (Gd 1) 1 w (ai 5 0 (J I 0 0) (J I 0 0)).toList:=(dz ⟨dC,dC,dC⟩).1;have C:af (λa=>¬Mu a) (Gd 1) 2 w (ai 7 0 (J (aS A) 1 1) (J (aS B) 1 1)).toList:=kR (ls:=[1]) (vs:=[(ai 5 0 (J I 0 0) (J I 0 0)).toList]) (mw n Q s) (mw o Q t) dC dC ⟨dC,dC,λ_=>⟨Q,Q⟩,dC⟩ (λK D=>by rw[List.mem_singleton.1 D];exact z);have F:fT (λa=>¬Mu a) 1 3 w (eR ⟨#[100,114,111,112]⟩ 1 (J I 0 0) (J (aS G) 1 1) (aS b) 1 1 3 0 (J I 0 0) (J I 0 0)).toList:=⟨_,1,I,0,0,some ⟨G,0,I⟩,1,1,some ⟨b,0,I⟩,1,[(ai 7 0 (J (aS A) 1 1) (J (aS B) 1 1)).toList],3,0,I,0,0,I,0,0,Q,mw p Q u,λH f=>by rw[List.mem_singleton.1 f];exact af.le C _ dC,af.le (dz ⟨dC,dC,dC⟩).1 _ dC,(show 1<=30000 by decide)⟩;have k:=x.vH l m (mo:=some ⟨e,0,I⟩) (mc:=1) (ms:=[(eR ⟨#[100,114,111,112]⟩ 1 (J I 0 0) (J (aS G) 1 1) (aS b) 1 1 3 0 (J I 0 0) (J I 0 0)).toList]) (by have:=mw (size:=9) (c:=1) (S:=λa=>¬Mu a) r Q v;simpa using this) (λH f=>by rw[List.mem_singleton.1 f,y];exact F) (show 1<=30000 by decide);exact⟨_,by rw[List.length_set];exact i,k.1,k.2.1⟩
theorem PS.yF {d:Dd} (q:PS w mb M d trs Mu) (k:IB w3 w Mu) (l:O trs=4) (m:trs[3]? =some (js nm (-1) 0 true I 0 0).toList) (n:M.tv=J (aS gt) 4 c) (o:gt<E (U w)) (e:w.heap[A]? =some (Ob #[vN 1] tA (0,0))) (f:w.heap[B]? =some (Ob (ai 5 0 (J I 0 0) (J I 0 0)) 39 (0,0))) (p:¬Mu A) (r:¬Mu B):∃a,O a=4/\MS (((((w.setCell ⟨gt,19,I⟩ (J (aS (E (U w)+1+1)) 1 1)).alloc (Ob #[J I 0 0,J I 0 0] 95)).alloc (Ob (ai 7 0 (J (aS A) 1 1) (J (aS B) 1 1)) 39)).alloc (Ob (eR ⟨#[100,114,111,112]⟩ 1 (J I 0 0) (J (aS (E (U w))) 1 1) (aS (E (U w)+1)) 1 1 3 0 (J I 0 0) (J I 0 0)) 97)).drew) mb M a [] [] 1 0 0 Mu 3/\IB w3 (((((w.setCell ⟨gt,19,I⟩ (J (aS (E (U w)+1+1)) 1 1)).alloc (Ob #[J I 0 0,J I 0 0] 95)).alloc (Ob (ai 7 0 (J (aS A) 1 1) (J (aS B) 1 1)) 39)).alloc (Ob (eR ⟨#[100,114,111,112]⟩ 1 (J I 0 0) (J (aS (E (U w))) 1 1) (aS (E (U w)+1)) 1 1 3 0 (J I 0 0) (J I 0 0)) 97)).drew) Mu:=by
 obtain⟨b,C,s,t⟩:=xj w #[J I 0 0,J I 0 0] (ai 7 0 (J (aS A) 1 1) (J (aS B) 1 1)) (eR ⟨#[100,114,111,112]⟩ 1 (J I 0 0) (J (aS (E (U w))) 1 1) (aS (E (U w)+1)) 1 1 3 0 (J I 0 0) (J I 0 0)) 95 39 97;have u:=(gE e).1;have v:=(gE f).1;obtain⟨a,x,i,y⟩:=(q.below b).drop l m n ((b.block _ u).trans e) ((b.block _ v).trans f) s t p r (λh=>oH (q.mlt _ h)) (λh=>oH (q.mlt _ h));have j:=(k.below b).kx y (λ_ _ h=>h)
 have z:(((w.alloc (Ob #[J I 0 0,J I 0 0] 95)).alloc (Ob (ai 7 0 (J (aS A) 1 1) (J (aS B) 1 1)) 39)).alloc (Ob (eR ⟨#[100,114,111,112]⟩ 1 (J I 0 0) (J (aS (E (U w))) 1 1) (aS (E (U w)+1)) 1 1 3 0 (J I 0 0) (J I 0 0)) 97)).setCell ⟨gt,19,I⟩ (J (aS (E (U w)+1+1)) 1 1)=(((w.setCell ⟨gt,19,I⟩ (J (aS (E (U w)+1+1)) 1 1)).alloc (Ob #[J I 0 0,J I 0 0] 95)).alloc (Ob (ai 7 0 (J (aS A) 1 1) (J (aS B) 1 1)) 39)).alloc (Ob (eR ⟨#[100,114,111,112]⟩ 1 (J I 0 0) (J (aS (E (U w))) 1 1) (aS (E (U w)+1)) 1 1 3 0 (J I 0 0) (J I 0 0)) 97):=by
  rw[World.setCell_alloc_past _ _ _ _ (by simp;omega),World.setCell_alloc_past _ _ _ _ (by simp;omega),World.setCell_alloc_past _ _ _ _ o]
 rw[z] at i j;exact⟨a,x,i.below ((Below.refl _ _).drew),j.below ((Below.refl _ _).drew)⟩
theorem PS.yE {d:Dd} (q:PS w mb M d trs Mu) (k:IB w3 w Mu) (l:O trs=4) (m:trs[3]? =some (js nm (-1) 0 true I 0 0).toList) (n:M.tv=J (aS gt) 4 c) (o:gt<E (U w)) (e:w.heap[A]? =some (Ob #[vN 1] tA (0,0))) (f:w.heap[B]? =some (Ob (ai 5 0 (J I 0 0) (J I 0 0)) 39 (0,0))) (p:¬Mu A) (r:¬Mu B):∃a,O a=4/\MS (((((w.setCell ⟨gt,19,I⟩ (J (aS (E (U w)+1+1)) 1 1)).alloc (Ob (ai 7 0 (J (aS A) 1 1) (J (aS B) 1 1)) 39)).alloc (Ob #[J I 0 0,J I 0 0] 95)).alloc (Ob (eR ⟨#[100,114,111,112]⟩ 1 (J I 0 0) (J (aS (E (U w)+1)) 1 1) (aS (E (U w))) 1 1 3 0 (J I 0 0) (J I 0 0)) 97)).drew) mb M a [] [] 1 0 0 Mu 3/\IB w3 (((((w.setCell ⟨gt,19,I⟩ (J (aS (E (U w)+1+1)) 1 1)).alloc (Ob (ai 7 0 (J (aS A) 1 1) (J (aS B) 1 1)) 39)).alloc (Ob #[J I 0 0,J I 0 0] 95)).alloc (Ob (eR ⟨#[100,114,111,112]⟩ 1 (J I 0 0) (J (aS (E (U w)+1)) 1 1) (aS (E (U w))) 1 1 3 0 (J I 0 0) (J I 0 0)) 97)).drew) Mu:=by
 obtain⟨b,s,C,t⟩:=xj w (ai 7 0 (J (aS A) 1 1) (J (aS B) 1 1)) #[J I 0 0,J I 0 0] (eR ⟨#[100,114,111,112]⟩ 1 (J I 0 0) (J (aS (E (U w)+1)) 1 1) (aS (E (U w))) 1 1 3 0 (J I 0 0) (J I 0 0)) 39 95 97;have u:=(gE e).1;have v:=(gE f).1;obtain⟨a,x,i,y⟩:=(q.below b).drop l m n ((b.block _ u).trans e) ((b.block _ v).trans f) s t p r (λh=>oH (q.mlt _ h)) (λh=>oH (q.mlt _ h));have j:=(k.below b).kx y (λ_ _ h=>h)
 have z:(((w.alloc (Ob (ai 7 0 (J (aS A) 1 1) (J (aS B) 1 1)) 39)).alloc (Ob #[J I 0 0,J I 0 0] 95)).alloc (Ob (eR ⟨#[100,114,111,112]⟩ 1 (J I 0 0) (J (aS (E (U w)+1)) 1 1) (aS (E (U w))) 1 1 3 0 (J I 0 0) (J I 0 0)) 97)).setCell ⟨gt,19,I⟩ (J (aS (E (U w)+1+1)) 1 1)=(((w.setCell ⟨gt,19,I⟩ (J (aS (E (U w)+1+1)) 1 1)).alloc (Ob (ai 7 0 (J (aS A) 1 1) (J (aS B) 1 1)) 39)).alloc (Ob #[J I 0 0,J I 0 0] 95)).alloc (Ob (eR ⟨#[100,114,111,112]⟩ 1 (J I 0 0) (J (aS (E (U w)+1)) 1 1) (aS (E (U w))) 1 1 3 0 (J I 0 0) (J I 0 0)) 97):=by
  rw[World.setCell_alloc_past _ _ _ _ (by simp;omega),World.setCell_alloc_past _ _ _ _ (by simp;omega),World.setCell_alloc_past _ _ _ _ o]
 rw[z] at i j;exact⟨a,x,i.below ((Below.refl _ _).drew),j.below ((Below.refl _ _).drew)⟩
end
def xA (w:World) (n:Nat) (e:Ending) (w':World):Prop:=∃r:Nat,e=.returned (vN r)/\r<n/\w'=w
theorem vI {w:World} (k:Int) (n:Nat) (f:1<=n) (i:n<=2199023255552):Calls Tryz.prog 6 #[vN k,vN n] w (xA w n):=by
 have j:((n:Int)==0)=false:=by simp;omega
 have l:(n:Int)≠0:=oM;have b:Int.tmod k n<n:=Int.tmod_lt_of_pos _ oM
 have c: -(n:Int)<k.tmod n:=by
  have h:=Int.tmod_lt_of_pos (-k) (show(0:Int)<n by omega);rw[Int.neg_tmod] at h;omega
 have d:Hid (Int.tmod k n<n/\ -(n:Int)<k.tmod n):=⟨b,c⟩;clear b c;go_enter Tryz.func6,Tryz.ntmps6
 go_wp2_with fail
 ·rename_i m
  have e:=d.out;go_ret
  have a:wrap64 (k.tmod n+n)=((k.tmod n+n).toNat:Int):=by
   unfold wrap64;omega
  rw[a];exact⟨_,Q,oM,Q⟩
 ·rename_i o
  have e:=d.out;go_ret;have a:k.tmod n=((k.tmod n).toNat:Int):=oM;rw[a];exact⟨_,Q,oM,Q⟩
end Go.Proofs.YtcnnibahjmekdaaGreat
