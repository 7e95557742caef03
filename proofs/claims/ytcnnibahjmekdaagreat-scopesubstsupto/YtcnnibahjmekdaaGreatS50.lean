import Derived.Test.YtcnnibahjmekdaaGreatS43
namespace Go.Proofs.YtcnnibahjmekdaaGreat
open Go.RowKit
open Value renaming slice→J
open List renaming length→O
open Option renaming none→I
open World renaming heap→U
open _root_.Array renaming size→E
open Obj renaming cells→Ob
set_option linter.all false
set_option maxRecDepth 100000
set_option maxHeartbeats 0
section
variable{M:MK} {H Xd Xf Xi mb:Nat} {Mu:Nat->Prop} {fns ims trs:VV} {w:World}
structure TE (w:World) (mb:Nat) (M:MK) (trs ims fns:VV) (Xd Xi Xf:Nat) (Mu:Nat->Prop) (H:Nat) (wr:World) (k a:Int) (trs':VV) (H':Nat):Prop where
 s:MS wr mb (M.bt k a) trs' ims fns Xd Xi Xf Mu H'
 kx:KX Mu (E (U w)) w wr
 tl:O trs'=O trs
 hH:H<=H'
 hf:M.fk≠0->k=M.fk
theorem lN {n:Nat} {l:List Nat} (h:n∈l):n<=l.sum:=by
 induction l with
 |nil=>simp at h
 |cons b c a=>
  rw[List.sum_cons];rcases List.mem_cons.1 h with rfl|h
  ·omega
  ·have:=a h;omega
theorem TE.below {wr w':World} {k a:Int} {b:VV} {H':Nat} (q:TE w mb M trs ims fns Xd Xi Xf Mu H wr k a b H') (c:Below (E (U wr)) wr w'):TE w mb M trs ims fns Xd Xi Xf Mu H w' k a b H':=
 ⟨q.s.below c,q.kx.trans ((KX.aq c).mono (λ_ _ h=>h) q.kx.size),q.tl,q.hH,q.hf⟩
theorem sx {h:Nat} (hS:MS w mb M trs ims fns Xd Xi Xf Mu H) {mod:Nat} {md:Md} (cI:M.ms[mod]? =some md) {B0:Nat} (bb:∀b,Mu b->B0<=b) (ed:B0<=E (U w)) {pos n m:Int} {name:ByteArray} {ko:OA} {kc:Nat} {ks:VV} (b6:cZ B0 w (J ko (O ks) kc) ks) (cJ:∀i,i<O ks->∃g,ko=some ⟨g,0,I⟩) (bI:∀x∈ks,isNode (λb=>b<B0) True (h+3) w x) (cK:∀x∈ks,aG (h+3) w x<=96100) (cL:M.fk=0->∀(p n m:Int) (s:ByteArray) (kv:Value),(ae 6 p n m s kv).toList∈ks->∀r∈md.ns.take md.own,r.name.toList=s.toList->r.sort=2):
 Calls Tryz.prog 31 #[.pointer (aS mb),vN mod,.agg (ae 1 pos n m name (J ko (O ks) kc))] w (uv w mb M trs ims fns Xd Xi Xf Mu H):=by
 have ee:B0<=mb:=bb mb hS.dT;have e3:=b6.len.2;obtain⟨bc,br⟩:=al1 w (Ob (ae 1 pos n m name (J ko (O ks) kc)) 46)
 have ef:Hid (∀{c:World},KX Mu (E (U w)) w c->∀B,B<O ks->∃g V t u l k j Z y,ko=some ⟨g,0,I⟩/\g<B0/\ks[B]? =some (ae V t u l k (J j Z y)).toList/\(∀o,o<11->c.cell? ⟨g,B*11+o,I⟩=(ae V t u l k (J j Z y)).toList[o]?)/\isNode (λb=>b<B0) True (h+3) c (ae V t u l k (J j Z y)).toList/\aG (h+3) c (ae V t u l k (J j Z y)).toList<=96100):=by
  intro c K B aZ;obtain⟨x,A⟩:∃x,ks[B]? =some x:=⟨_,gG aZ⟩;have aM:=mG A;obtain⟨V,t,u,l,k,j,Z,y,rfl,-⟩:=isNode.cells (bI x aM);have b7:al (λb=>b<B0) w c:=λb z ag=>K.block b ag (λW=>oH (bb b W));obtain⟨g,q,d,cM,b8⟩:=(b6.frame b7 ed).nth A;obtain⟨eg,b9⟩:=cJ B aZ;obtain rfl:q=0:=by rw[b9] at d;simp at d;exact d.2.symm
  refine⟨g,V,t,u,l,k,j,Z,y,d,cM,A,λo bs=>?_,isNode.frame b7 _ _ (bI _ aM),?_⟩
  ·have:=b8 o bs;rw[Nat.zero_add] at this;exact this
  ·rw[aQ b7 _ _ (bI _ aM)];exact cK _ aM
 have ah:Hid (MS w mb M trs ims fns Xd Xi Xf Mu H/\Below (E (U w)) w (w.alloc (Ob (ae 1 pos n m name (J ko (O ks) kc)) 46))/\(∀b,Mu b->B0<=b)/\(∀b,Mu b->b<E (U w))/\M.ms[mod]? =some md/\(M.fk=0->∀(p n m:Int) (s:ByteArray) (kv:Value),(ae 6 p n m s kv).toList∈ks->∀r∈md.ns.take md.own,r.name.toList=s.toList->r.sort=2)):=⟨hS,bc,bb,hS.mlt,cI,cL⟩
 obtain⟨aa,b',bJ⟩:∃g ca,M.tv=J (aS g) (O trs) ca:=by
  have e4:=hS.pi.bB.2.2;obtain⟨x,A⟩:∃x,trs[0]? =some x:=⟨_,gG oM⟩;obtain⟨g,ca,d,-⟩:=aL hS.tr Q (λx A=>by obtain⟨bc,br,cb,bt,cN,cO,cc,d,-⟩:=hS.jq x A;rw[d];rfl) A;exact⟨g,ca,d⟩
 have cd:TE (w.alloc (Ob (ae 1 pos n m name (J ko (O ks) kc)) 46)) mb M trs ims fns Xd Xi Xf Mu H (w.alloc (Ob (ae 1 pos n m name (J ko (O ks) kc)) 46)) M.fk M.fa trs H:=⟨hS.below bc,KX.refl _ _ _,Q,lR _,λ_=>rfl⟩;obtain⟨aj,bu⟩:∃aj,aj=w.alloc (Ob (ae 1 pos n m name (J ko (O ks) kc)) 46):=⟨_,Q⟩;have e5:E (U aj)=E (U w)+1:=by rw[bu];simp
 have ak:Hid (∀{c:World},KX Mu (E (U aj)) aj c->KX Mu (E (U w)) w c/\c.heap[E (U w)]? =some (Ob (ae 1 pos n m name (J ko (O ks) kc)) 46 (0,0))):=λ{c} K=>by
  rw[bu] at K;refine⟨(KX.aq ah.out.2.1).trans (K.mono (λ_ _ h=>h) sQ),(K.block _ sQ (λW=>?_)).trans br⟩;have:=ah.out.2.2.2.1 _ W;omega
 have bK:=λq=>cell_of_row aj _ q _ 46 (0,0) (ak.out (KX.refl _ _ _)).2;have bL:E (U w)<E (U aj):=oM;rw[<-bu] at cd;clear hS bb cK cL b6 cJ bI cI bc br;clear bK bL;go_enter Tryz.func31,Tryz.ntmps31
 go_wp2_with fail;rw[<-bu];clear bu;go_loopg [7,8,9,10,12,14,15,16,17,21] (O ks) (λbv _ _ _ _ _ _ _ _ _ bd wr=>∃(B:Nat) (T a:Int) (X:VV) (bf:Nat),bv=O ks - B/\bd=vN B/\B<=O ks/\TE aj mb M trs ims fns Xd Xi Xf Mu H wr T a X bf)
 case atStart=>exact⟨0,_,_,_,_,Q,Q,zL _,cd⟩
 case round=>
  clear cd;obtain⟨B,T,a,X,bf,aN,rfl,e6,ab⟩:=hrel;have ce:Hid (gk=O ks - B):=aN;clear aN;have bK:=λq=>cell_of_row wr _ q _ 46 (0,0) (ak.out ab.kx).2;have bL:E (U w)<E (U wr):=(gE (ak.out ab.kx).2).1;by_cases aZ:B<O ks
  ·have eh:(B:Int)<(O ks:Int):=oM;obtain⟨g,V,t,u,l,k,j,Z,y,d,cM,cP,bx,cQ,cR⟩:=ef.out (ak.out ab.kx).1 B aZ;obtain rfl:ko=some ⟨g,0,I⟩:=d;have cS:g<E (U wr):=oM;have bM:=qt bx;have bO:Hid (ks[B]? =some (ae V t u l k (J j Z y)).toList/\isNode (λb=>b<B0) True (h+3) wr (ae V t u l k (J j Z y)).toList/\aG (h+3) wr (ae V t u l k (J j Z y)).toList<=96100):=⟨cP,cQ,cR⟩;clear bx cP cQ cR;have ao:=ab.below (al1 wr (Ob (ae V t u l k (J j Z y)) 46)).1;by_cases cT:V=6
   ·subst cT;by_cases cU:T=0
    ·subst cU;obtain⟨e,rfl,cf,cV,cW,cX,ei,cY,ej,-⟩:=bO.out.2.1.kids;have e7:=cf.len.2;have c0:=cW.sy Q;have bg:Hid (cZ B0 wr (J j (O e) y) e/\(∀x∈e,isNode (λb=>b<B0) True (h+2) wr x)/\(∀x∈e.map aA,x=8)/\(∀i,i<O e->∃g,j=some ⟨g,0,I⟩)/\(e.map (aG (h+2) wr)).sum<=96100):=⟨cf,cV,c0,cY,by have a0:=lT (Nat.le_of_eq cX.symm) bO.out.2.2;omega⟩;clear cf cV cW cX ei cY ej c0;go_upto_region 5 with(go_at_call 35;refine(bN ao.s.mk').mono ?_;rintro d a1 ⟨rfl,rfl⟩)
     go_cut [8,9] (λek el bP=>∃(ap:Nat) (c1:Bool) (r:Nm),ek=.pointer (aS ap)/\el=.bool c1/\Below (E (U (wr.alloc (Ob (ae 6 t u l k (J j (O e) y)) 46)))) (wr.alloc (Ob (ae 6 t u l k (J j (O e) y)) 46)) bP/\bw bP ap (dR r)/\E (U wr)<ap/\(0<=r.n/\r.n<(O X:Int)))
     case first=>
      clear bK bL bM cS;have bz:Hid (∀{c:World},Below (E (U (wr.alloc (Ob (ae 6 t u l k (J j (O e) y)) 46)))) (wr.alloc (Ob (ae 6 t u l k (J j (O e) y)) 46)) c->Below (E (U (wr.alloc (Ob (ae 6 t u l k (J j (O e) y)) 46)))) (wr.alloc (Ob (ae 6 t u l k (J j (O e) y)) 46)) c/\(Ce c mb (jO (M.bt 0 a)))/\(Ce c (E (U wr)) (ae 6 t u l k (J j (O e) y)))):=λ{c} z=>⟨z,(ao.s.mk'.below z).cell,λq=>cell_of_row c _ q _ 46 (0,0) ((z.block _ sQ).trans (al1 wr _).2)⟩
      have c2:Hid (∀(r:Nm) (b:Bool),(b=true->r∈md.ns.take md.own/\r.name.toList=k.toList)->(b=false->r=gJ/\∀aO∈md.ns.take md.own,aO.name.toList≠k.toList)->0<=r.n/\r.n<(O X:Int)):=λr b em en=>by
       have e8:=ao.s.pi.bB.2.2
       cases b
       ·rw[(en Q).1];exact⟨Int.le_refl _,by show(0:Int)<_;omega⟩
       ·have a2:=em Q
        have eo:M.fk=0:=by
         by_cases cg:M.fk=0
         ·exact cg
         ·exact absurd (ab.hf cg).symm cg
        have ep:=ah.out.2.2.2.2.2 eo t u l k _ (mG bO.out.1) r a2.1 a2.2;have c3:=ao.s.pi.q md (mG ah.out.2.2.2.2.1) r (List.mem_of_mem_take a2.1);exact⟨c3.1,c3.2.2 ep⟩
      go_region_held3 (λc=>Below (E (U (wr.alloc (Ob (ae 6 t u l k (J j (O e) y)) 46)))) (wr.alloc (Ob (ae 6 t u l k (J j (O e) y)) 46)) c/\(Ce c mb (jO (M.bt 0 a)))/\(Ce c (E (U wr)) (ae 6 t u l k (J j (O e) y))))
       (first|assumption|exact bz.out ((Below.refl _ _).drew)|exact bz.out ((al1 _ _).1.drew)|exact bz.out aP|exact bz.out (aP.alloc aP.size _)|exact bz.out (Below.cQ aP sQ _ _ _ _))
       (first
        |(go_at_call 48;have ch:=(‹Below (E (U (wr.alloc (Ob (ae 6 t u l k (J j (O e) y)) 46)))) (wr.alloc (Ob (ae 6 t u l k (J j (O e) y)) 46)) _/\_›).1;refine(pY (ao.s.pi.cK.below ch) _ _ _ _ _ _ (i:=mod) ah.out.2.2.2.2.1 _).mono ?_;rintro d a1 ⟨bQ,bR,rfl,c4,c5,c6⟩;have aP:=ch.trans (c6.mono ch.size);have bh:=aP.size;first|(have bS:bw a1 (E (U wr)+1) (dR gJ):=(c6.block (E (U wr)+1) sQ).trans (eI wr _ _).2.2;have e9:=bS.cell;have e':=bS.fz;have fa:=bS.lt)|skip))
      all_goals
       go_wp2_with fail;go_meet
       first
        |exact⟨E (U wr)+1,bR,bQ,Q,Q,Below.cQ aP sQ _ _ _ _,bw.bQ bS _ _ _ _,oM,c2.out bQ bR c4 c5⟩
        |exact⟨E (U a1),bR,bQ,Q,Q,aP.alloc aP.size _,(al1 _ _).2,by simp at bh;omega,c2.out bQ bR c4 c5⟩
     case rest=>
      clear bK bL bM cS;obtain⟨ap,c1,r,rfl,rfl,bT,c7,fb,ci⟩:=hcut;obtain⟨cj,ck,c8,cl⟩:=r;obtain⟨ac,rfl⟩:∃ac:Nat,c8=(ac:Int):=⟨c8.toNat,by have:=ci.1;simp at this;omega⟩;have eq:ac<O X:=by have:=ci.2;simp at this;exact this
      clear ci;have Y:=ao.below bT;have bU:wc.heap[E (U wr)]? =some (Ob (ae 6 t u l k (J j (O e) y)) 46 (0,0)):=(bT.block _ sQ).trans (al1 wr _).2;have c9:=λq=>cell_of_row wc _ q _ 46 (0,0) bU;have cm:E (U wr)<E (U wc):=(gE bU).1;have er:E (U w)<=E (U wr):=by have:=(ak.out ab.kx).1.size;exact this
      have bV:Hid (∀{c:World},KX Mu (E (U wc)) wc c->al (λb=>b<B0) wr c):=by
       intro c K;have bb:=ah.out.2.2.1;have es:KX Mu (E (U wr)) wr c:=(KX.aq ((al1 wr _).1.trans (bT.mono (al1 wr _).1.size))).trans (K.mono (λ_ _ h=>h) oM);exact λb z ag=>es.block b ag (λW=>oH (bb b W))
      have cn:Hid (∀{c:World},KX Mu (E (U wc)) wc c->c.heap[E (U wr)]? =some (Ob (ae 6 t u l k (J j (O e) y)) 46 (0,0))/\bw c ap (dR ⟨cj,ck,(ac:Int),cl⟩)):=by
       intro c K;have c':=ah.out.2.2.2.1;exact⟨(K.block _ cm (λW=>oH (c' _ W))).trans bU,(K.block _ c7.lt (λW=>oH (c' _ W))).trans c7⟩
      have et:Hid (∀o,o<O e->∃aq L ad F C N af P,j=some ⟨aq,0,I⟩/\aq<B0/\∀c:World,KX Mu (E (U wc)) wc c->(∀i,i<11->c.cell? ⟨aq,o*11+i,I⟩=(ae 8 L ad F C (J N af P)).toList[i]?)/\isNode (λb=>b<B0) True (h+2) c (ae 8 L ad F C (J N af P)).toList/\aG (h+2) c (ae 8 L ad F C (J N af P)).toList<=96100):=by
       intro o bs;obtain⟨x,A⟩:∃x,e[o]? =some x:=⟨_,gG bs⟩;have aM:=mG A;have co:=bg.out.2.1 x aM;obtain⟨da,L,ad,F,C,N,af,P,rfl,-⟩:=isNode.cells co;have bi:fL da ad af=8:=bg.out.2.2.1 _ (List.mem_map_of_mem aM)
       have eu:da=8:=by
        unfold fL at bi;split at bi
        ·exact absurd bi dC
        ·split at bi
         ·exact absurd bi dC
         ·exact bi
       subst eu;obtain⟨aq,q,d,cp,b8⟩:=bg.out.1.nth A;obtain⟨eg,b9⟩:=bg.out.2.2.2.1 o bs;obtain rfl:q=0:=by rw[b9] at d;simp at d;exact d.2.symm
       refine⟨aq,L,ad,F,C,N,af,P,d,cp,λc K=>⟨λi db=>?_,isNode.frame (bV.out K) _ _ co,?_⟩⟩
       ·have:=b8 i db;rw[Nat.zero_add] at this;exact(World.cell?_of_block (w:=wr) (a:=⟨aq,o*11+i,I⟩) (bV.out K aq cp oM)).trans this
       ·rw[aQ (bV.out K) _ _ co];exact lT (lN (List.mem_map_of_mem (f:=aG (h+2) wr) aM)) bg.out.2.2.2.2
      clear bV;clear bT ao;obtain⟨dc,dd⟩:∃dc,dc=E (U wr):=⟨_,Q⟩;rw[<-dd] at cn c9 cm⊢;clear bU dd bg bO er;go_wp2_with fail;clear c9 cm;go_loopg [10,12,14,15,16,17,47] (O e) (λbv ev _ _ _ _ _ bd bP=>∃(o:Nat) (T a:Int) (mo:OA) (mc:Nat) (ms:VV) (a3:Nat->Prop) (bW:Nat),bv=O e - o/\bd=vN o/\ev=J mo (O ms) mc/\o<=O e/\O ms<=o/\bf<=bW/\mZ wc mb M X ims fns Xd Xi Xf Mu a3 bW mo mc ms bP T a)
      case atStart=>exact⟨0,0,a,I,0,[],Mu,bf,Q,Q,Q,zL _,zL _,lR _,⟨Y.s,World.ownsRow_nil _ _ _ _,λb d=>by simp[Value.ownBlock] at d,λaO a4=>by simp at a4,KX.refl _ _ _,Y.s.dT,λ_ h=>h,λ_ _ h=>h,Y.hf⟩⟩
      case round=>
       obtain⟨o,T,cb,mo,mc,ms,a3,bW,aN,rfl,rfl,bs,fc,de,G⟩:=hrel;have df:Hid (gk=O e - o):=aN;clear aN;by_cases cq:o<O e
       ·have ew:(o:Int)<(O e:Int):=oM;obtain⟨aq,L,ad,F,C,N,af,P,d,cp,cr⟩:=et.out o cq;obtain rfl:j=some ⟨aq,0,I⟩:=d
        have ex:aq<E (U wr):=by
         have a0:=G.kx.size;have a2:=(ak.out Y.kx).1.size;omega
        have bx:=(cr wr G.kx).1;have bM:=qt bx;have cs:Hid (∀c:World,KX Mu (E (U wc)) wc c->isNode (λb=>b<B0) True (h+2) c (ae 8 L ad F C (J N af P)).toList/\aG (h+2) c (ae 8 L ad F C (J N af P)).toList<=96100):=λc K=>(cr c K).2;clear bx cr;obtain⟨aR,ct⟩:=al1 wr (Ob (ae 8 L ad F C (J N af P)) 46);have t1:=G.below aR;go_wp2_with fail;obtain⟨R,dg⟩:∃R,R=E (U wr):=⟨_,Q⟩;rw[<-dg] at ct⊢;have fd:E (U wc)<=R:=oH G.kx.size;clear bM ex G aR dg;go_loopg [14,53] (O ms) (λbv _ bd dh=>∃(i:Nat) (T a:Int),bv=O ms - i/\bd=vN i/\i<=O ms/\mZ wc mb M X ims fns Xd Xi Xf Mu a3 bW mo mc ms dh T a/\dh.heap[R]? =some (Ob (ae 8 L ad F C (J N af P)) 46 (0,0)))
        case atStart=>exact⟨0,_,_,Q,Q,zL _,t1,ct⟩
        case round=>
         clear t1 ct;obtain⟨i,di,bt,aN,rfl,db,aw,bA⟩:=hrel;have ey:Hid (gk=O ms - i):=aN;clear aN;have bj:=λq=>cell_of_row wr _ q _ 46 (0,0) bA;have ar:R<E (U wr):=(gE bA).1;have ez:R<E (U wr)+1:=oM;by_cases cu:i<O ms
         ·have eA:(i:Int)<(O ms:Int):=oM;obtain⟨aO,a4⟩:∃aO,ms[i]? =some aO:=⟨_,gG cu⟩;obtain⟨au,eB,dj,fe,-,av⟩:=aL aw.row Q (λx A=>by obtain⟨ff,bc,br,cb,bt,cN,cO,cc,dk,fg,fh,fi,fj,fk,fl,fm,fn,fo,fp,d,-⟩:=aw.mt x A;rw[d];rfl) a4;obtain⟨dl,dm,dn,dp,dq,dr,ds,dt,du,dv,dw,dx,dy,dA,dB,dD,dE,dF,dG,rfl,-⟩:=aw.mt aO (mG a4);obtain⟨rfl,rfl⟩:mo=some ⟨au,0,I⟩/\mc=eB:=sU dj;have fq:wr.cell? ⟨au,i*9,I⟩=some (.string dl):=av 0 dC;have l:wr.cell? ⟨au,i*9+1,I⟩=some (vN dm):=av 1 dC;have F:wr.cell? ⟨au,i*9+2,I⟩=some (J dn dp dq):=av 2 dC;have fr:wr.cell? ⟨au,i*9+3,I⟩=some (J dr ds dt):=av 3 dC;have fs:wr.cell? ⟨au,i*9+4,I⟩=some (J du (O dw) dv):=av 4 dC;have ft:wr.cell? ⟨au,i*9+5,I⟩=some (vN dx):=av 5 dC;have fu:wr.cell? ⟨au,i*9+6,I⟩=some (vN dy):=av 6 dC;have fv:wr.cell? ⟨au,i*9+7,I⟩=some (J dA dB dD):=av 7 dC;have fw:wr.cell? ⟨au,i*9+8,I⟩=some (J dE dF dG):=av 8 dC;obtain⟨cv,-⟩:=al1 wr (Ob (eR dl dm (J dn dp dq) (J dr ds dt) du (O dw) dv dx dy (J dA dB dD) (J dE dF dG)) 97);have bX:=aw.below cv;have bZ:=(cv.block R ar).trans bA;clear av dj a4 cv;go_wp2_with (go_at_call 45;refine(bY bX.s.mk' _ _).mono ?_;rintro d fx ⟨⟨eC,dk,rfl,cw,aT,cx⟩,-⟩;have eD:=bX.no aT cw cx;have eE:=(aT.block R (gE bZ).1 (aI bZ bX.s.mk' dC)).trans bZ)
          all_goals
           go_roundg (O ms - (i+1))
           case measure=>rw[ey.out];omega
           case rel=>
            first
             |exact⟨i+1,_,_,Q,by go_num,cu,eD,eE⟩
             |exact⟨i+1,_,_,Q,by go_num,cu,bX,bZ⟩
         ·have eA:¬(i:Int)<(O ms:Int):=oM;obtain⟨cy,cz⟩:=al1 wr (Ob (dL ({mb:=mb,mod:=mod,aw:=I,cO:=0,aZ:=[],cj:=I,tcp:=0,bg:=[],bR:=true,sk:=5,sn:=0,iK:=I,iL:=0,iM:=0,iN:=I,iO:=0,iP:=0}:CK) 0 0 0 0 0) 126);have eF:E (U (wr.alloc (Ob (dL ({mb:=mb,mod:=mod,aw:=I,cO:=0,aZ:=[],cj:=I,tcp:=0,bg:=[],bR:=true,sk:=5,sn:=0,iK:=I,iL:=0,iM:=0,iN:=I,iO:=0,iP:=0}:CK) 0 0 0 0 0) 126)))=E (U wr)+1:=sQ;have eG:=aw.kx.size;have eH:=(ak.out Y.kx).1.size;have a5:=aw.grow cy (Mu':=λb=>a3 b\/b=E (U wr)) (λb z=>.inl z) (λb z=>by rcases z with z|z;(have:=aw.s.mlt b z;omega);omega) (λb ag z=>by rcases z with z|z;exact z;omega);obtain⟨bB,a6,rfl,rfl,cA⟩:=ud (cs.out _ a5.kx).1;have dH:6100*(aG (h+2) (wr.alloc (Ob (dL ({mb:=mb,mod:=mod,aw:=I,cO:=0,aZ:=[],cj:=I,tcp:=0,bg:=[],bR:=true,sk:=5,sn:=0,iK:=I,iL:=0,iM:=0,iN:=I,iO:=0,iP:=0}:CK) 0 0 0 0 0) 126)) (ae 8 L (O a6:Int) F C (J N (O bB) P)).toList*1)<=17592186044416:=lT (Nat.mul_le_mul_left 6100 (by rw[Nat.mul_one];exact(cs.out _ a5.kx).2)) dC;have eJ:mod<O M.ms:=(gS ah.out.2.2.2.2.1).1;have cB:=dz (S:=λ_=>False) (D:=O M.ds) (w:=(wr.alloc (Ob (dL ({mb:=mb,mod:=mod,aw:=I,cO:=0,aZ:=[],cj:=I,tcp:=0,bg:=[],bR:=true,sk:=5,sn:=0,iK:=I,iL:=0,iM:=0,iN:=I,iO:=0,iP:=0}:CK) 0 0 0 0 0) 126))) (kind:=5) (n:=0) ⟨λd=>absurd d dC,dC,dC⟩;have dI:Cx (wr.alloc (Ob (dL ({mb:=mb,mod:=mod,aw:=I,cO:=0,aZ:=[],cj:=I,tcp:=0,bg:=[],bR:=true,sk:=5,sn:=0,iK:=I,iL:=0,iM:=0,iN:=I,iO:=0,iP:=0}:CK) 0 0 0 0 0) 126)) (E (U wr)) ({mb:=mb,mod:=mod,aw:=I,cO:=0,aZ:=[],cj:=I,tcp:=0,bg:=[],bR:=true,sk:=5,sn:=0,iK:=I,iL:=0,iM:=0,iN:=I,iO:=0,iP:=0}:CK) (M.bt di bt) (O X) (λ_=>False) 1 1:=⟨World.ownsRow_nil _ _ _ _,zL _,World.ownsRow_nil _ _ _ _,zL _,a5.s.pi,eJ,cB.1,λ_ A=>A.elim,cB.2,lR _⟩;have dJ:mb≠E (U wr):=oH aw.s.mk'.lt;have ax:=(cy.block R ar).trans bA;have dK:Hid (Calls Tryz.prog 53 #[.pointer (some ⟨mb,0,I⟩),.agg (ae 8 L (O a6:Int) F C (J N (O bB) P)),.pointer (some ⟨E (U wr),0,I⟩)] (wr.alloc (Ob (dL ({mb:=mb,mod:=mod,aw:=I,cO:=0,aZ:=[],cj:=I,tcp:=0,bg:=[],bR:=true,sk:=5,sn:=0,iK:=I,iL:=0,iM:=0,iN:=I,iO:=0,iP:=0}:CK) 0 0 0 0 0) 126)) (fV (wr.alloc (Ob (dL ({mb:=mb,mod:=mod,aw:=I,cO:=0,aZ:=[],cj:=I,tcp:=0,bg:=[],bR:=true,sk:=5,sn:=0,iK:=I,iL:=0,iM:=0,iN:=I,iO:=0,iP:=0}:CK) 0 0 0 0 0) 126)) mb (E (U wr)) (M.bt di bt) ({mb:=mb,mod:=mod,aw:=I,cO:=0,aZ:=[],cj:=I,tcp:=0,bg:=[],bR:=true,sk:=5,sn:=0,iK:=I,iL:=0,iM:=0,iN:=I,iO:=0,iP:=0}:CK) (λb=>False/\b<E (U (wr.alloc (Ob (dL ({mb:=mb,mod:=mod,aw:=I,cO:=0,aZ:=[],cj:=I,tcp:=0,bg:=[],bR:=true,sk:=5,sn:=0,iK:=I,iL:=0,iM:=0,iN:=I,iO:=0,iP:=0}:CK) 0 0 0 0 0) 126)))) (aG (h+2) (wr.alloc (Ob (dL ({mb:=mb,mod:=mod,aw:=I,cO:=0,aZ:=[],cj:=I,tcp:=0,bg:=[],bR:=true,sk:=5,sn:=0,iK:=I,iL:=0,iM:=0,iN:=I,iO:=0,iP:=0}:CK) 0 0 0 0 0) 126)) (ae 8 L (O a6:Int) F C (J N (O bB) P)).toList*1) (O a6))):=sF dI cz a5.s.mk' dJ Q oM ee (λ_ A=>A.elim) cA dH;clear dI cB dH;go_upto_region 19 with(go_at_call 53;refine dK.out.mono ?_;rintro d bk dM;obtain⟨lv,aU,aV,aW,eK,eL,eM,ay,az,aB,aC,aD,aE,aH,aJ,dN,cc,bl,rfl,dO,dP,dQ,dS,dT⟩:=a5.sig cz (.inr rfl) oM (λb z=>z.1.elim) dM;have cC:=(dQ.block R (gE ax).1 (λd=>by rcases d with d|d;omega;exact aI ax a5.s.mk' dC d)).trans ax)
          obtain⟨aR,bm,-⟩:=eI bk (Ob (eV lv aF (J (aS (E (U bk)+1)) 1 1) aU (O aW) aV (vN ay) (vN az) (J aB aC aD) (J aE aH aJ)) 54) (Ob #[J I 0 0,J I 0 0] 95);have a7:=dO.below aR;have b0:=(aR.block R (gE cC).1).trans cC;have bn:=dS.frame (λb _ ag=>aR.block b ag) aR.size;have fy:=cA.len;have eN:∃cD,cD=aG (h+2) (wr.alloc (Ob (dL ({mb:=mb,mod:=mod,aw:=I,cO:=0,aZ:=[],cj:=I,tcp:=0,bg:=[],bR:=true,sk:=5,sn:=0,iK:=I,iL:=0,iM:=0,iN:=I,iO:=0,iP:=0}:CK) 0 0 0 0 0) 126)) (ae 8 L (O a6:Int) F C (J N (O bB) P)).toList*1:=⟨_,Q⟩;obtain⟨cD,dU⟩:=eN;rw[<-dU] at bn;clear dU;have dV:bf<=bl:=lT de dP;clear aw bA a5 cy cz eF eG eH dJ ax dK cA dQ cC dS dO aR bj ar ez dM dP;obtain⟨aK,dW⟩:∃aK,aK=(bk.alloc (Ob (eV lv aF (J (aS (E (U bk)+1)) 1 1) aU (O aW) aV (vN ay) (vN az) (J aB aC aD) (J aE aH aJ)) 54)).alloc (Ob #[J I 0 0,J I 0 0] 95):=⟨_,Q⟩;rw[<-dW] at a7 b0 bn bm⊢;clear dW;obtain⟨a8,dX⟩:∃a8,a8=E (U bk):=⟨_,Q⟩;obtain⟨aY,dY⟩:∃aY,aY=E (U bk)+1:=⟨_,Q⟩;rw[<-dY] at bm⊢;rw[<-dX] at bm⊢;clear dX dY;have b1:=λq=>cell_of_row aK _ q _ 54 (0,0) bm;have bo:a8<E (U aK):=(gE bm).1;have bj:=λq=>cell_of_row aK _ q _ 46 (0,0) b0;have ar:R<E (U aK):=(gE b0).1;have cE:Hid (∀{c:World} {T a:Int},mZ wc mb M X ims fns Xd Xi Xf Mu (λb=>a3 b\/b=E (U wr)) bl mo mc ms c T a->nr (λb=>¬(a3 b\/b=E (U wr))) (O M.ds) bl c aU aV aW eK eL eM (ai ay az (J aB aC aD) (J aE aH aJ)).toList cD->∀cF,∃bD cG,(Builtin.append_ #[91,91] cF #[J mo (O ms) mc,J (aS (E (U c))) 1 1]).run Tryz.prog (c.alloc (Ob (eR C lv aF (J (aS aY) 1 1) aU (O aW) aV ay az (J aB aC aD) (J aE aH aJ)) 97))=.ok bD cG/\∃a9 a' Mu',bD=J a9 (O (ms++[(eR C lv aF (J (aS aY) 1 1) aU (O aW) aV ay az (J aB aC aD) (J aE aH aJ)).toList])) a'/\mZ wc mb M X ims fns Xd Xi Xf Mu Mu' bl a9 a' (ms++[(eR C lv aF (J (aS aY) 1 1) aU (O aW) aV ay az (J aB aC aD) (J aE aH aJ)).toList]) cG T a/\KX (λb=>a3 b\/b=E (U wr)) (E (U c)) c cG):=λ{c T a} G b2 cF=>G.push ⟨C,lv,I,0,0,some ⟨aY,0,I⟩,1,1,aU,aV,aW,ay,az,aB,aC,aD,aE,aH,aJ,Q,b2.ri,b2.ti,b2.lH,b2.li⟩ Q (by intro bd bp;simp at bp;repeat(first|(subst bp;rfl)|(rcases bp with bp|bp;(subst bp;rfl)))) oM cF Q;by_cases dZ:dN=0
          ·subst dZ;have eO:=dT Q;obtain⟨eP,cH,d0,d1,-,-,-,d2,-,-⟩:=(cs.out aK a7.kx).1.kids
           have eQ:Hid (Calls Tryz.prog 54 #[.agg (ae 8 L (O a6:Int) F C (J N (O bB) P)),.agg (eV lv aF (J (aS aY) 1 1) aU (O aW) aV (vN ay) (vN az) (J aB aC aD) (J aE aH aJ))] aK (ix aK)):=by
            have a0:=qZ (kind:=8) (pos:=L) (n:=(O a6:Int)) (m:=F) (name:=C) (ko:=N) (kc:=P) (ks:=eP) (by rw[<-cH];exact d0) d2 (oI a7.kx.size (ak.out Y.kx).1.size) (λx A=>⟨_,d1 x A⟩) (lv:=lv) (ov:=aF) (gv:=(J (aS aY) 1 1)) (t0:=vN ay) (t1:=vN az) (t2:=J aB aC aD) (t3:=J aE aH aJ) bn.ri bn.ti (λfz=>by omega);rw[<-cH] at a0;exact a0
           clear cH d0 d1 d2 eO dT
           go_wp2_with (first
            |(go_at_call 35;refine(bN a7.s.mk').mono ?_;rintro d a1 ⟨rfl,rfl⟩)
            |(go_at_call 54;refine eQ.out.mono ?_;rintro d bE ⟨fA,rfl,bF⟩;have bq:=a7.below bF;have d3:=bn.frame (λb _ ag=>bF.block b ag) bF.size;have bh:=(bF.block a8 bo).trans bm;have ax:=(bF.block R ar).trans b0;clear b1 bo bj ar;have b1:=λq=>cell_of_row bE _ q _ 54 (0,0) bh;have bo:a8<E (U bE):=(gE bh).1;have bj:=λq=>cell_of_row bE _ q _ 46 (0,0) ax;have ar:R<E (U bE):=(gE ax).1)
            |(go_at_call 45;refine(bY bq.s.mk' _ _).mono ?_;rintro d bG ⟨⟨eC,dk,rfl,cw,aT,cx⟩,-⟩;have eS:=bq.no aT cw cx;have eT:=d3.frame (λb z ag=>aT.block b ag (λd=>z (d▸bq.s.dT))) aT.size;have d4:=(aT.block a8 bo (aI bh bq.s.mk' dC)).trans bh;have d5:=(aT.block R ar (aI ax bq.s.mk' dC)).trans ax;clear b1 bo bj ar;have b1:=λq=>cell_of_row bG _ q _ 54 (0,0) d4;have bo:a8<E (U bG):=(gE d4).1;have bj:=λq=>cell_of_row bG _ q _ 46 (0,0) d5;have ar:R<E (U bG):=(gE d5).1)
            |(at_builtin;refine bC 91 (v:=J mo (O ms) mc) (xv:=J (aS (E (U bG))) 1 1) rQ rQ rQ rQ (cE.out eS eT _) ?_;rintro bD d6 ⟨a9,a',b3,rfl,b4,-⟩)
            |(at_builtin;refine bC 91 (v:=J mo (O ms) mc) (xv:=J (aS (E (U bE))) 1 1) rQ rQ rQ rQ (cE.out bq d3 _) ?_;rintro bD d6 ⟨a9,a',b3,rfl,b4,-⟩))
           all_goals
            go_roundg (O e - (o+1))
            case measure=>rw[df.out];omega
            case rel=>exact⟨o+1,_,_,a9,a',_,b3,bl,Q,by go_num,sQ,cq,by simp;omega,dV,b4⟩
          ·have fB:(dN==0)=false:=sU dZ
           go_wp2_with (first
            |(go_at_call 35;refine(bN a7.s.mk').mono ?_;rintro d a1 ⟨rfl,rfl⟩)
            |(at_builtin;refine bC 91 (v:=J mo (O ms) mc) (xv:=J (aS (E (U a1))) 1 1) rQ rQ rQ rQ (cE.out a7 bn _) ?_;rintro bD d6 ⟨a9,a',b3,rfl,b4,-⟩))
           go_roundg (O e - (o+1))
           case measure=>rw[df.out];omega
           case rel=>exact⟨o+1,_,_,a9,a',_,b3,bl,Q,by go_num,sQ,cq,by simp;omega,dV,b4⟩
       ·have ew:¬(o:Int)<(O e:Int):=oM;have ba:=G.s.shrink ah.out.1 (λ_ h=>h) G.m1;obtain⟨x,A⟩:∃x,X[ac]? =some x:=⟨_,gG eq⟩;obtain⟨fC,fD,fE,fF,eU,eW,eX,rfl,-⟩:=ba.jq x (mG A);have fG:(ac:Int)<(O trs:Int):=oH Y.tl;have fH:(0:Int)<=(ac:Int):=oM;obtain⟨d7,d8,d9,fI,-,d'⟩:=aL ba.tr Q (λx A=>by obtain⟨bc,br,cb,bt,cN,cO,cc,d,-⟩:=ba.jq x A;rw[d];rfl) A;have bH:M.tv=J (aS d7) (O X) d8:=d9;obtain⟨rfl,rfl⟩:aa=d7/\b'=d8:=by rw[bJ] at bH;simp at bH;exact⟨bH.1,bH.2.2⟩
        have fJ:wr.cell? ⟨aa,ac*5+4,I⟩=some (J eU (O eX) eW):=d' 4 dC;obtain⟨fK,b5⟩:=aX ba.tr (b:=aa) (by show M.tv.ownBlock=_;rw[bJ];rfl);have fM:wr.frozen? ⟨aa,ac*5+4,I⟩=false:=frozen_of_row wr aa _ _ 93 b5;have eY:mb≠aa:=aI ba.mk' b5 dC;have eZ:ap≠aa:=aI (cn.out G.kx).2 b5 dC;have ea:Hid (∀{c:World},c.heap[mb]? =wr.heap[mb]? ->c.heap[ap]? =wr.heap[ap]? ->(c.cell? ⟨mb,2,I⟩=some (J (aS aa) (O trs) b'))/\(Ce c ap (dR ⟨cj,ck,(ac:Int),cl⟩))):=λ{c} a0 a2=>⟨by rw[cell_of_row c _ 2 _ 88 (0,0) (a0.trans ba.mk'),<-bJ];rfl,λq=>cell_of_row c _ q _ 117 (0,0) (a2.trans (cn.out G.kx).2)⟩;have e0:=ba.below ((Below.refl (E (U wr)) wr).drew);have e1:O ms<=30000:=oM
        have e2:∀b,(Value.slice mo (O ms) mc).ownBlock=some b->¬Mu b:=λb z W=>by
         have a0:=(G.row.lt b z).1;have a2:=ah.out.2.2.2.1 b W;have fN:=(ak.out Y.kx).1.size;omega
        have eb:=e0.vH A bJ (mo:=mo) (mc:=mc) (ms:=ms) ((ro.bJ G.row e2).frame (λ_ _ _=>rfl) (lR _)) (λaO a4=>((G.mt aO a4).weaken (λb z _ W=>z (G.m1 b W))).frame (λ_ _ _=>rfl) (lR _)) e1;have ec:KX Mu (E (U aj)) aj wr:=Y.kx.trans (G.kx.mono (λ_ _ h=>h) Y.kx.size);clear b5 d9 bH d';go_wp2_with fail;go_region_held3 (λc=>(c.cell? ⟨mb,2,I⟩=some (J (aS aa) (O trs) b'))/\(Ce c ap (dR ⟨cj,ck,(ac:Int),cl⟩))) (first|assumption|exact ea.out Q rfl|exact ea.out (Below.heap_setCell _ ⟨aa,_,I⟩ _ _ eY) (Below.heap_setCell _ ⟨aa,_,I⟩ _ _ eZ)) (fail)
        go_wp2_with fail;go_roundg (O ks - (B+1))
        case measure=>rw[ce.out];omega
        case rel=>exact⟨B+1,_,_,_,_,Q,by go_num,aZ,⟨eb.1,ec.drew.trans (eb.2.1.mono (λ_ _ h=>h) ec.size),List.length_set.trans Y.tl,lT Y.hH de,G.hf⟩⟩
    ·have fO:(T==0)=false:=sU cU;go_wp2_with (go_at_call 35;refine(bN ao.s.mk').mono ?_;rintro d a1 ⟨rfl,rfl⟩)
     go_roundg (O ks - (B+1))
     case measure=>rw[ce.out];omega
     case rel=>exact⟨B+1,_,_,_,_,Q,by go_num,aZ,ao⟩
   ·have fP:(V==6)=false:=sU cT;go_wp2_with fail;go_roundg (O ks - (B+1))
    case measure=>rw[ce.out];omega
    case rel=>exact⟨B+1,_,_,_,_,Q,by go_num,aZ,ao⟩
  ·have eh:¬(B:Int)<(O ks:Int):=oM;go_wp2_with fail;go_end0;exact⟨T,a,X,bf,Q,ab.s,(ak.out ab.kx).1,ab.tl,ab.hH,ab.hf⟩
end
end Go.Proofs.YtcnnibahjmekdaaGreat
