import Derived.Test.YtcnnibahjmekdaaGreatS46
import Derived.Test.YtcnnibahjmekdaaGreatS47
namespace Go.Proofs.YtcnnibahjmekdaaGreat
open Go.RowKit
open Value renaming slice→J
open List renaming length→O
open Option renaming none→I
open World renaming heap→U
open _root_.Array renaming size→E
open Obj renaming cells→Ob
set_option linter.all false
set_option maxRecDepth 100000
set_option maxHeartbeats 0
section
variable{e:Ending} {x:List Value} {M:MK} {F H N Xd Xf Xi Y b h kl mb:Nat} {Mu:Nat->Prop} {fns ims trs:VV} {w w':World}
theorem gF.kx (h:gF w mb M trs ims fns Xd Xi Xf Mu H kl N e w'):KX Mu (E (U w)) w w':=by
 obtain⟨_,_,_,_,_,_,_,_,_,_,_,_,_,_,_,_,c,_⟩:=h;exact c
theorem mI {S:Nat->Prop} {g:Prop} (c:isNode S g h w x):1<=aG h w x:=by
 cases h with
 |zero=>exact absurd c (λx=>x)
 |succ h=>
  show 1<=1+_;omega
theorem kU {l:List Nat} (h:∀x∈l,1<=x):O l<=l.sum:=by
 induction l with
 |nil=>simp
 |cons x i c=>
  rw[List.length_cons,List.sum_cons];have j:=h x (List.mem_cons_self ..);have m:=c (λd f=>h d (List.mem_cons_of_mem _ f));omega
theorem fS {c:Type} {f g:c->Nat} {l:List c} (h:∀x∈l,f x<=g x) (i:Nat):((l.map f).take i).sum<=((l.map g).take i).sum:=by
 induction l generalizing i with
 |nil=>simp
 |cons x n d=>
  cases i with
  |zero=>simp
  |succ i=>
   rw[List.map_cons,List.map_cons,List.take_succ_cons,List.take_succ_cons,List.sum_cons,List.sum_cons];have o:=h x (List.mem_cons_self ..);have p:=d (λj m=>h j (List.mem_cons_of_mem _ m)) i;omega
theorem kf {B0:Nat} (c:isNode (λb=>b<B0) True (h+2) w x):bG x<=aG (h+2) w x:=by
 obtain⟨k,p,q,r,s,t,l,u,rfl,-⟩:=isNode.cells c;obtain⟨d,rfl,-,f,-,i,-⟩:=c.kids;have j:=kU (l:=d.map (aG (h+1) w)) (λx m=>by obtain⟨n,o,rfl⟩:=List.mem_map.1 m;exact mI (f n o));rw[List.length_map] at j;rw[i];show(if k=8 then 1 else if k=7 then O d - 2 else 0)<=_;split
 ·omega
 ·split
  ·omega
  ·omega
theorem uI {a c:Nat} (d:1<=c) (h:a<=b+F*c):a+Y<=b+(F+Y)*c:=by
 rw[Nat.add_mul];have f:Y<=Y*c:=Nat.le_mul_of_pos_right _ d;generalize F*c=i at*;generalize Y*c=j at*;omega
theorem vU {a:Nat} (h:a<=b+F*96100):a+Y<=b+(F+Y)*96100:=uI dC h
structure FE (w:World) (mb:Nat) (M:MK) (trs ims fns:VV) (Xd Xi Xf:Nat) (Mu:Nat->Prop) (H:Nat) (C Iz F:Nat) (wr:World) (k a:Int) (ds:List Dd) (fns':VV) (fo:OA) (fc:Nat) (ims':VV) (io:OA) (ic:Nat) (Mu':Nat->Prop) (H' Xi' Xf':Nat):Prop where
 s:MS wr mb ({M with ds:=ds,fv:=J fo (O fns') fc,iv:=J io (O ims') ic}.bt k a) trs ims' fns' Xd Xi' Xf' Mu' H'
 dl:O ds=O M.ds
 kx:KX Mu (E (U w)) w wr
 m1:∀b,Mu b->Mu' b
 m2:∀b,b<E (U w)->Mu' b->Mu b
 hf:M.fk≠0->k=M.fk
 hH:H<=H'
 il:O ims'<=O ims+Iz
 fl:O fns'<=O fns+C
 fe:k=0->O fns'=O fns+C
 xi:Xi'<=Xi+F
 xf:Xf'<=Xf+F*96100
section
variable{w wr w':World} {mb:Nat} {M:MK} {trs ims fns:VV} {Xd Xi Xf:Nat} {Mu:Nat->Prop} {H:Nat} {C Iz F:Nat} {k a:Int} {ds:List Dd} {fns':VV} {fo:OA} {fc:Nat} {ims':VV} {io:OA} {ic:Nat} {Mu':Nat->Prop} {H' Xi' Xf':Nat}
theorem FE.below (q:FE w mb M trs ims fns Xd Xi Xf Mu H C Iz F wr k a ds fns' fo fc ims' io ic Mu' H' Xi' Xf') (c:Below (E (U wr)) wr w'):FE w mb M trs ims fns Xd Xi Xf Mu H C Iz F w' k a ds fns' fo fc ims' io ic Mu' H' Xi' Xf':=
 ⟨q.s.below c,q.dl,q.kx.trans ((KX.aq c).mono (λ_ _ h=>h) q.kx.size),q.m1,q.m2,q.hf,q.hH,q.il,q.fl,q.fe,q.xi,q.xf⟩
theorem FE.skip (q:FE w mb M trs ims fns Xd Xi Xf Mu H C Iz F wr k a ds fns' fo fc ims' io ic Mu' H' Xi' Xf') (n:Nat):FE w mb M trs ims fns Xd Xi Xf Mu H C (Iz+1) (F+n) wr k a ds fns' fo fc ims' io ic Mu' H' Xi' Xf':=by
 have c:=q.il;have d:=q.xi;have f:=q.xf;exact⟨q.s,q.dl,q.kx,q.m1,q.m2,q.hf,q.hH,oM,q.fl,q.fe,oM,lT q.xf (Nat.add_le_add_left (Nat.mul_le_mul_right 96100 (Nat.le_add_right F n)) Xf)⟩
theorem FE.impl (q:FE w mb M trs ims fns Xd Xi Xf Mu H C Iz F wr k a ds fns' fo fc ims' io ic Mu' H' Xi' Xf') (z:gF wr mb ({M with ds:=ds,fv:=J fo (O fns') fc,iv:=J io (O ims') ic}.bt k a) trs ims' fns' Xd Xi' Xf' Mu' H' kl N e w') (y:k=0) (V:2<=kl) (A:N<=96100):
 ∃d f i j l m n o p r s t u,e=.returned (.tuple #[])/\FE w mb M trs ims fns Xd Xi Xf Mu H (C+(kl - 2)) (Iz+1) (F+N) w' d f i j l m n o p r s t u:=by
 obtain⟨d,f,i,j,l,m,n,o,p,r,s,t,u,B,D,G,K,L,P,W,R,X,Z,S,aa,ab⟩:=z;have T:=q.kx.size;have ac:=q.il;have ad:=q.fl;have ae:=q.fe y;have af:=q.xi;have ag:=q.xf;have ah:N*N<=N*96100:=Nat.mul_le_mul_left _ A;refine⟨d,f,i,j,l,m,n,o,p,r,s,t,u,B,⟨G,D.trans q.dl,q.kx.trans (K.mono (λb v c=>q.m2 b v c) T),λb c=>L b (q.m1 b c),λb v c=>q.m2 b v (P b oM c),λh=>absurd (q.hf h) (by rw[y];exact λe=>h e.symm),lT q.hH R,oM,oM,λe=>oH (S e),oM,oM⟩⟩
def uC (w:World) (mb:Nat) (M:MK) (trs ims fns:VV) (Xd Xi Xf:Nat) (Mu:Nat->Prop) (H C Iz F:Nat) (e:Ending) (w':World):Prop:=
 ∃(fn:Int) (C':Nat) (k a:Int) (ds:List Dd) (fns':VV) (fo:OA) (fc:Nat) (ims':VV) (io:OA) (ic:Nat) (Mu':Nat->Prop) (H' Xi' Xf':Nat),e=.returned (vN fn)/\C'<=C/\(k=0->C'=C)/\FE w mb M trs ims fns Xd Xi Xf Mu H C' Iz F w' k a ds fns' fo fc ims' io ic Mu' H' Xi' Xf'
end
end
section
variable{M:MK} {H Xd Xf Xi mb:Nat} {Mu:Nat->Prop} {fns ims trs:VV} {w w':World}
section
variable{w w1 wr w':World} {mb:Nat} {M:MK} {trs ims fns:VV} {Xd Xi Xf:Nat} {Mu:Nat->Prop} {H:Nat} {C Iz F I2 F2:Nat} {k a:Int} {ds:List Dd} {fns':VV} {fo:OA} {fc:Nat} {ims':VV} {io:OA} {ic:Nat} {Mu':Nat->Prop} {H' Xi' Xf':Nat}
theorem fV.cv {d:Nat} {K:CK} {f:Nat->Prop} {X n:Nat} {e:Ending} (h:fV w mb d M K f X n e w'):∃how next one b c,bP w' d K how next one b c:=by
 obtain⟨_,_,_,_,_,_,_,_,_,_,_,_,_,_,_,how,next,one,b,c,_,_,_,_,i,_⟩:=h;exact⟨how,next,one,b,c,i⟩
theorem FE.base (q:FE w1 mb M trs ims fns Xd Xi Xf Mu H C Iz F wr k a ds fns' fo fc ims' io ic Mu' H' Xi' Xf') (b:Below (E (U w)) w w1) (e:Iz<=I2) (hF:F<=F2):FE w mb M trs ims fns Xd Xi Xf Mu H C I2 F2 wr k a ds fns' fo fc ims' io ic Mu' H' Xi' Xf':=by
 have c:=b.size;have f:=q.il;have i:=q.xi;have j:=q.xf;exact⟨q.s,q.dl,(KX.aq b).trans (q.kx.mono (λ_ _ h=>h) c),q.m1,λd l b=>q.m2 d oM b,q.hf,q.hH,oM,q.fl,q.fe,oM,lT q.xf (Nat.add_le_add_left (Nat.mul_le_mul_right 96100 hF) _)⟩
end
theorem yy {h:Nat} (hS:MS w mb M trs ims fns Xd Xi Xf Mu H) {cr:OA} {ct:Nat} (ec:M.fv=J cr (O fns) ct) {ivo:OA} {ivc:Nat} (ed:M.iv=J ivo (O ims) ivc) {mod:Nat} (dg:mod<O M.ms) {B0:Nat} (b5:∀b,Mu b->B0<=b) (ee:B0<=E (U w)) {pos n m:Int} {name:ByteArray} {ko:OA} {kc:Nat} {ks:VV} (bi:cZ B0 w (J ko (O ks) kc) ks) (dh:∀i,i<O ks->∃g,ko=some ⟨g,0,I⟩) (bR:∀x∈ks,isNode (λb=>b<B0) True (h+4) w x) (di:∀x∈ks.map aA,x=2\/x=3\/x=6\/x=7\/x=108) (ft:(ks.map (aG (h+4) w)).sum<=96100) (fu:O fns+(ks.map (aG (h+4) w)).sum<=199999) (fv:O ims+O ks<=199999) (dj:Int):
 Calls Tryz.prog 32 #[.pointer (some ⟨mb,0,I⟩),.int .i64 mod,.agg (ae 1 pos n m name (J ko (O ks) kc)),.int .i64 dj] w (uC w mb M trs ims fns Xd Xi Xf Mu H (ks.map bG).sum (O ks) (ks.map (aG (h+4) w)).sum):=by
 have cu:B0<=mb:=b5 mb hS.dT;have fw:=bi.len.2;obtain⟨a7,bw⟩:=al1 w (Ob (ae 1 pos n m name (J ko (O ks) kc)) 46)
 have ef:Hid (∀s,s<O ks->∃g T j u o q B X r,ko=some ⟨g,0,I⟩/\g<B0/\ks[s]? =some (ae T j u o q (J B X r)).toList/\(fL T u X=2\/fL T u X=3\/fL T u X=6\/fL T u X=7\/fL T u X=108)/\∀t:World,KX Mu (E (U w)) w t->(∀V,V<11->t.cell? ⟨g,s*11+V,I⟩=(ae T j u o q (J B X r)).toList[V]?)/\isNode (λb=>b<B0) True (h+4) t (ae T j u o q (J B X r)).toList/\aG (h+4) t (ae T j u o q (J B X r)).toList=aG (h+4) w (ae T j u o q (J B X r)).toList):=by
  intro s a';obtain⟨x,ac⟩:∃x,ks[s]? =some x:=⟨_,gG a'⟩;have b6:=mG ac;obtain⟨T,j,u,o,q,B,X,r,rfl,-⟩:=isNode.cells (bR x b6);obtain⟨g,ab⟩:=dh s a'
  have ah:g<B0:=by
   obtain⟨dk,P,ak,ah,-⟩:=bi.nth ac;rw[ab] at ak;simp at ak;omega
  refine⟨g,T,j,u,o,q,B,X,r,ab,ah,ac,di _ (List.mem_map_of_mem (f:=aA) b6),λt ai=>?_⟩;have ba:al (λb=>b<B0) w t:=λb z ao=>ai.block b ao (λL=>oH (b5 b L));obtain⟨dk,P,ak,-,eg⟩:=(bi.frame ba ee).nth ac;rw[ab] at ak;obtain⟨rfl,rfl⟩:g=dk/\P=0:=by simp at ak;exact⟨ak.1,ak.2.symm⟩
  refine⟨λV bj=>?_,isNode.frame ba _ _ (bR _ b6),aQ ba _ _ (bR _ b6) _⟩;have:=eg V bj;rw[Nat.zero_add] at this;exact this
 have eh:Hid (∀i,((ks.map bG).take i).sum<=((ks.map (aG (h+4) w)).take i).sum):=λi=>fS (λx ac=>kf (h:=h+2) (bR x ac)) i;have b7:Hid (MS w mb M trs ims fns Xd Xi Xf Mu H/\Below (E (U w)) w (w.alloc (Ob (ae 1 pos n m name (J ko (O ks) kc)) 46))/\(∀b,Mu b->B0<=b)/\(∀b,Mu b->b<E (U w))):=⟨hS,a7,b5,hS.mlt⟩;have ei:Hid (∀{i:Nat} {x:List Value},ks[i]? =some x->(ks.map bG)[i]? =some (bG x)/\(ks.map (aG (h+4) w))[i]? =some (aG (h+4) w x)):=λ{i x} ac=>⟨by rw[List.getElem?_map,ac];rfl,by rw[List.getElem?_map,ac];rfl⟩;have cv:FE (w.alloc (Ob (ae 1 pos n m name (J ko (O ks) kc)) 46)) mb M trs ims fns Xd Xi Xf Mu H 0 0 0 (w.alloc (Ob (ae 1 pos n m name (J ko (O ks) kc)) 46)) M.fk M.fa M.ds fns cr ct ims ivo ivc Mu H Xi Xf:=⟨by rw[<-ec,<-ed];exact hS.below a7,Q,KX.refl _ _ _,λ_ h=>h,λ_ _ h=>h,λ_=>rfl,lR _,lR _,lR _,λ_=>rfl,lR _,oM⟩;obtain⟨w1,bx⟩:∃w1,w1=w.alloc (Ob (ae 1 pos n m name (J ko (O ks) kc)) 46):=⟨_,Q⟩;have fx:E (U w1)=E (U w)+1:=by rw[bx];simp
 have aq:Hid (∀{t:World},KX Mu (E (U w1)) w1 t->KX Mu (E (U w)) w t/\t.heap[E (U w)]? =some (Ob (ae 1 pos n m name (J ko (O ks) kc)) 46 (0,0))):=λ{t} ai=>by
  rw[bx] at ai;refine⟨(KX.aq b7.out.2.1).trans (ai.mono (λ_ _ h=>h) sQ),(ai.block _ sQ (λL=>?_)).trans bw⟩;have:=b7.out.2.2.2 _ L;omega
 have dl:Hid (Below (E (U w)) w w1):=by rw[bx];exact a7
 rw[<-bx] at cv;clear hS b5 bi dh bR di a7 bw;have cw:=λP=>cell_of_row w1 _ P _ 46 (0,0) (aq.out (KX.refl _ _ _)).2;have cx:E (U w)<E (U w1):=oM;clear cw cx;go_enter Tryz.func32,Tryz.ntmps32
 go_wp2_with fail;rw[<-bx];clear bx;go_loopg [3,8,10,11,12,13,14,15,19] (O ks) (λej ek _ _ _ _ _ _ _ dm wr=>∃(s:Nat) (bS:Int) (k a:Int) (ds:List Dd) (fns':VV) (fo:OA) (fc:Nat) (ims':VV) (io:OA) (ic:Nat) (Mu':Nat->Prop) (H' Xi' Xf':Nat),ej=O ks - s/\dm=.int .i64 s/\ek=.int .i64 bS/\s<=O ks/\FE w1 mb M trs ims fns Xd Xi Xf Mu H ((ks.map bG).take s).sum s ((ks.map (aG (h+4) w)).take s).sum wr k a ds fns' fo fc ims' io ic Mu' H' Xi' Xf')
 case atStart=>exact⟨0,dj,M.fk,M.fa,M.ds,fns,cr,ct,ims,ivo,ivc,Mu,H,Xi,Xf,Q,Q,Q,zL _,by rw[List.take_zero,List.sum_nil,List.take_zero,List.sum_nil];exact cv⟩
 case round=>
  clear cv;obtain⟨s,bS,k,a,ds,fns',fo,fc,ims',io,ic,Mu',H',Xi',Xf',dn,rfl,rfl,dp,y⟩:=hrel;have b8:Hid (gk=O ks - s):=dn;clear dn;have cw:=λP=>cell_of_row wr _ P _ 46 (0,0) (aq.out y.kx).2;have cx:E (U w)<E (U wr):=(gE (aq.out y.kx).2).1;by_cases a':s<O ks
  ·have el:(s:Int)<(O ks:Int):=oM;obtain⟨g,T,j,u,o,q,B,X,r,ab,ah,em,bT,bU⟩:=ef.out s a';obtain rfl:ko=some ⟨g,0,I⟩:=ab;have bk:=bU wr (aq.out y.kx).1;have bV:g<E (U wr):=oH (aq.out y.kx).1.size;have en:=qt bk.1;have dq:=ei.out em;have ar:Hid ((ks.map bG)[s]? =some (bG (ae T j u o q (J B X r)).toList)/\(ks.map (aG (h+4) w))[s]? =some (aG (h+4) w (ae T j u o q (J B X r)).toList)):=dq
   have bl:Hid (aG (h+4) w (ae T j u o q (J B X r)).toList<=96100/\O fns'+aG (h+4) w (ae T j u o q (J B X r)).toList<=199999/\O ims'<=199999):=by
    have bz:=oa ar.out.2;have cy:=aT ar.out.2;have eo:=bM (ks.map (aG (h+4) w)) (s+1);have dr:=y.fl;have fy:=y.il;have fz:((ks.map bG).take s).sum<=((ks.map (aG (h+4) w)).take s).sum:=eh.out s;show _/\_/\_;omega
   have aW:=y.below (al1 wr (Ob (ae T j u o q (J B X r)) 46)).1;clear bk dq;by_cases cz:k=0
   ·subst cz;by_cases cA:T=8
    ·subst cA
     have ep:(X:Int)=u+3:=by
      unfold fL at bT;split at bT
      ·rename_i cB
       exact cB.2
      ·split at bT
       ·rename_i cB
        exact absurd cB dC
       ·exact absurd bT dC
     have bk:=bU wr (aq.out y.kx).1;obtain⟨eq,cC,bW,bX,bY,-,-,b9,-,-⟩:=bk.2.1.kids;obtain⟨fA,fB,fC,bZ,-,-,-,-⟩:=bY.fn Q;obtain⟨dt,fD,cD,du,-⟩:=List.map_eq_cons_iff.1 bZ;have cE:eq[0]? =some dt:=by rw[cD];rfl
     have b':=bX dt (mG cE);obtain⟨er,bA,bm,bB,bC,bn,es,bD,rfl,-⟩:=isNode.cells b';obtain rfl:er=9:=dG (n:=bm) (l:=es) du dC;obtain⟨bb,rfl,cG⟩:=vP (h:=h) b';obtain⟨c,dv⟩:=b9 0 (by rw[cD];simp);obtain⟨et,eu,ak,ev,dw⟩:=bW.nth cE;rw[dv] at ak;obtain⟨rfl,rfl⟩:c=et/\eu=0:=by simp at ak;exact⟨ak.1,ak.2.symm⟩
     obtain rfl:B=some ⟨c,0,I⟩:=dv;have dx:∀V,V<11->wr.cell? ⟨c,V,I⟩=(ae 9 bA bm bB bC (J bn (O bb) bD)).toList[V]? :=λV bj=>by have:=dw V bj;simpa using this
     have cH:B0<=E (U wr):=oH (aq.out y.kx).1.size;clear cC bW bX bY b9 bZ cD cE ak dw du;obtain⟨aa,d,rfl,rfl,dy⟩:=ud (h:=h+2) bk.2.1
     have b0:FK B0 (h+2) wr (some ⟨c,0,I⟩) r aa d (aG (h+4) w (ae 8 j (O d:Int) o q (J (some ⟨c,0,I⟩) (O aa) r)).toList):=by
      have ab:=bk.2.2;have f:=dy;rw[show aG (h+2+2) wr (ae 8 j (O d:Int) o q (J (some ⟨c,0,I⟩) (O aa) r)).toList=aG (h+4) w (ae 8 j (O d:Int) o q (J (some ⟨c,0,I⟩) (O aa) r)).toList from ab] at f;exact f
     obtain⟨aX,ca⟩:∃aX,aX=aG (h+4) w (ae 8 j (O d:Int) o q (J (some ⟨c,0,I⟩) (O aa) r)).toList:=⟨_,Q⟩;rw[<-ca] at b0 bl ar;have fE:O d+3<=O aa:=oM;have fF:(0:Int)<(O aa:Int):=oM;have fG:=b0.km;obtain⟨a7,bw,b1⟩:=eI wr (Ob (ae 8 j (O d:Int) o q (J (aS c) (O aa) r)) 46) (Ob (dL ({mb:=mb,mod:=mod,aw:=I,cO:=0,aZ:=[],cj:=I,tcp:=0,bg:=[],bR:=false,sk:=0,sn:=0,iK:=I,iL:=0,iM:=0,iN:=I,iO:=0,iP:=0}:CK) 0 0 0 0 0) 126);obtain⟨N,cb⟩:∃N,N=((wr.alloc (Ob (ae 8 j (O d:Int) o q (J (aS c) (O aa) r)) 46)).alloc (Ob (dL ({mb:=mb,mod:=mod,aw:=I,cO:=0,aZ:=[],cj:=I,tcp:=0,bg:=[],bR:=false,sk:=0,sn:=0,iK:=I,iL:=0,iM:=0,iN:=I,iO:=0,iP:=0}:CK) 0 0 0 0 0) 126)):=⟨_,Q⟩;have fH:E (U N)=E (U wr)+2:=by rw[cb];simp
     rw[<-cb] at a7 bw b1;have cI:=y.s.mlt;have cc:IE N mb (E (U wr)+1) ({M with ds:=ds,fv:=J fo (O fns') fc,iv:=J io (O ims') ic}.bt 0 a) trs ims' fns' Xd Xi' Xf' (λb=>Mu' b\/b=E (U wr)+1) H' N 0 a ({mb:=mb,mod:=mod,aw:=I,cO:=0,aZ:=[],cj:=I,tcp:=0,bg:=[],bR:=false,sk:=0,sn:=0,iK:=I,iL:=0,iM:=0,iN:=I,iO:=0,iP:=0}:CK) 0 0 0 0 0:=⟨y.s.grow a7 (λb z=>.inl z) (λb z=>by rcases z with z|z;(have:=cI b z;omega);omega) (λb ao z=>by rcases z with z|z;exact z;omega),KX.refl _ _ _,b1,.inr Q,λ_=>rfl⟩
     have dA:∀b,Mu' b->B0<=b:=λb z=>by
      by_cases cJ:b<E (U w1)
      ·exact b7.out.2.2.1 b (y.m2 b cJ z)
      ·omega
     have A:Hid (∀{t:World},KX (λb=>Mu' b\/b=E (U wr)+1) (E (U N)) N t->KX Mu (E (U w1)) w1 t/\al (λb=>b<B0) wr t/\t.heap[E (U wr)]? =some (Ob (ae 8 j (O d:Int) o q (J (aS c) (O aa) r)) 46 (0,0))):=λ{t} ai=>by
      have ew:=y.kx.size;have dB:KX (λb=>Mu' b\/b=E (U wr)+1) (E (U wr)) wr t:=(KX.aq a7).trans (ai.mono (λ_ _ h=>h) oM);refine⟨y.kx.trans (dB.mono (λb ao z=>by rcases z with z|z;exact y.m2 b ao z;omega) ew),λb z ao=>dB.block b ao (λL=>by rcases L with L|L;(have:=dA b L;omega);omega),(ai.block _ oM (λL=>?_)).trans bw⟩;rcases L with L|L
      ·have:=cI _ L;omega
      ·omega
     have R:Hid (∀{t:World},al (λb=>b<B0) wr t->(∀V,V<11->t.cell? ⟨c,V,I⟩=(ae 9 bA bm bB bC (J bn (O bb) bD)).toList[V]?)/\isNode (λb=>b<B0) True (h+3) t (ae 9 bA bm bB bC (J bn (O bb) bD)).toList/\GK B0 t bn bb/\FK B0 (h+2) t (aS c) r aa d aX):=λ{t} ba=>⟨λV bj=>(World.cell?_of_block (w:=wr) (a:=⟨c,V,I⟩) (ba c ev oM)).trans (dx V bj),isNode.frame ba _ _ b',cG.frame ba cH,b0.frame ba cH b0.zf⟩;have fI:=cG.len;have cK:mb≠E (U wr)+1:=oH y.s.mk'.lt;clear bk dy b0 cG b' dx a7 bw b1 ep bT ca;go_upto_region 8 with(go_at_call 35;refine(bN aW.s.mk').mono ?_;rintro cL cM ⟨rfl,aj⟩;replace aj:=aj.symm;subst aj)
     generalize hq:World.alloc (World.alloc wr _) _=ex;obtain rfl:N=ex:=cb.trans hq;clear cb hq en cw cx bV;have bo:=λP=>cell_of_row N _ P _ 46 (0,0) (A.out (KX.refl _ _ _)).2.2;have bc:E (U wr)<E (U N):=oM;have cN:N.cell? ⟨c,0,I⟩=some (vN 9):=(R.out (A.out (KX.refl _ _ _)).2.1).1 0 dC;have cO:N.cell? ⟨c,1,I⟩=some (vN bA):=(R.out (A.out (KX.refl _ _ _)).2.1).1 1 dC;have cP:N.cell? ⟨c,2,I⟩=some (vN bm):=(R.out (A.out (KX.refl _ _ _)).2.1).1 2 dC;have cQ:N.cell? ⟨c,3,I⟩=some (vN bB):=(R.out (A.out (KX.refl _ _ _)).2.1).1 3 dC;have cR:N.cell? ⟨c,4,I⟩=some (.string bC):=(R.out (A.out (KX.refl _ _ _)).2.1).1 4 dC;have cS:N.cell? ⟨c,5,I⟩=some (J bn (O bb) bD):=(R.out (A.out (KX.refl _ _ _)).2.1).1 5 dC;have cT:N.cell? ⟨c,6,I⟩=some (vN 0):=(R.out (A.out (KX.refl _ _ _)).2.1).1 6 dC;have cU:N.cell? ⟨c,7,I⟩=some (vN 0):=(R.out (A.out (KX.refl _ _ _)).2.1).1 7 dC;have cV:N.cell? ⟨c,8,I⟩=some aF:=(R.out (A.out (KX.refl _ _ _)).2.1).1 8 dC;have cW:N.cell? ⟨c,9,I⟩=some aF:=(R.out (A.out (KX.refl _ _ _)).2.1).1 9 dC;have bp:N.cell? ⟨c,10,I⟩=some aF:=(R.out (A.out (KX.refl _ _ _)).2.1).1 10 dC;have bV:c<E (U N):=oM;go_upto_region 9 with(go_at_call 49;refine(pH (h:=h+2) (K:=({mb:=mb,mod:=mod,aw:=I,cO:=0,aZ:=[],cj:=I,tcp:=0,bg:=[],bR:=false,sk:=0,sn:=0,iK:=I,iL:=0,iM:=0,iN:=I,iO:=0,iP:=0}:CK)) cc.s.mk' cc.cv cK oM cu (R.out (A.out cc.kx).2.1).2.1).mono ?_;rintro ab W ⟨dD,dE,bE,bd,bg,ap,ey,b1,rfl,dF,dH,dI,dJ,dK,dM,-,dN⟩)
     have af:=cc.oe dJ dH dI dN;have fJ:=dJ.size;have ez:O bE<=30000:=oM;have eA:O ap<=30000:=oM;have eB:Hid (∀b,Mu' b->b<E (U wr)):=cI
     have dO:Hid (∀{t:World},KX (λb=>Mu' b\/b=E (U wr)+1) (E (U W)) W t->t.ownsRow 0 9 1 (J dD (O bE) dE) (O bE) (cd bE)/\t.ownsRow 0 9 1 (J bd (O ap) bg) (O ap) (cd ap)):=λ{t} ai=>by
      have dP:∀(v:Value) (n:Nat) (cX:List Value),W.ownsRow (E (U N)) 9 1 v n cX->t.ownsRow 0 9 1 v n cX:=λv n cX bi=>ag (gy bi) (λb z ao=>ai.block b ao (λL=>by
       have bz:=(bi.lt b z).1;rcases L with L|L
       ·have:=eB.out b L;omega
       ·omega))
      exact⟨dP _ _ _ dK,dP _ _ _ dM⟩
     have fK:Hid (O bE+O ap=O bb):=dF;obtain⟨aY,ce⟩:∃aY,aY=({mb:=mb,mod:=mod,aw:=I,cO:=0,aZ:=[],cj:=I,tcp:=0,bg:=[],bR:=false,sk:=0,sn:=0,iK:=I,iL:=0,iM:=0,iN:=I,iO:=0,iP:=0}:CK).nm dD dE bE bd bg ap:=⟨_,Q⟩
     have dQ:Hid (∀{t:World} {cY c0:Int},KX (λb=>Mu' b\/b=E (U wr)+1) (E (U W)) W t->PI t mb (({M with ds:=ds,fv:=J fo (O fns') fc,iv:=J io (O ims') ic}.bt 0 a).bt cY c0) (O trs)->Cx t (E (U wr)+1) aY (({M with ds:=ds,fv:=J fo (O fns') fc,iv:=J io (O ims') ic}.bt 0 a).bt cY c0) (O trs) (λ_=>False) 1 1):=λ{t cY c0} ai eC=>by
      have dR:=dz (S:=λ_=>False) (D:=O ds) (w:=t) (kind:=0) (n:=0) ⟨λab=>absurd ab dC,dC,dC⟩;rw[ce];exact⟨(dO.out ai).1,ez,(dO.out ai).2,eA,eC,dg,dR.1,λ_ ac=>ac.elim,dR.2,lR _⟩
     have dS:Hid (Calls Tryz.prog 55 #[.pointer (aS mb),.agg (ae 9 bA bm bB bC (J bn (O bb) bD)),.pointer (aS (E (U wr)+1)),.bool true] W (nf W mb (E (U wr)+1) (({M with ds:=ds,fv:=J fo (O fns') fc,iv:=J io (O ims') ic}.bt 0 a).bt ey b1) aY 0)):=oC (dQ.out (KX.refl _ _ _) af.s.pi) (by rw[ce];exact af.cv) af.s.mk' cK (by rw[ce]) oM cu (λ_ ac=>ac.elim) (R.out (A.out af.kx).2.1).2.2.1 true;clear dF bo bc cN cO cP cQ cR cS cT cU cV cW bp bV dH dI dN dK dM;have bo:=λP=>cell_of_row W _ P _ 46 (0,0) (A.out af.kx).2.2;have bc:E (U wr)<E (U W):=oM;have cN:W.cell? ⟨c,0,I⟩=some (vN 9):=(R.out (A.out af.kx).2.1).1 0 dC;have cO:W.cell? ⟨c,1,I⟩=some (vN bA):=(R.out (A.out af.kx).2.1).1 1 dC;have cP:W.cell? ⟨c,2,I⟩=some (vN bm):=(R.out (A.out af.kx).2.1).1 2 dC;have cQ:W.cell? ⟨c,3,I⟩=some (vN bB):=(R.out (A.out af.kx).2.1).1 3 dC;have cR:W.cell? ⟨c,4,I⟩=some (.string bC):=(R.out (A.out af.kx).2.1).1 4 dC;have cS:W.cell? ⟨c,5,I⟩=some (J bn (O bb) bD):=(R.out (A.out af.kx).2.1).1 5 dC;have cT:W.cell? ⟨c,6,I⟩=some (vN 0):=(R.out (A.out af.kx).2.1).1 6 dC;have cU:W.cell? ⟨c,7,I⟩=some (vN 0):=(R.out (A.out af.kx).2.1).1 7 dC;have cV:W.cell? ⟨c,8,I⟩=some aF:=(R.out (A.out af.kx).2.1).1 8 dC;have cW:W.cell? ⟨c,9,I⟩=some aF:=(R.out (A.out af.kx).2.1).1 9 dC;have bp:W.cell? ⟨c,10,I⟩=some aF:=(R.out (A.out af.kx).2.1).1 10 dC;have bV:c<E (U W):=oM;go_upto_region 10 with(go_at_call 55;refine dS.out.mono ?_;rintro ab bq ⟨eD,eE,eF,eG,dT,dU,av,aw,ax,ay,on,az,rfl,c1,dW,dX,cf,eH,eK,eL⟩)
     have br:=af.oe cf c1 dW dX;have fM:=cf.size;have eM:KX (λb=>Mu' b\/b=E (U wr)+1) (E (U W)) W bq:=cf.mono (λb _ ab=>by rcases ab with rfl|rfl;exact .inr rfl;exact .inl y.s.dT) (lR _);have ca:6100*(aX*1)<=17592186044416:=lT (Nat.mul_le_mul_left 6100 (by rw[Nat.mul_one];exact bl.out.1)) dC;have dY:bP bq (E (U wr)+1) aY eD eE 0 eF eG:=c1;have eN:Hid (Calls Tryz.prog 53 #[.pointer (aS mb),.agg (ae 8 j (O d:Int) o q (J (aS c) (O aa) r)),.pointer (aS (E (U wr)+1))] bq (fV bq mb (E (U wr)+1) (({M with ds:=ds,fv:=J fo (O fns') fc,iv:=J io (O ims') ic}.bt 0 a).bt dT dU) aY (λb=>False/\b<E (U bq)) (aX*1) (O d))):=sF (dQ.out eM br.s.pi) dY br.s.mk' cK (by rw[ce]) oM cu (λ_ ac=>ac.elim) (R.out (A.out br.kx).2.1).2.2.2 ca;clear bo bc cN cO cP cQ cR cS cT cU cV cW bp bV c1 dW dX cf eH dS eK eL;have bo:=λP=>cell_of_row bq _ P _ 46 (0,0) (A.out br.kx).2.2;have bc:E (U wr)<E (U bq):=oM;go_upto_region 13 with(go_at_call 53;refine eN.out.mono ?_;rintro ab bs dZ;obtain⟨cg,ch,ci,cj,ck,eO⟩:=dZ.cv;obtain⟨aB,aC,aD,aE,bF,bH,bI,aH,aI,aJ,aL,aM,aN,aO,aP,cl,cm,cn,rfl,eP,eQ,fN,eR,eS,-⟩:=br.s.sig dY (.inr rfl) (λb z=>z.1.elim) dZ)
     obtain⟨bJ,d0⟩:=al1 bs (Ob (eV aB (J ay on az) (J av (O ax) aw) aC (O aE) aD (vN aH) (vN aI) (J aJ aL aM) (J aN aO aP)) 54);generalize hq:World.alloc bs _=G;have d1:bs.alloc (Ob (eV aB (J ay on az) (J av (O ax) aw) aC (O aE) aD (vN aH) (vN aI) (J aJ aL aM) (J aN aO aP)) 54)=G:=hq;rw[d1] at bJ d0;clear hq d1;have d2:KX (λb=>Mu' b\/b=E (U wr)+1) (E (U N)) N bs:=br.kx.trans (eR.mono (λb _ ab=>by rcases ab with rfl|rfl;exact .inr rfl;exact .inl y.s.dT) br.kx.size);have bK:KX (λb=>Mu' b\/b=E (U wr)+1) (E (U N)) N G:=d2.trans ((KX.aq bJ).mono (λ_ _ h=>h) d2.size);have c2:=eP.below bJ;have c3:=(A.out bK).2.2;have eT:bP G (E (U wr)+1) aY cg ch ci cj ck:=eO.below bJ;have eU:=eS.frame (λb _ ao=>bJ.block b ao) bJ.size;have d3:=(R.out (A.out bK).2.1).2.2.2;obtain⟨c4,c5⟩:∃c4,aa[O d+2]? =some c4:=⟨_,gG oM⟩;obtain⟨aZ,a0,a1,a2,a3,a4,a5,a6,rfl,-⟩:=isNode.cells (d3.node c4 (mG c5));obtain⟨eW,eX,co,-,d4⟩:=d3.row.nth c5;obtain⟨rfl,rfl⟩:c=eW/\eX=0:=by simp at co;exact⟨co.1,co.2.symm⟩
     have fO:(0:Int)<=(O d:Int)+2:=oM;have fP:IntKind.i64.wrap ((O d:Int)+2)=(O d:Int)+2:=by rw[IntKind.wrap_i64];omega
     have fQ:((O d:Int)+2)<(O aa:Int):=oM;have fR:=bK.size
     have eY:Hid (¬(λb=>Mu' b\/b=E (U wr)+1) c):=λL=>by
      rcases L with L|L
      ·have:=dA c L;omega
      ·omega
     have b2:Hid (∀{e:World},KT (λa8=>a8≠58/\a8≠88) G e->KX (λb=>Mu' b\/b=E (U wr)+1) (E (U G)) G e->(Ce e (E (U wr)) (ae 8 j (O d:Int) o q (J (aS c) (O aa) r)))/\(Ce e (E (U wr)+1) (dL aY cg ch ci cj ck))/\(Ce e (E (U bs)) (eV aB (J ay on az) (J av (O ax) aw) aC (O aE) aD (vN aH) (vN aI) (J aJ aL aM) (J aN aO aP)))/\e.cell? ⟨c,((O d:Int)+2).toNat*11,I⟩=some (vN aZ)/\e.cell? ⟨c,((O d:Int)+2).toNat*11+1,I⟩=some (vN a0)/\e.cell? ⟨c,((O d:Int)+2).toNat*11+2,I⟩=some (vN a1)/\e.cell? ⟨c,((O d:Int)+2).toNat*11+3,I⟩=some (vN a2)/\e.cell? ⟨c,((O d:Int)+2).toNat*11+4,I⟩=some (.string a3)/\e.cell? ⟨c,((O d:Int)+2).toNat*11+5,I⟩=some (J a4 a5 a6)/\e.cell? ⟨c,((O d:Int)+2).toNat*11+6,I⟩=some (vN 0)/\e.cell? ⟨c,((O d:Int)+2).toNat*11+7,I⟩=some (vN 0)/\e.cell? ⟨c,((O d:Int)+2).toNat*11+8,I⟩=some aF/\e.cell? ⟨c,((O d:Int)+2).toNat*11+9,I⟩=some aF/\e.cell? ⟨c,((O d:Int)+2).toNat*11+10,I⟩=some aF):=λ{e} c6 ai=>by
      have ah:∀V,V<11->e.cell? ⟨c,((O d:Int)+2).toNat*11+V,I⟩=(ae aZ a0 a1 a2 a3 (J a4 a5 a6)).toList[V]? :=λV bj=>by
       rw[show((O d:Int)+2).toNat=O d+2 from by omega];have bz:=d4 V bj;rw[Nat.zero_add] at bz;exact(ai.cell (p:=⟨c,(O d+2)*11+V,I⟩) (by show c<_;omega) eY.out).trans bz
      exact⟨λP=>cell_of_row e _ P _ 46 (0,0) (au c6 c3 dC),λP=>cell_of_row e _ P _ 126 (0,0) (au c6 eT dC),λP=>cell_of_row e _ P _ 54 (0,0) (au c6 d0 dC),ah 0 dC,ah 1 dC,ah 2 dC,ah 3 dC,ah 4 dC,ah 5 dC,ah 6 dC,ah 7 dC,ah 8 dC,ah 9 dC,ah 10 dC⟩
     have KB:Hid (∀{e:World},Below (E (U G)) G e->(Ce e (E (U wr)) (ae 8 j (O d:Int) o q (J (aS c) (O aa) r)))/\(Ce e (E (U wr)+1) (dL aY cg ch ci cj ck))/\(Ce e (E (U bs)) (eV aB (J ay on az) (J av (O ax) aw) aC (O aE) aD (vN aH) (vN aI) (J aJ aL aM) (J aN aO aP)))/\e.cell? ⟨c,((O d:Int)+2).toNat*11,I⟩=some (vN aZ)/\e.cell? ⟨c,((O d:Int)+2).toNat*11+1,I⟩=some (vN a0)/\e.cell? ⟨c,((O d:Int)+2).toNat*11+2,I⟩=some (vN a1)/\e.cell? ⟨c,((O d:Int)+2).toNat*11+3,I⟩=some (vN a2)/\e.cell? ⟨c,((O d:Int)+2).toNat*11+4,I⟩=some (.string a3)/\e.cell? ⟨c,((O d:Int)+2).toNat*11+5,I⟩=some (J a4 a5 a6)/\e.cell? ⟨c,((O d:Int)+2).toNat*11+6,I⟩=some (vN 0)/\e.cell? ⟨c,((O d:Int)+2).toNat*11+7,I⟩=some (vN 0)/\e.cell? ⟨c,((O d:Int)+2).toNat*11+8,I⟩=some aF/\e.cell? ⟨c,((O d:Int)+2).toNat*11+9,I⟩=some aF/\e.cell? ⟨c,((O d:Int)+2).toNat*11+10,I⟩=some aF):=λ{e} z=>b2.out (KT.below z) (KX.aq z);have fT:G.cell? ⟨mb,4,I⟩=some (J fo (O fns') fc):=by rw[c2.mk'.cell 4];rfl
     have fU:=c2.mk'.lt;have fW:mb<E (U G)+1:=oM;obtain⟨bL,cp⟩:∃bL:MK,bL=((({M with ds:=ds,fv:=J fo (O fns') fc,iv:=J io (O ims') ic}.bt 0 a).bt dT dU).bt cl cm):=⟨_,Q⟩;have eZ:bL.fv=J fo (O fns') fc:=by rw[cp]
     have e0:O bL.ds=O ds:=by rw[cp]
     have d5:MS G.drew mb bL trs ims' fns' Xd Xi' Xf' (λb=>Mu' b\/b=E (U wr)+1) cn:=by
      rw[cp];exact c2.below ((Below.refl (E (U G)) G).drew)
     have cq:=(Below.refl (E (U G)) G).drew;have d6:=λb3=>d5.addFn (fo:=fo) (fc:=fc) eZ (cs:=(nj q mod j (o==1) (-1) (-1) bd (O ap) bg aB ay on az av (O ax) aw aC (O aE) aD aH aI (J aJ aL aM) (J aN aO aP) (J bF (O bI) bH) aZ a0 a1 a2 a3 a4 a5 a6)) (Y:=aX) (by rw[e0];exact⟨_,_,_,_,_,_,_,_,_,_,_,_,_,_,_,_,_,_,_,_,_,_,_,_,_,_,_,_,_,_,_,_,_,_,_,_,_,_,Q,by have:=eU.frame (w':=G.drew) (λ_ _ _=>rfl) (lR _);rw[Nat.mul_one] at this;exact this⟩) Q (by intro dm bO;simp at bO;repeat(first|(subst bO;rfl)|(rcases bO with bO|bO;(subst bO;rfl)))) (oH bl.out.2.1) b3 (ad:=E (U G)) Q
     have d7:Hid (∀b3:TypeId,∃bQ w',(Builtin.append_ #[27,27] b3 #[J fo (O fns') fc,J (some ⟨E (U G),0,I⟩) 1 1]).run Tryz.prog ((G.alloc (Ob (nj q mod j (o==1) (-1) (-1) bd (O ap) bg aB ay on az av (O ax) aw aC (O aE) aD aH aI (J aJ aL aM) (J aN aO aP) (J bF (O bI) bH) aZ a0 a1 a2 a3 a4 a5 a6) 58)).drew)=.ok bQ w'/\∃aR aU bt,bQ=J aR (O fns'+1) aU/\cF w' mb bL/\KT (λa8=>a8≠58) G w'/\KX (λb=>Mu' b\/b=E (U wr)+1) (E (U G)) G w'/\KT (λa8=>a8≠58/\a8≠88) G (w'.setCell ⟨mb,4,I⟩ (J aR (O fns'+1) aU))/\KX (λb=>Mu' b\/b=E (U wr)+1) (E (U G)) G (w'.setCell ⟨mb,4,I⟩ (J aR (O fns'+1) aU))/\FE w1 mb M trs ims fns Xd Xi Xf Mu H (((ks.map bG).take s).sum+1) (s+1) (((ks.map (aG (h+4) w)).take s).sum+aX) (w'.setCell ⟨mb,4,I⟩ (J aR (O fns'+1) aU)) cl cm ds (fns'++[(nj q mod j (o==1) (-1) (-1) bd (O ap) bg aB ay on az av (O ax) aw aC (O aE) aD aH aI (J aJ aL aM) (J aN aO aP) (J bF (O bI) bH) aZ a0 a1 a2 a3 a4 a5 a6).toList]) aR aU ims' io ic bt cn Xi' (Xf'+aX)):=λb3=>by
      obtain⟨bQ,c7,e1,aR,aU,bt,e2,aV,bu,bv,bh,e3,e4,a9,d8⟩:=d6 b3;refine⟨bQ,c7,e1,aR,aU,bt,e2,aV,(KT.below cq).trans bu,(KX.aq cq).trans bv,(KT.below cq).trans a9,(KX.aq cq).trans bh,?_⟩;have c8:O (fns'++[(nj q mod j (o==1) (-1) (-1) bd (O ap) bg aB ay on az av (O ax) aw aC (O aE) aD aH aI (J aJ aL aM) (J aN aO aP) (J bF (O bI) bH) aZ a0 a1 a2 a3 a4 a5 a6).toList])=O fns'+1:=sQ;have bz:=y.il;have cy:=y.fl;have eo:=y.fe Q;have dr:=y.xi;have fX:=y.kx.size;have fY:=bK.size;have fZ:E (U G.drew)=E (U G):=rfl;refine⟨?_,y.dl,(A.out (bK.drew.trans (bh.mono (λ_ _ h=>h) bK.size))).1,λb z=>e3 b (.inl (y.m1 b z)),λb ao z=>?_,λh=>absurd (y.hf h).symm h,lT y.hH eQ,oM,by rw[c8];omega,λ_=>by rw[c8];omega,oM,vU y.xf⟩
      ·rw[c8];rw[cp] at d8;exact d8
      ·rcases e4 b oM z with L|L
       ·exact y.m2 b ao L
       ·omega
     clear d6 d5;clear bo bc d4 co c5;refine wp_region_noPanic ?_;refine wp_region_held_drew (S:=(λe=>(Ce e (E (U wr)) (ae 8 j (O d:Int) o q (J (aS c) (O aa) r)))/\(Ce e (E (U wr)+1) (dL aY cg ch ci cj ck))/\(Ce e (E (U bs)) (eV aB (J ay on az) (J av (O ax) aw) aC (O aE) aD (vN aH) (vN aI) (J aJ aL aM) (J aN aO aP)))/\e.cell? ⟨c,((O d:Int)+2).toNat*11,I⟩=some (vN aZ)/\e.cell? ⟨c,((O d:Int)+2).toNat*11+1,I⟩=some (vN a0)/\e.cell? ⟨c,((O d:Int)+2).toNat*11+2,I⟩=some (vN a1)/\e.cell? ⟨c,((O d:Int)+2).toNat*11+3,I⟩=some (vN a2)/\e.cell? ⟨c,((O d:Int)+2).toNat*11+4,I⟩=some (.string a3)/\e.cell? ⟨c,((O d:Int)+2).toNat*11+5,I⟩=some (J a4 a5 a6)/\e.cell? ⟨c,((O d:Int)+2).toNat*11+6,I⟩=some (vN 0)/\e.cell? ⟨c,((O d:Int)+2).toNat*11+7,I⟩=some (vN 0)/\e.cell? ⟨c,((O d:Int)+2).toNat*11+8,I⟩=some aF/\e.cell? ⟨c,((O d:Int)+2).toNat*11+9,I⟩=some aF/\e.cell? ⟨c,((O d:Int)+2).toNat*11+10,I⟩=some aF)) kQ ?_ (λhHeld=>?_)
     ·(try dsimp only)
      (first|assumption|exact KB.out ((Below.refl _ _).drew)|exact KB.out ((al1 _ _).1.drew)|exact KS10|exact KS11)
     refine aK 0 ?_;refine aK 1 ?_;refine aK 2 ?_;refine aK 3 ?_;refine aK 4 ?_;refine aK 6 ?_;refine aK 7 ?_;refine aK 8 ?_;refine aK 9 ?_;refine aK 10 ?_;refine aK 11 ?_;refine aK 12 ?_;refine aK 13 ?_;refine aK 14 ?_;refine aK 15 ?_;refine aK 16 ?_;refine aK 17 ?_;refine aK 18 ?_;refine aK 19 ?_;refine aK 20 ?_;refine aK 21 ?_;refine aK 22 ?_;refine aK 23 ?_;refine aK 24 ?_;refine aK 25 ?_;refine aK 26 ?_;refine aK 27 ?_;refine pU 5 28 (λK hK=>?_) (λK hK=>?_)
     ·go_simp;refine dV hK ?_;clear hK K hHeld;intro hHeld;refine eJ 28 (λK hK=>?_);go_simp;refine dV hK ?_;clear hK K hHeld;intro hHeld;refine eJ 29 (λK hK=>?_)
      (refine bf 27 (v:=J fo (O fns') fc) (xv:=J (aS (E (U G))) 1 1) rQ rQ rQ rQ (d7.out _) ?_;rintro bQ c7 ⟨aR,aU,bt,rfl,aV,bu,bv,a9,bh,c9⟩;have KS10:=b2.out (bu.mono (λa8 c'=>c'.1)) bv;have KS11:=b2.out a9 bh;have da:=aV.cell;have bp:=aV.fz;have db:=aV.lt)
      refine dV hK ?_;clear hK K hHeld;intro hHeld;refine aK 30 ?_;refine aK 31 ?_;refine aK 32 ?_;refine eJ 33 (λK hK=>?_);go_simp;refine dV hK ?_;clear hK K hHeld;intro hHeld;refine wpAnyH_done kQ ?_ _;refine NoPanic.normal ?_;have b4:=au a9 c3 dC;have e5:=(gE b4).1;have e6:=λP=>cell_of_row _ _ P _ 46 (0,0) b4;clear bh a9 KS10 KS11 da bp db aV bu bv;go_wp2_with fail;go_roundg (O ks - (s+1))
      case measure=>rw[b8.out];omega
      case rel=>
       refine⟨s+1,_,cl,cm,ds,fns'++[(nj q mod j (o==1) (-1) (-1) bd (O ap) bg aB ay on az av (O ax) aw aC (O aE) aD aH aI (J aJ aL aM) (J aN aO aP) (J bF (O bI) bH) aZ a0 a1 a2 a3 a4 a5 a6).toList],aR,aU,ims',io,ic,bt,cn,Xi',Xf'+aX,Q,by go_num,Q,a',?_⟩;rw[aT ar.out.1,aT ar.out.2,show bG (ae 8 j (O d:Int) o q (J (aS c) (O aa) r)).toList=1 by rfl];exact c9
     ·go_simp;refine dV hK ?_;clear hK K hHeld;intro hHeld;refine eJ 5 (λK hK=>?_);go_simp;refine dV hK ?_;clear hK K hHeld;intro hHeld;refine eJ 29 (λK hK=>?_)
      (refine bf 27 (v:=J fo (O fns') fc) (xv:=J (aS (E (U G))) 1 1) rQ rQ rQ rQ (d7.out _) ?_;rintro bQ c7 ⟨aR,aU,bt,rfl,aV,bu,bv,a9,bh,c9⟩;have KS10:=b2.out (bu.mono (λa8 c'=>c'.1)) bv;have KS11:=b2.out a9 bh;have da:=aV.cell;have bp:=aV.fz;have db:=aV.lt)
      refine dV hK ?_;clear hK K hHeld;intro hHeld;refine aK 30 ?_;refine aK 31 ?_;refine aK 32 ?_;refine eJ 33 (λK hK=>?_);go_simp;refine dV hK ?_;clear hK K hHeld;intro hHeld;refine wpAnyH_done kQ ?_ _;refine NoPanic.normal ?_;have b4:=au a9 c3 dC;have e5:=(gE b4).1;have e6:=λP=>cell_of_row _ _ P _ 46 (0,0) b4;clear bh a9 KS10 KS11 da bp db aV bu bv;go_wp2_with fail;go_roundg (O ks - (s+1))
      case measure=>rw[b8.out];omega
      case rel=>
       refine⟨s+1,_,cl,cm,ds,fns'++[(nj q mod j (o==1) (-1) (-1) bd (O ap) bg aB ay on az av (O ax) aw aC (O aE) aD aH aI (J aJ aL aM) (J aN aO aP) (J bF (O bI) bH) aZ a0 a1 a2 a3 a4 a5 a6).toList],aR,aU,ims',io,ic,bt,cn,Xi',Xf'+aX,Q,by go_num,Q,a',?_⟩;rw[aT ar.out.1,aT ar.out.2,show bG (ae 8 j (O d:Int) o q (J (aS c) (O aa) r)).toList=1 by rfl];exact c9
    ·have f0:(T==8)=false:=sU cA;by_cases dc:T=7
     ·subst dc;obtain⟨Z,rfl,bW,bX,bY,d9,-,b9,-,-⟩:=(bU wr (aq.out y.kx).1).2.1.kids;obtain⟨-,f1,f2,bZ,-,-⟩:=bY.impl Q;have cC:2<=O Z:=by have:=congrArg List.length bZ;simp at this;omega
      have f3:=bW.len.2
      have f4:O Z<=aG (h+4) w (ae 7 j u o q (J B (O Z) r)).toList:=by
       have bz:aG (h+4) wr (ae 7 j u o q (J B (O Z) r)).toList=aG (h+4) w (ae 7 j u o q (J B (O Z) r)).toList:=(bU wr (aq.out y.kx).1).2.2;have cy:=kU (l:=Z.map (aG (h+3) wr)) (λx ac=>by obtain⟨e7,e8,rfl⟩:=List.mem_map.1 ac;exact mI (bX e7 e8));rw[List.length_map] at cy;have dr:aG (h+4) wr (ae 7 j u o q (J B (O Z) r)).toList=1+(Z.map (aG (h+3) wr)).sum:=d9;omega
      have cH:B0<=E (U wr):=oH (aq.out y.kx).1.size
      have e9:Hid (Calls Tryz.prog 56 #[.pointer (some ⟨mb,0,I⟩),.int .i64 mod,.agg (ae 7 j u o q (J B (O Z) r)),.int .i64 bS] (wr.alloc (Ob (ae 7 j u o q (J B (O Z) r)) 46)) (gF (wr.alloc (Ob (ae 7 j u o q (J B (O Z) r)) 46)) mb ({M with ds:=ds,fv:=J fo (O fns') fc,iv:=J io (O ims') ic}.bt 0 a) trs ims' fns' Xd Xi' Xf' Mu' H' (O Z) (aG (h+4) w (ae 7 j u o q (J B (O Z) r)).toList))):=by
       have dd:=bU _ (aq.out aW.kx).1
       have d':=wW (h:=h) aW.s (fo:=fo) (fc:=fc) Q (ivo:=io) (ivc:=ic) Q (mod:=mod) dg (B0:=B0) (λb z=>by
        by_cases cJ:b<E (U w1)
        ·exact b7.out.2.2.1 b (aW.m2 b cJ z)
        ·omega) (by simp;omega) dd.2.1 (by rw[dd.2.2];exact bl.out.1) (oH bl.out.2.1) bl.out.2.2 bS
       rw[dd.2.2] at d';exact d'
      have de:=(al1 wr (Ob (ae 7 j u o q (J B (O Z) r)) 46)).2;clear bW bX bY d9 b9 bZ;have bo:=λP=>cell_of_row (wr.alloc (Ob (ae 7 j u o q (J B (O Z) r)) 46)) _ P _ 46 (0,0) de;have bc:E (U wr)<E (U (wr.alloc (Ob (ae 7 j u o q (J B (O Z) r)) 46))):=(gE de).1;have e':Hid (E (U wr)<E (U (wr.alloc (Ob (ae 7 j u o q (J B (O Z) r)) 46)))):=bc;clear bo bc;go_upto_region 17 with(first|(go_at_call 35;refine(bN aW.s.mk').mono ?_;rintro cL cM ⟨rfl,aj⟩;replace aj:=aj.symm;subst aj)|(go_at_call 56;refine e9.out.mono ?_;rintro f5 df ea;have fa:=ea.kx;obtain⟨fb,fd,fe,ff,fg,fh,fi,fj,fk,fl,fm,fn,fp,rfl,fq⟩:=aW.impl ea rfl cC bl.out.1))
      have eb:df.heap[E (U wr)]? =some (Ob (ae 7 j u o q (J B (O Z) r)) 46 (0,0)):=(fa.block _ e'.out (λL=>oH (y.s.mlt _ L))).trans de;have f6:=λP=>cell_of_row df _ P _ 46 (0,0) eb;have f7:E (U wr)<E (U df):=(gE eb).1;go_wp2_with fail;go_roundg (O ks - (s+1))
      case measure=>rw[b8.out];omega
      case rel=>
       refine⟨s+1,_,fb,fd,fe,ff,fg,fh,fi,fj,fk,fl,fm,fn,fp,Q,by go_num,Q,a',?_⟩;rw[aT ar.out.1,aT ar.out.2,show bG (ae 7 j u o q (J B (O Z) r)).toList=O Z - 2 by rfl];exact fq
     ·have f8:(T==7)=false:=sU dc;go_wp2_with (go_at_call 35;refine(bN aW.s.mk').mono ?_;rintro cL cM ⟨rfl,aj⟩;replace aj:=aj.symm;subst aj)
      go_roundg (O ks - (s+1))
      case measure=>rw[b8.out];omega
      case rel=>
       refine⟨s+1,bS,0,a,ds,fns',fo,fc,ims',io,ic,Mu',H',Xi',Xf',Q,by go_num,Q,a',?_⟩;rw[aT ar.out.1,aT ar.out.2,show bG (ae T j u o q (J B X r)).toList=0 by show(if T=8 then 1 else if T=7 then _ else 0)=0;rw[if_neg cA,if_neg dc],Nat.add_zero];exact aW.skip _
   ·have f9:(k==0)=false:=sU cz;go_wp2_with (go_at_call 35;refine(bN aW.s.mk').mono ?_;rintro cL cM ⟨rfl,aj⟩;replace aj:=aj.symm;subst aj)
    go_ret;exact⟨_,_,k,a,ds,fns',fo,fc,ims',io,ic,Mu',H',Xi',Xf',Q,bM _ _,λab=>absurd ab cz,aW.base dl.out dp (bM _ _)⟩
  ·have el:¬(s:Int)<(O ks:Int):=oM;have fr:s=O ks:=oM
   have fs:Hid (((ks.map bG).take s).sum=(ks.map bG).sum):=by
    show _=_;rw[List.take_of_length_le (by rw[List.length_map];omega)]
   clear fr;go_wp2_with fail;go_ret;exact⟨_,_,k,a,ds,fns',fo,fc,ims',io,ic,Mu',H',Xi',Xf',Q,bM _ _,λ_=>fs.out,y.base dl.out dp (bM _ _)⟩
end
section
variable{B0 h kc:Nat} {ko:OA} {ks mks:VV} {W w:World}
structure oE (h B0:Nat) (w:World) (ko:OA) (kc:Nat) (mks:VV) (kss:List VV):Prop where
 row:cZ B0 w (J ko (O mks) kc) mks
 xK:∀i,i<O mks->∃g,ko=some ⟨g,0,I⟩
 len:O kss=O mks
 it:∀(i:Nat) (ks:VV),kss[i]? =some ks->∃p1 n1 m1 s1 o1 c1,mks[i]? =some (ae 1 p1 n1 m1 s1 (J o1 (O ks) c1)).toList/\cZ B0 w (J o1 (O ks) c1) ks/\(∀i,i<O ks->∃g,o1=some ⟨g,0,I⟩)/\(∀x∈ks,isNode (λb=>b<B0) True (h+4) w x)/\∀x∈ks.map aA,x=2\/x=3\/x=6\/x=7\/x=108
 sum:(kss.map (λks=>(ks.map (aG (h+4) w)).sum)).sum<=96100
theorem oE.of {pos n m:Int} {name:ByteArray} {kl:Nat} (c:isNode (λb=>b<E (U w)) True (h+6) w (ae 0 pos n m name (J ko kl kc)).toList) (d:aG (h+6) w (ae 0 pos n m name (J ko kl kc)).toList<=96100):∃mks a,kl=O mks/\oE h (E (U w)) w ko kc mks a:=by
 obtain⟨mks,rfl,e,f,i,j,-,k,-,-⟩:=c.kids;obtain⟨a,l,o,q⟩:=nY f (i.prog Q);have p:aG (h+6) w (ae 0 pos n m name (J ko (O mks) kc)).toList=1+(mks.map (aG (h+5) w)).sum:=j;rw[p] at d;exact⟨mks,a,Q,e,k,l,o,oM⟩
theorem jC {S:Nat->Prop} (a:al S w W) (b:∀x∈ks,isNode S True h w x):(ks.map (aG h W)).sum=(ks.map (aG h w)).sum:=congrArg List.sum (List.map_congr_left (λx c=>aQ a _ _ (b x c) _))
theorem oE.frame {kss:List VV} (t:oE h B0 w ko kc mks kss) (a:al (λb=>b<B0) w W) (f:B0<=E (U w)):oE h B0 W ko kc mks kss:=by
 refine⟨t.row.frame a f,t.xK,t.len,λc ks d=>?_,?_⟩
 ·obtain⟨i,j,k,l,m,n,o,p,q,e,r⟩:=t.it c ks d;exact⟨i,j,k,l,m,n,o,p.frame a f,q,λs u=>isNode.frame a _ _ (e s u),r⟩
 ·have v:kss.map (λks=>(ks.map (aG (h+4) W)).sum)=kss.map (λks=>(ks.map (aG (h+4) w)).sum):=List.map_congr_left (λks x=>by
   obtain⟨c,d⟩:=List.mem_iff_getElem?.1 x;obtain⟨i,j,k,l,m,n,o,p,q,e,r⟩:=t.it c ks d;exact jC a e)
  rw[v];exact t.sum
theorem je {f:List Value->Nat} {g:List Value->Nat}:∀{kss:List VV},(∀ks∈kss,∀a∈ks,f a<=g a)->(kss.flatten.map f).sum<=(kss.map (λks=>(ks.map g).sum)).sum
 |[],_=>lR _
 |ks::kss,h=>by
  rw[List.flatten_cons,List.map_append,List.sum_append,List.map_cons,List.sum_cons];have i:=je (f:=f) (g:=g) (kss:=kss) (λb c=>h b (List.mem_cons_of_mem _ c));have d:=fS (f:=f) (g:=g) (l:=ks) (λa e=>h ks (List.mem_cons_self ..) a e) (O ks);rw[List.take_of_length_le sQ,List.take_of_length_le sQ] at d;omega
theorem oE.node {kss:List VV} (t:oE h B0 w ko kc mks kss):∀ks∈kss,∀a∈ks,isNode (λb=>b<B0) True (h+4) w a:=λks c a d=>by
 obtain⟨e,f⟩:=List.mem_iff_getElem?.1 c;obtain⟨j,k,l,m,n,o,p,q,r,i,s⟩:=t.it e ks f;exact i a d
theorem oE.fns {kss:List VV} (t:oE h B0 w ko kc mks kss):(kss.flatten.map bG).sum<=96100:=lT (je (λks a b c=>kf (h:=h+2) (t.node ks a b c))) t.sum
theorem oE.bB {kss:List VV} (t:oE h B0 w ko kc mks kss):O kss.flatten<=96100:=by
 have d:=je (f:=λ_=>1) (g:=aG (h+4) w) (kss:=kss) (λks a b c=>mI (t.node ks a b c))
 have e:(kss.flatten.map (λ_=>1)).sum=O kss.flatten:=by
  rw[List.map_const',List.sum_replicate_nat,Nat.mul_one]
 have i:=t.sum;omega
theorem iZ:∀{b:List Nat} {c:Nat},c∈b->c<=b.sum
 |[],_,h=>by simp at h
 |a::b,c,h=>by
  rw[List.sum_cons];rcases List.mem_cons.1 h with h|h
  ·omega
  ·have:=iZ h;omega
theorem oE.small {kss:List VV} (t:oE h B0 w ko kc mks kss):∀ks∈kss,∀a∈ks,aG (h+4) w a<=96100:=λks b a c=>by
 have d:=iZ (List.mem_map_of_mem (f:=aG (h+4) w) c);have e:=iZ (List.mem_map_of_mem (f:=(λks=>(ks.map (aG (h+4) w)).sum)) b);have i:=t.sum;exact lT d (lT e i)
theorem su {kss:List VV} (t:oE h B0 w ko kc mks kss) {i:Nat} (c:kss[i]? =some ks):((kss.take (i+1)).flatten.map bG).sum=((kss.take i).flatten.map bG).sum+(ks.map bG).sum/\O (kss.take (i+1)).flatten=O (kss.take i).flatten+O ks/\((kss.take (i+1)).map (λks=>(ks.map (aG (h+4) w)).sum)).sum=((kss.take i).map (λks=>(ks.map (aG (h+4) w)).sum)).sum+(ks.map (aG (h+4) w)).sum/\((kss.take (i+1)).map (λks=>(ks.map (aG (h+4) w)).sum)).sum<=96100/\O (kss.take (i+1)).flatten<=96100/\(ks.map bG).sum<=(ks.map (aG (h+4) w)).sum/\((kss.take i).flatten.map bG).sum<=((kss.take i).map (λks=>(ks.map (aG (h+4) w)).sum)).sum:=by
 have d:kss.take (i+1)=kss.take i++[ks]:=by rw[List.take_add_one,c];rfl
 have e:(kss.take (i+1)).flatten=(kss.take i).flatten++ks:=by rw[d,List.flatten_append];simp
 have k:=bM (kss.map (λks=>(ks.map (aG (h+4) w)).sum)) (i+1);rw[<-List.map_take] at k;have r:=t.sum;have m:kss.flatten=(kss.take (i+1)).flatten++(kss.drop (i+1)).flatten:=by rw[<-List.flatten_append,List.take_append_drop]
 have n:=t.bB;rw[m,List.length_append] at n;have j:=fS (f:=bG) (g:=aG (h+4) w) (l:=ks) (λa b=>kf (h:=h+2) (t.node ks (mG c) a b)) (O ks);rw[List.take_of_length_le sQ,List.take_of_length_le sQ] at j;have o:=je (f:=bG) (g:=aG (h+4) w) (kss:=kss.take i) (λp q a b=>kf (h:=h+2) (t.node p (List.mem_of_mem_take q) a b));refine⟨by rw[e,List.map_append,List.sum_append],by rw[e,List.length_append],?_,oM,oM,j,o⟩;rw[d,List.map_append,List.sum_append];simp
end
theorem gx {e:Func} (m:e.results=#[.cell 2 30,.cell 3 33]) {a:Array Value} {b c:Nat} (n:a.getD 2 undef=.pointer (aS b)) (o:a.getD 3 undef=.pointer (aS c)) {W:World} {c0 c1 c2 c3 f i j k l:Value} (p:W.heap[b]? =some (Ob #[c0,c1,c2,c3,f,i,j] 30 (0,0))) (q:W.heap[c]? =some (Ob #[k,l] 33 (0,0))):
 (results e a).run Tryz.prog W=.ok (.tuple #[.agg #[c0,c1,c2,c3,f,i,j],.agg #[k,l]]) W:=by
 have r:=λd=>cell_of_row W b d _ 30 (0,0) p;have s:=λd=>cell_of_row W c d _ 33 (0,0) q;have t:a[2]?.getD undef=.pointer (aS b):=sU n;have u:a[3]?.getD undef=.pointer (aS c):=sU o;simp[results,m,t,u,go_sem,r,s]
section
variable{a k:Int} {x:List Value} {B D H X b b' pb:Nat} {S:Nat->Prop} {t:TypeId} {us:VV} {x0 x1:Value} {w:World}
theorem ro.cY {size:Nat} {v:Value} {n:Nat} {xs:List Value} (h:ro w S size v n xs) (e:0<size) (m:∀u,xs[0]? =some u->w.cell? ⟨pb,0,I⟩≠some u):ro w (λb=>S b/\b≠pb) size v n xs:=by
 obtain⟨a,o,c,f,p⟩:=h;refine⟨a,o,c,f,λd=>?_⟩;obtain⟨g,q,r,s,i⟩:=p d;refine⟨g,q,⟨r,λc=>?_⟩,s,i⟩;have j:=i 0 (Nat.mul_pos d e);have l:0<O xs:=by rw[f];exact Nat.mul_pos d e
 rw[c] at j;exact m _ (gG l) (by rw[j];exact gG l)
section
variable{S:Nat->Prop} {G:Int->Int->Nat->Nat->Prop} {w:World} {pb:Nat}
theorem iD {u:Value} (h:us.flatten[0]? =some u) (hl:∀x∈us,x≠[]):∃x∈us,x[0]? =some u:=by
 cases us with
 |nil=>simp at h
 |cons x us=>
  have c:=hl x (List.mem_cons_self ..)
  cases x with
  |nil=>exact absurd Q c
  |cons a x=>
   refine⟨a::x,List.mem_cons_self ..,?_⟩;simpa using h
theorem af.cY (f:w.cell? ⟨pb,0,I⟩=some (J I 0 0)):(h:Nat)->(cs:List Value)->af S G h w cs->af (λb=>S b/\b≠pb) G h w cs
 |0,_,hn=>hn
 |h+1,_,⟨kind,n,lv,av,ls,vs,h1,h2,h3,h4,h5,h6,h7⟩=>by
  refine⟨kind,n,lv,av,ls,vs,h1,h2.cY dC (λo c d=>?_),h3.cY dC (λo c d=>?_),h4,h5,h6,λx e=>af.cY f h x (h7 x e)⟩
  ·rw[f] at d;unfold aC at c;rw[List.getElem?_map] at c
   cases m:ls[0]? with
   |none=>rw[m] at c;simp at c
   |some p=>rw[m] at c;simp at c;rw[<-c] at d;simp at d
  ·obtain⟨x,e,i⟩:=iD c (λx e=>by
    cases h with
    |zero=>exact absurd (h7 x e) (λj=>j)
    |succ h=>obtain⟨k,_,_,_,_,_,l,_⟩:=h7 x e;rw[l];simp)
   cases h with
   |zero=>exact absurd (h7 x e) (λj=>j)
   |succ h=>
    obtain⟨k,q,r,s,_,_,l,_⟩:=h7 x e;rw[l] at i;rw[f] at d;simp at i;rw[<-i] at d;simp at d
theorem eo.cY (c:w.cell? ⟨pb,0,I⟩=some (J I 0 0)) (h:eo S D H w x):eo (λb=>S b/\b≠pb) D H w x:=by
 obtain⟨d,e,f,i,j,l,m,n,o,p,rfl,q⟩:=h;exact⟨d,e,f,i,j,l,m,n,o,p,Q,af.cY c _ _ q⟩
theorem gW (i:w.cell? ⟨pb,0,I⟩=some (J I 0 0)) (h:∀x∈us,∃(s:ByteArray) (r:List Value),x=.string s::r):∀d,us.flatten[0]? =some d->w.cell? ⟨pb,0,I⟩≠some d:=λd j c=>by
 obtain⟨x,e,f⟩:=iD j (λx e=>by obtain⟨s,r,c⟩:=h x e;rw[c];simp);obtain⟨s,r,l⟩:=h x e;rw[l] at f;rw[i] at c;simp at f;rw[<-f] at c;simp at c
theorem sJ (m:w.cell? ⟨pb,0,I⟩=some (J I 0 0)) (h:∀x∈us,af S G H w x):∀e,us.flatten[0]? =some e->w.cell? ⟨pb,0,I⟩≠some e:=λe n d=>by
 have l:∀x∈us,∃(k:Int) (f:List Value),x=vN k::f:=λx c=>by
  cases H with
  |zero=>exact absurd (h x c) (λo=>o)
  |succ H=>
   obtain⟨k,q,r,s,_,_,i,_⟩:=h x c;exact⟨k,_,i⟩
 obtain⟨x,c,j⟩:=iD n (λx c=>by obtain⟨p,f,d⟩:=l x c;rw[d];simp);obtain⟨p,f,i⟩:=l x c;rw[i] at j;rw[m] at d;simp at j;rw[<-j] at d;simp at d
theorem gM.cY (c:w.cell? ⟨pb,0,I⟩=some (J I 0 0)) (h:gM S D H X w x):gM (λb=>S b/\b≠pb) D H X w x:=by
 obtain⟨e,f,i,j,l,m,n,o,p,q,r,s,u,v,y,z,A,C,F,K,L,M,N,P,R,T,V,W,Y,Z,aa,ab,ac,ad,ae,ag,ah,ai,aj,h⟩:=h;exact⟨e,f,i,j,l,m,n,o,p,q,r,s,u,v,y,z,A,C,F,K,L,M,N,P,R,T,V,W,Y,Z,aa,ab,ac,ad,ae,ag,ah,ai,aj,⟨h.ri.cY dC (sJ c h.ti),h.rv.cY dC (gW c (λx d=>by obtain⟨ak,al,ao,ap,aq,ar,au,av,aw,ax,rfl,ay⟩:=h.tv x d;exact⟨ak,_,Q⟩)),λx d=>af.cY c _ _ (h.ti x d),λx d=>(h.tv x d).cY c,af.cY c _ _ h.lH,h.si,h.sv,h.so,h.li,h.lv⟩⟩
theorem iI.cY (c:w.cell? ⟨pb,0,I⟩=some (J I 0 0)) (h:iI S D H X w x):iI (λb=>S b/\b≠pb) D H X w x:=by
 obtain⟨d,e,f,i,j,l,m,n,o,p,q,r,s,u,v,y,z,A,C,F,K⟩:=h;exact⟨d,e,f,i,j,l,m,n,o,p,q,r,s,u,v,y,z,A,C,af.cY c _ _ F,K⟩
theorem eB.cY {d:Dd} (e:w.cell? ⟨pb,0,I⟩=some (J I 0 0)) (h:eB S D H X w d):eB (λb=>S b/\b≠pb) D H X w d:=
 ⟨h.row.cY dC (gW e (λx f=>by obtain⟨c,_,rfl⟩:=List.mem_map.1 f;exact⟨c.name,_,Q⟩)),λc i=>⟨(h.parts c i).1.cY dC (gW e (λx f=>by obtain⟨j,_,rfl⟩:=List.mem_map.1 f;exact⟨j.name,_,Q⟩)),(h.parts c i).2.1,λj l=>((h.parts c i).2.2 j l).cY e⟩,h.len,h.sz⟩
end
theorem PG.zN {W:World} {R:Nat} {M:MK} {l:Int} {T e f:VV} {m n o:Nat} {p:Nat->Prop} {q:OA} {r:Nat} {fo:OA} {fc:Nat} (s:MS w R ({M with mn:=l}.bt k a) T e f m n o p H) (aq:m<=96101) (ar:O f<=96100) (au:O e<=96100) (av:n<=96100) (aw:o<=96100*96100) (V:M.iv=J q (O e) r) (Y:M.fv=J fo (O f) fc) {u:Array Value} (i:w.heap[pb]? =some (Ob u 30 (0,0))) (Z:u[0]? =some (J I 0 0)) (j:∀b,b≠pb->W.heap[b]? =w.heap[b]?) (ax:E (U W)=E (U w)):∃D H:Nat,PG W D H M.cV M.dN M.ds q r e fo fc f m n o:=by
 have v:w.cell? ⟨pb,0,I⟩=some (J I 0 0):=by rw[cell_of_row w pb 0 u 30 (0,0) i,Z]
 have y:al (λb=>¬p b/\b≠pb) w W:=λb d _=>j b d.2;have z:∀b,(¬p b/\b≠pb)->b<E (U W)->b<E (U W):=λb _ h=>h;have A:E (U w)<=E (U W):=oM;have sl:=s.le (H':=H+1) (Nat.le_succ _);obtain⟨aa,ab,ac,ad⟩:=sl.jF;have C:=s.im;have F:=s.fn;have ae:({M with mn:=l}.bt k a).iv=J q (O e) r:=V;have af:({M with mn:=l}.bt k a).fv=J fo (O f) fc:=Y;rw[ae] at C;rw[af] at F;have L:=ag s.pi.cu (w':=W) (λb d _=>j b (λc=>cW s.pi.cu i dC (c▸d)));have N:=ag C (w':=W) (λb d _=>j b (λc=>cW C i dC (c▸d)));have P:=ag F (w':=W) (λb d _=>j b (λc=>cW F i dC (c▸d)));exact⟨O M.ds,H+1,ro.bJ L (λb c=>(L.lt b c).2),ro.bJ N (λb c=>(N.lt b c).2),ro.bJ P (λb c=>(P.lt b c).2),⟨aa,ab,ac,λah ai aj ak ao=>(((ad ah ai aj ak ao).cY v).frame y A).weaken z⟩,sl.lO.imp (λap x K=>((K.cY v).frame y A).weaken z),sl.lp.imp (λap x K=>((K.cY v).frame y A).weaken z),⟨s.pi.bB.2.1,oM,oM⟩,oM,oM⟩
abbrev jT (w:World) (b:Nat) (c0 c1 c2 c3 c4 c5 c6:Value):World:=((((((w.setCell ⟨b,0,I⟩ c0).setCell ⟨b,1,I⟩ c1).setCell ⟨b,2,I⟩ c2).setCell ⟨b,3,I⟩ c3).setCell ⟨b,4,I⟩ c4).setCell ⟨b,5,I⟩ c5).setCell ⟨b,6,I⟩ c6
abbrev jU (w:World) (b:Nat) (c0 c1:Value):World:=(w.setCell ⟨b,0,I⟩ c0).setCell ⟨b,1,I⟩ c1
theorem iB {l j f d c:Value} (h:w.heap[b]? =some (Ob #[x0,x1,l,j,f,d,c] t (0,0))) (c0 c1 c2 c3 e i m:Value):(jT w b c0 c1 c2 c3 e i m).heap[b]? =some (Ob #[c0,c1,c2,c3,e,i,m] t (0,0)):=by
 have n:(w.setCell ⟨b,0,I⟩ c0).heap[b]? =some (Ob #[c0,x1,l,j,f,d,c] t (0,0)):=heap_setCell_same w b 0 _ t c0 h;have o:(World.setCell _ ⟨b,1,I⟩ c1).heap[b]? =some (Ob #[c0,c1,l,j,f,d,c] t (0,0)):=heap_setCell_same _ b 1 _ t c1 n;have p:(World.setCell _ ⟨b,2,I⟩ c2).heap[b]? =some (Ob #[c0,c1,c2,j,f,d,c] t (0,0)):=heap_setCell_same _ b 2 _ t c2 o;have q:(World.setCell _ ⟨b,3,I⟩ c3).heap[b]? =some (Ob #[c0,c1,c2,c3,f,d,c] t (0,0)):=heap_setCell_same _ b 3 _ t c3 p;have r:(World.setCell _ ⟨b,4,I⟩ e).heap[b]? =some (Ob #[c0,c1,c2,c3,e,d,c] t (0,0)):=heap_setCell_same _ b 4 _ t e q;have s:(World.setCell _ ⟨b,5,I⟩ i).heap[b]? =some (Ob #[c0,c1,c2,c3,e,i,c] t (0,0)):=heap_setCell_same _ b 5 _ t i r;exact heap_setCell_same _ b 6 _ t m s
theorem iC (h:w.heap[b]? =some (Ob #[x0,x1] t (0,0))) (c0 c1:Value):(jU w b c0 c1).heap[b]? =some (Ob #[c0,c1] t (0,0)):=by
 have c:=heap_setCell_same w b 0 _ t c0 h;exact heap_setCell_same _ b 1 _ t c1 c
theorem dX (h:b'≠b) (c0 c1 c2 c3 c d e:Value):(jT w b c0 c1 c2 c3 c d e).heap[b']? =w.heap[b']? :=((Below.heap_setCell _ ⟨b,6,I⟩ _ _ h).trans ((Below.heap_setCell _ ⟨b,5,I⟩ _ _ h).trans ((Below.heap_setCell _ ⟨b,4,I⟩ _ _ h).trans ((Below.heap_setCell _ ⟨b,3,I⟩ _ _ h).trans ((Below.heap_setCell _ ⟨b,2,I⟩ _ _ h).trans ((Below.heap_setCell _ ⟨b,1,I⟩ _ _ h).trans (Below.heap_setCell _ ⟨b,0,I⟩ _ _ h)))))))
theorem dY (h:b'≠b) (c0 c1:Value):(jU w b c0 c1).heap[b']? =w.heap[b']? :=((Below.heap_setCell _ ⟨b,1,I⟩ _ _ h).trans (Below.heap_setCell _ ⟨b,0,I⟩ _ _ h))
theorem gA {a:World} (h:Below B a w) (c:B<=b) (c0 c1 c2 c3 d e f:Value):Below B a (jT w b c0 c1 c2 c3 d e f):=((((((h.setCell (p:=⟨b,0,I⟩) c _).setCell (p:=⟨b,1,I⟩) c _).setCell (p:=⟨b,2,I⟩) c _).setCell (p:=⟨b,3,I⟩) c _).setCell (p:=⟨b,4,I⟩) c _).setCell (p:=⟨b,5,I⟩) c _).setCell (p:=⟨b,6,I⟩) c _
theorem gB {a:World} (h:Below B a w) (c:B<=b) (c0 c1:Value):Below B a (jU w b c0 c1):=(h.setCell (p:=⟨b,0,I⟩) c _).setCell (p:=⟨b,1,I⟩) c _
theorem heap_drew (w:World):w.drew.heap=w.heap:=rfl
theorem tR {e:World} {c:Nat} (l:e.heap[pb]? =some (Ob (fD (J I 0 0) (J I 0 0) (J I 0 0) (J I 0 0) (J I 0 0) 0 (J I 0 0)) 30 (0,0))) (m:e.heap[c]? =some (Ob #[vN 0,vN 0] 33 (0,0))) (j:pb≠c) (n:Below (E (U w)) w e) (o:E (U w)<=pb) (p:E (U w)<=c) (q:k≠0) (f:Act) (r:f.defers=[]) (s:f.tmps.getD 2 undef=.pointer (aS pb)) (u:f.tmps.getD 3 undef=.pointer (aS c)):bodyPost Tryz.prog Tryz.f13 (gD w) .ret f (jU (jT e pb (J I 0 0) (J I 0 0) (J I 0 0) (J I 0 0) (J I 0 0) (vN 0) (J I 0 0)) c (vN k) (vN a)).drew:=by
 obtain⟨d,i⟩:∃d,d=jU (jT e pb (J I 0 0) (J I 0 0) (J I 0 0) (J I 0 0) (J I 0 0) (vN 0) (J I 0 0)) c (vN k) (vN a):=⟨_,Q⟩
 have v:d.heap[pb]? =some (Ob #[J I 0 0,J I 0 0,J I 0 0,J I 0 0,J I 0 0,vN 0,J I 0 0] 30 (0,0)):=by
  rw[i];exact(dY j _ _).trans (iB l _ _ _ _ _ _ _)
 have y:d.heap[c]? =some (Ob #[vN k,vN a] 33 (0,0)):=by
  rw[i];exact iC ((dX j.symm _ _ _ _ _ _ _).trans m) (vN k) (vN a)
 have B:Below (E (U w)) w d:=by
  rw[i];exact gB (gA n o _ _ _ _ _ _ _) p _ _
 rw[<-i];have z:d.drew.heap[pb]? =some (Ob #[J I 0 0,J I 0 0,J I 0 0,J I 0 0,J I 0 0,vN 0,J I 0 0] 30 (0,0)):=by rw[heap_drew];exact v
 have A:d.drew.heap[c]? =some (Ob #[vN k,vN a] 33 (0,0)):=by rw[heap_drew];exact y
 exact bodyPost_ret (gx Tryz.results13 s u z A) r ⟨I,0,0,I,0,0,I,0,0,I,0,0,I,0,0,0,I,0,0,k,a,Q,B.drew,λC=>absurd C q⟩
end
section
variable{pb:Nat} {w:World}
theorem isNode.inside {S:Nat->Prop} {g:Prop}:(h:Nat)->(cs:List Value)->isNode S g h w cs->isNode (λa=>a<E (U w)) g h w cs
 |0,_,hn=>hn
 |h+1,_,⟨kind,pos,n,m,name,kv,vs,h1,h2,h3,h4,h5,h6,h7,h8⟩=>⟨kind,pos,n,m,name,kv,vs,h1,h2,h3,h4,h5,λa c=>(h5.lt a c).2,λb d=>isNode.inside h b (h7 b d),h8⟩
theorem tN {i:Func} (l:i.results=#[.cell 2 30,.cell 3 33]) {d:World} {b:Nat} {k a:Int} (m:d.heap[pb]? =some (Ob (fD (J I 0 0) (J I 0 0) (J I 0 0) (J I 0 0) (J I 0 0) 0 (J I 0 0)) 30 (0,0))) (n:d.heap[b]? =some (Ob #[vN 0,vN 0] 33 (0,0))) (j:pb≠b) (o:Below (E (U w)) w d) (p:E (U w)<=pb) (q:E (U w)<=b) (r:k≠0) (e:Act) (s:e.defers=[]) (t:e.tmps.getD 2 undef=.pointer (aS pb)) (u:e.tmps.getD 3 undef=.pointer (aS b)):bodyPost Tryz.prog i (gD w) .ret e (jU (jT d pb (J I 0 0) (J I 0 0) (J I 0 0) (J I 0 0) (J I 0 0) (vN 0) (J I 0 0)) b (vN k) (vN a)).drew:=by
 obtain⟨c,f⟩:∃c,c=jU (jT d pb (J I 0 0) (J I 0 0) (J I 0 0) (J I 0 0) (J I 0 0) (vN 0) (J I 0 0)) b (vN k) (vN a):=⟨_,Q⟩
 have v:c.heap[pb]? =some (Ob #[J I 0 0,J I 0 0,J I 0 0,J I 0 0,J I 0 0,vN 0,J I 0 0] 30 (0,0)):=by
  rw[f];exact(dY j _ _).trans (iB m _ _ _ _ _ _ _)
 have x:c.heap[b]? =some (Ob #[vN k,vN a] 33 (0,0)):=by
  rw[f];exact iC ((dX j.symm _ _ _ _ _ _ _).trans n) (vN k) (vN a)
 have y:Below (E (U w)) w c:=by
  rw[f];exact gB (gA o p _ _ _ _ _ _ _) q _ _
 rw[<-f];have z:c.drew.heap[pb]? =some (Ob #[J I 0 0,J I 0 0,J I 0 0,J I 0 0,J I 0 0,vN 0,J I 0 0] 30 (0,0)):=by rw[heap_drew];exact v
 have A:c.drew.heap[b]? =some (Ob #[vN k,vN a] 33 (0,0)):=by rw[heap_drew];exact x
 exact bodyPost_ret (gx l t u z A) s ⟨I,0,0,I,0,0,I,0,0,I,0,0,I,0,0,0,I,0,0,k,a,Q,y.drew,λB=>absurd B r⟩
theorem u5 {us:VV} (e:w.cell? ⟨pb,0,I⟩=some (J I 0 0)) (h:∀x∈us,∃(s:Int) (r:List Value),x=vN s::r):∀b,us.flatten[0]? =some b->w.cell? ⟨pb,0,I⟩≠some b:=λb f a=>by
 obtain⟨x,c,d⟩:=iD f (λx c=>by obtain⟨s,r,a⟩:=h x c;rw[a];simp);obtain⟨s,r,i⟩:=h x c;rw[i] at d;rw[e] at a;simp at d;rw[<-d] at a;simp at a
theorem PG.move {W:World} {D H:Nat} {q:OA} {r:Nat} {s:List Dd} {ivo:OA} {ivc:Nat} {t:VV} {u:OA} {v:Nat} {x:VV} {y z A:Nat} (p:PG w D H q r s ivo ivc t u v x y z A) {j:Array Value} (B:w.heap[pb]? =some (Ob j 30 (0,0))) (C:j[0]? =some (J I 0 0)) (F:∀b,b≠pb->W.heap[b]? =w.heap[b]?) (ar:E (U W)=E (U w)):PG W D H q r s ivo ivc t u v x y z A:=by
 have c:w.cell? ⟨pb,0,I⟩=some (J I 0 0):=by rw[cell_of_row w pb 0 j 30 (0,0) B,C]
 have d:al (λb=>b<E (U w)/\b≠pb) w W:=λb G _=>F b G.2;have e:∀b,(b<E (U w)/\b≠pb)->b<E (U W)->b<E (U W):=λb _ h=>h;have f:E (U w)<=E (U W):=oM;obtain⟨K,L,M,N⟩:=p.jF
 exact⟨((p.da.cY dC (gW c (λi a=>by obtain⟨P,_,rfl⟩:=List.mem_map.1 a;exact⟨P.name,_,Q⟩))).frame d f).weaken e,((p.im.cY dC (u5 c (λi a=>by
  obtain⟨k,l⟩:=List.mem_iff_getElem?.1 a;obtain⟨m,h⟩:=p.lO.at l;obtain⟨n,R,S,T,V,X,Y,Z,aa,ab,ac,ad,ae,af,ag,ah,ai,aj,o,-⟩:=h;exact⟨n,_,o⟩))).frame d f).weaken e,((p.fn.cY dC (gW c (λi a=>by
  obtain⟨k,l⟩:=List.mem_iff_getElem?.1 a;obtain⟨m,h⟩:=p.lp.at l;obtain⟨n,R,S,T,V,X,Y,Z,aa,ab,ac,ad,ae,af,ag,ah,ai,aj,au,av,aw,ax,ay,az,aA,aB,aC,aD,aE,aF,aG,aH,aI,aJ,aK,aL,aM,aN,o,-⟩:=h;exact⟨n,_,o⟩))).frame d f).weaken e,⟨K,L,M,λk ak ao ap aq=>(((N k ak ao ap aq).cY c).frame d f).weaken e⟩,p.lO.imp (λm i a=>((a.cY c).frame d f).weaken e),p.lp.imp (λm i a=>((a.cY c).frame d f).weaken e),p.bB,p.h1,p.sum⟩
end
end Go.Proofs.YtcnnibahjmekdaaGreat
