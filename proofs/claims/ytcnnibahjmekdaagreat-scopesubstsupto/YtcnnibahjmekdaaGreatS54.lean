import Derived.Test.YtcnnibahjmekdaaGreatS40
namespace Go.Proofs.YtcnnibahjmekdaaGreat
open Go.RowKit
open Value renaming slice→J
open List renaming length→O
open Option renaming none→I
open World renaming heap→U
open _root_.Array renaming size→E
open Obj renaming cells→Ob
set_option linter.all false
set_option maxRecDepth 100000
set_option maxHeartbeats 0
section
variable{kind n:Int} {ac an lc ln:Nat} {S:Nat->Prop} {aao aw:OA} {w:World}
section
variable{w wr w':World} {S:Nat->Prop} {G:Int->Int->Nat->Nat->Prop} {H o z:Nat} {c:Array Value} {kv:Value} {vs:VV}
theorem TL.wB (q:TL w S G H o z c wr kv vs) (p:af (dS w S o z kv) G H wr (ai kind n (J aw ln lc) (J aao an ac)).toList) (C:O vs<=30000) (D:TypeId) {ad:Nat} (V:ad=E (U wr)):
 ∃s w',(Builtin.append_ #[36,36] D #[kv,J (aS ad) 1 1]).run Tryz.prog (wr.alloc (Ob (ai kind n (J aw ln lc) (J aao an ac)) 39))=.ok s w'/\∃l m,s=J l (O vs+1) m/\TL w S G H o z c w' (J l (O vs+1) m) (vs++[(ai kind n (J aw ln lc) (J aao an ac)).toList])/\
  (vs++[(ai kind n (J aw ln lc) (J aao an ac)).toList]).map (enc H w')=vs.map (enc H wr)++[enc H wr (ai kind n (J aw ln lc) (J aao an ac)).toList]/\(∀t u v x,ro wr (dS w S o z kv) x t u v->ro w' (dS w S o z (J l (O vs+1) m)) x t u v):=by
 subst V;obtain⟨W,X,Y,Z,aa⟩:=info_parts jD;have k:Below (E (U wr)) wr (wr.alloc (Ob (ai kind n (J aw ln lc) (J aao an ac)) 39)):=(Below.refl _ _).alloc (lR _) _;have i:=q.step k;have ab:=af.frame (al.below k) k.size _ _ p
 have one:∀F∈(ai kind n (J aw ln lc) (J aao an ac)).toList,F.oneCell'=true:=by
  intro F p;simp at p;rcases p with rfl|rfl|rfl|rfl<;>rfl
 obtain⟨s,w',ae,K,j,_,L⟩:=run_append_own_at (P:=Tryz.prog) (wr.alloc (Ob (ai kind n (J aw ln lc) (J aao an ac)) 39)) (E (U w)) 36 D 39 W _ 4 64 Tryz.underlying36 X Y Z aa Q dC kv (O vs) vs.flatten i.row ⟨E (U wr),0,I⟩ 1 1 (ai kind n (J aw ln lc) (J aao an ac)).toList Q (jS _ _ _ _ _ _) one (by unfold maxLen;omega) oM i.below.size
 have ag:∃l m,s=J l (O vs+1) m:=by
  rcases K.2 with⟨M,au⟩|⟨b,y,zz,M,_⟩
  ·omega
  ·exact⟨_,_,M⟩
 obtain⟨l,m,rfl⟩:=ag;have N:∀(h:Nat) (b:List Value) (S:Nat->Prop),af S G h (wr.alloc (Ob (ai kind n (J aw ln lc) (J aao an ac)) 39)) b->af (λa=>S a/\a<E (U (wr.alloc (Ob (ai kind n (J aw ln lc) (J aao an ac)) 39)))) G h (wr.alloc (Ob (ai kind n (J aw ln lc) (J aao an ac)) 39)) b:=λh b S d=>af.weaken (λa f r=>⟨f,r⟩) _ _ d;have A:al (λa=>dS w S o z kv a/\a<E (U (wr.alloc (Ob (ai kind n (J aw ln lc) (J aao an ac)) 39)))) (wr.alloc (Ob (ai kind n (J aw ln lc) (J aao an ac)) 39)) w':=al.grown j (λa e f=>f.1.2.2.2 e)
 have R:∀a,dS w S o z kv a/\a<E (U (wr.alloc (Ob (ai kind n (J aw ln lc) (J aao an ac)) 39)))->dS w S o z (J l (O vs+1) m) a:=by
  rintro a ⟨⟨ah,aj,ak,ao⟩,r⟩;refine⟨ah,aj,ak,?_⟩;rcases L with e|e
  ·rw[e];exact ao
  ·rw[e];intro ap;simp at ap r;omega
 have T:∀b∈vs++[(ai kind n (J aw ln lc) (J aao an ac)).toList],af (dS w S o z kv) G H (wr.alloc (Ob (ai kind n (J aw ln lc) (J aao an ac)) 39)) b:=by
  intro b d;rcases List.mem_append.1 d with d|d
  ·exact i.all b d
  ·obtain rfl:b=_:=sU d;exact ab
 refine⟨_,w',ae,l,m,Q,⟨?_,i.ob.grown j (λe=>(q.ef o e.symm).1 Q),i.zb.grown j (λe=>(q.ef z e.symm).2 Q),q.lo,q.lz,q.ne,sU K,?_,λb d=>af.weaken (λa f _=>R a f) _ _ (af.frame A j.size _ _ (N _ _ _ (T b d)))⟩,?_,λt u v x C=>(((C.frame (al.below k) k.size).weaken (λa f r=>(⟨f,r⟩:dS w S o z kv a/\a<E (U (wr.alloc (Ob (ai kind n (J aw ln lc) (J aao an ac)) 39)))))).frame A j.size).weaken (λa f _=>R a f)⟩
 ·exact⟨j.os.trans i.below.os,j.tape.trans i.below.tape,j.output.trans i.below.output,lT i.below.size j.size,λB aq=>(j.block B (oH i.below.size) (λe=>oH (q.row.lt B e.symm).1)).trans (i.below.block B aq)⟩
 ·intro a f;rcases L with e|e
  ·exact q.ef a (by rw[<-e];exact f)
  ·rw[e] at f;have av:=q.ob.lt;have ax:=q.zb.lt;simp at f;omega
 ·have ar:∀b∈vs++[(ai kind n (J aw ln lc) (J aao an ac)).toList],enc H w' b=enc H wr b:=λb d=>(bj A j.size _ _ (N _ _ _ (T b d)) H).trans (by
   rcases List.mem_append.1 d with d|d
   ·exact bj (al.below k) k.size _ _ (q.all b d) H
   ·obtain rfl:b=_:=sU d;exact bj (al.below k) k.size _ _ p H)
  rw[List.map_congr_left ar,List.map_append];rfl
def rT (F:Nat) (G:Int->Int->Nat->Nat->Prop) (hw h:Nat) (P:VV->Prop):Prop:=∀{S:Nat->Prop} {w:World} {kind n:Int} {aw:OA} {ln lc:Nat} {aao:OA} {an ac:Nat} {wo:OA} {wn wc:Nat} {ws:VV},P ws->af S G h w (ai kind n (J aw ln lc) (J aao an ac)).toList->ro w (λ_=>True) 4 (J wo wn wc) (O ws) ws.flatten->(∀x∈ws,af S G hw w x)->
 Calls Tryz.prog F #[.agg (ai kind n (J aw ln lc) (J aao an ac)),J wo wn wc] w (cy w S G (h+hw) (bX h w (ws.map (enc hw w)) (ai kind n (J aw ln lc) (J aao an ac)).toList))
theorem kT {ls:List Int} (q:TL w S G H o z c wr kv vs) (hl:ro wr (dS w S o z kv) 1 (J aw ln lc) (O ls) (aC ls)) (k:G kind n (O ls) (O vs)) (l:O ls<=30000) (m:O vs<=30000):
 af (λa=>(S a\/E (U w)<=a)/\a≠z) G (H+1) wr (ai kind n (J aw ln lc) kv).toList/\enc (H+1) wr (ai kind n (J aw ln lc) kv).toList=.agg #[.agg #[vN kind,vN n],.agg (aC ls).toArray,.agg (vs.map (enc H wr)).toArray]:=by
 have f:ro wr (λa=>(S a\/E (U w)<=a)/\a≠z) 1 (J aw ln lc) (O ls) (aC ls):=hl.weaken (λa b _=>⟨b.1.imp (λd=>d.1) (λd=>d),b.2.2.1⟩);have i:ro wr (λa=>(S a\/E (U w)<=a)/\a≠z) 4 kv (O vs) vs.flatten:=ro.bJ q.row (λa b=>⟨.inr (q.row.lt a b).1,(q.ef a b).2⟩);have j:∀e∈vs,af (λa=>(S a\/E (U w)<=a)/\a≠z) G H wr e:=λe p=>af.weaken (λa b _=>⟨b.1.imp (λd=>d.1) (λd=>d),b.2.2.1⟩) _ _ (q.all e p);exact⟨⟨kind,n,_,_,ls,vs,Q,f,i,l,m,k,j⟩,fU f i j⟩
end
theorem jf {G:Int->Int->Nat->Nat->Prop} {hw h:Nat} {P:VV->Prop} (aT:rT 9 G hw h P) (aU:kind≠5) {wo:OA} {wn wc:Nat} {ws:VV} (aV:af S G (h+1) w (ai kind n (J aw ln lc) (J aao an ac)).toList) (aW:ro w (λ_=>True) 4 (J wo wn wc) (O ws) ws.flatten) (aX:∀x∈ws,af S G hw w x) (bp:P ws):
 Calls Tryz.prog 9 #[.agg (ai kind n (J aw ln lc) (J aao an ac)),J wo wn wc] w (cy w S G (h+1+hw) (bX (h+1) w (ws.map (enc hw w)) (ai kind n (J aw ln lc) (J aao an ac)).toList)):=by
 have aY:Hid (rT 9 G hw h P):=aT;clear aT;obtain⟨i,a,ax,ab,aZ,ay,a0,W⟩:=aV.parts;have bW:(kind==5)=false:=sU aU;obtain⟨H,a1⟩:∃H,H=h+hw:=⟨_,Q⟩;have a2:h+1+hw=H+1:=oM;rw[a2];obtain⟨y,ae⟩:∃y,y=ws.map (enc hw w):=⟨_,Q⟩;have bq:Hid (bX (h+1) w y (ai kind n (J aw ln lc) (J aao an ac)).toList=.agg #[.agg #[vN kind,vN n],.agg (aC i).toArray,.agg (a.map (bX h w y)).toArray]):=fK (kW (λA=>by rw[ae,List.length_map] at A;exact aU A.1)) ax ab W;rw[<-ae];obtain rfl:=ab.len
 have br:Hid (∀(w':World),Below (E (U w)) w w'->∀x∈a,∀{k l:Int} {m:OA} {q r:Nat} {s:OA} {al1 t:Nat},x=(ai k l (J m q r) (J s al1 t)).toList->Calls Tryz.prog 9 #[.agg (ai k l (J m q r) (J s al1 t)),J wo wn wc] w' (cy w' (λj=>S j/\j<E (U w)) G H (bX h w y x))):=by
  intro w' d x X k l m q r s al1 t A;subst A;have ag:af (λj=>S j/\j<E (U w)) G h w _:=af.weaken (λj d ah=>⟨d,ah⟩) _ _ (W _ X);have az:=af.frame (al.below d) d.size _ _ ag;have bs:ro w (λ_=>True) 4 (J wo wn wc) (O ws) ws.flatten:=aW;have a3:∀B∈ws,af (λj=>S j/\j<E (U w)) G hw w B:=λB Y=>af.weaken (λj d ah=>⟨d,ah⟩) _ _ (aX B Y);have c:=aY.out bp az (bs.frame (al.below d) d.size) (λB Y=>af.frame (al.below d) d.size _ _ (a3 B Y));rw[List.map_congr_left (λB Y=>bj (al.below d) d.size _ _ (a3 B Y) hw),<-ae,eU (al.below d) d.size y _ _ ag h,<-a1] at c;exact c
 have bt:Hid (∀b,b<O a->∃g,aao=some ⟨g,0,I⟩/\g<E (U w)/\∃k l m q r s al1 t,a[b]? =some (ai k l (J m q r) (J s al1 t)).toList/\∀o,o<4->w.cell? ⟨g,b*4+o,I⟩=(ai k l (J m q r) (J s al1 t))[o]?):=by
  intro b C;obtain⟨g,c,A,hS,aA,aj⟩:=ab.nth (λx X=>af.four _ _ (W x X)) C;obtain⟨rfl,rfl⟩:aao=some ⟨g,0,I⟩/\ac=c:=sU A;obtain⟨k,l,m,q,r,s,al1,t,D⟩:=af.cells _ (W _ (List.getElem_mem C));refine⟨g,Q,aA,k,l,m,q,r,s,al1,t,by rw[gG C,D],λo aB=>?_⟩;rw[aj o aB,D];simp
 have bu:Hid (ro w S 1 (J aw ln lc) (O i) (aC i)):=ax;have aD:Hid (G kind n (O i) (O a)/\O i<=30000/\O a<=30000):=⟨a0,aZ,ay⟩;have bY:O a<=30000:=ay;clear ax ab aZ ay a0 W aV aW aX ae a1 a2 aY;have bv:Hid (∀w',Below (E (U w)) w w'->Calls Tryz.prog 18 #[.agg (ai kind n (J aw ln lc) (J aao (O a) ac))] w' (jr w' kind n i)):=λw' d=>pL (bu.out.frame (al.below d) d.size) aD.out.2.1;have a4:Hid (∀aE aF,Below (E (U w)) w ((w.alloc aE).alloc aF)):=λaE aF=>bV w aE aF;go_enter Tryz.func9,Tryz.ntmps9
 go_wp2_with fail;refine(bv.out _ (a4.out _ _)).mono ?_;rintro A e ⟨F,K,L,rfl,a5,u⟩;have a6:Below (E (U w)) w e:=(a4.out _ _).trans (u.mono (by simp;omega));have ak:aN e (E (U w)) (ai kind n (J aw ln lc) (J aao (O a) ac)):=aN.below ((aN.at w (ai kind n (J aw ln lc) (J aao (O a) ac)) Q).alloc (Ob dF 39)) u (by simp;omega);have bw:aN e (E (U w)+1) dF:=aN.below (aN.at (w.alloc (Ob (ai kind n (J aw ln lc) (J aao (O a) ac)) 39)) dF (ad:=E (U w)+1) sQ) u sQ;have bx:=ak.cell;have bz:=ak.fz;have bA:=ak.lt;have bB:Hid (ro e (λj=>E (U ((w.alloc (Ob (ai kind n (J aw ln lc) (J aao (O a) ac)) 39)).alloc (Ob dF 39)))<=j) 1 (J F K L) (O i) (aC i)):=a5;have bZ:E (U w)+2<=E (U e):=by have:=u.size;simpa using this
 clear a5 u;go_wp2_with fail;go_loopg [7,34] (O a) (λbC _ bD wr=>∃(b:Nat) (kv:Value) (vs:VV),bC=O a - b/\bD=vN b/\b<=O a/\O vs=b/\vs.map (enc H wr)=(a.take b).map (bX h w y)/\ro wr (dS w S (E (U e)) (E (U w)+1) kv) 1 (J F K L) (O i) (aC i)/\TL w S G H (E (U e)) (E (U w)+1) (ai kind n (J F K L) kv) wr kv vs)
 case atStart=>
  refine⟨0,J I 0 0,[],Q,Q,zL _,Q,Q,?_,⟨a6.alloc a6.size _,aN.at _ _ Q,bw.alloc _,oM,oM,oM,World.ownsRow_nil _ _ _ _,λj A=>by simp[Value.ownBlock] at A,λx X=>by cases X⟩⟩;exact(bB.out.weaken (S':=dS w S (E (U e)) (E (U w)+1) (J I 0 0)) (λj d ah=>by simp at d;exact⟨.inr oM,oM,oM,by simp[Value.ownBlock]⟩)).frame (al.alloc _ _ _) sQ
 case round=>
  clear bx bz bA ak;obtain⟨b,kv,vs,a7,rfl,b0,a8,a9,a',f⟩:=hrel;have ba:Hid (ro wr (dS w S (E (U e)) (E (U w)+1) kv) 1 (J F K L) (O i) (aC i)):=a';clear a';have bE:Hid (gk=O a - b):=a7;have bb:Hid (O vs=b):=a8;have aG:Hid (vs.map (enc H wr)=(a.take b).map (bX h w y)):=a9;have bc:O vs<=30000:=oM;clear a7 a8 a9
  obtain⟨M,N,rfl⟩:∃M N,kv=J M (O vs) N:=by
   rcases f.row.2 with⟨D,bF⟩|⟨x,B,zz,D,_⟩
   ·exact⟨I,0,by rw[D,bF]⟩
   ·exact⟨_,_,D⟩
  have ao:=f.ob.cell;have ap:=f.ob.fz;have aq:=f.ob.lt;have bG:=f.zb.cell;have bH:=f.zb.fz;have bI:=f.zb.lt;have b1:E (U e)≠E (U w)+1:=oM;have b2:E (U w)+1≠E (U e):=oM;by_cases C:b<O a
  ·obtain⟨g,rfl,aA,k,l,m,q,r,s,al1,t,bd,aj⟩:=bt.out b C;have bf:(b:Int)<(O a:Int):=oM;have b3:=f.below.size;have b4:g<E (U wr):=oM;have Z:∀o,o<4->wr.cell? ⟨g,b*4+o,I⟩=(ai k l (J m q r) (J s al1 t))[o]? :=λo aB=>(f.below.cell (p:=⟨g,b*4+o,I⟩) aA).trans (aj o aB);have bJ:=Z 0 dC;have bg:=Z 1 dC;have b5:=Z 2 dC;have b6:=Z 3 dC;clear Z aj;simp only[Nat.add_zero] at bJ;have u:Below (E (U wr)) wr (wr.alloc (Ob (ai k l (J m q r) (J s al1 t)) 39)).drew:=((Below.refl _ _).alloc (lR _) _).drew;have aH:=f.step u;have bK:Hid (vs.map (enc H (wr.alloc (Ob (ai k l (J m q r) (J s al1 t)) 39)).drew)=(a.take b).map (bX h w y)):=(f.oq u).trans aG.out;have bh:Hid (a[b]? =some (ai k l (J m q r) (J s al1 t)).toList):=bd;clear bd aG;go_wp2_with fail;go_region_law (first|(refine iz (v:=J M (O vs) N) (xv:=J (aS (E (U aa))) 1 1) (R:=λbL aI=>∃T V,bL=J T (O vs+1) V/\TL w S G H (E (U e)) (E (U w)+1) (ai kind n (J F K L) (J M (O vs) N)) aI (J T (O vs+1) V) (vs++[(ai aJ aK (J aL aM aO) (J aP aQ aR)).toList])/\(vs++[(ai aJ aK (J aL aM aO) (J aP aQ aR)).toList]).map (enc H aI)=vs.map (enc H aa)++[enc H aa (ai aJ aK (J aL aM aO) (J aP aQ aR)).toList]/\(∀v bi bk bl,ro aa (dS w S (E (U e)) (E (U w)+1) (J M (O vs) N)) bl v bi bk->ro aI (dS w S (E (U e)) (E (U w)+1) (J T (O vs+1) V)) bl v bi bk)) rQ rQ rQ rQ (ar.wB bM bc _ Q) ?_;rintro b7 b8 ⟨T,V,rfl,au,bN,bO⟩;clear ao ap aq;have ao:=au.ob.cell;have ap:=au.ob.fz;have aq:=au.ob.lt)|(go_simp;refine(br.out _ (f.below.trans (u.mono f.below.size)) _ (mG bh.out) Q).mono ?_;rintro A aa ⟨aJ,aK,aL,aM,aO,aP,aQ,aR,rfl,bP,bm,av⟩;have ar:=aH.step av;have bQ:Hid (ro aa (dS w S (E (U e)) (E (U w)+1) (J M (O vs) N)) 1 (J F K L) (O i) (aC i)):=(ba.out.frame (al.below u) u.size).frame (al.below av) av.size;have bn:=(aH.oq av).trans bK.out;have bM:=mC aH bP;have bR:Hid _:=bn;have bS:Hid _:=bm;clear bn bm;clear ao ap aq bG bH bI;have ao:=ar.ob.cell;have ap:=ar.ob.fz;have aq:=ar.ob.lt))
   all_goals
    go_wp2_with fail;obtain⟨bT,bU⟩:=au.put 3 (J T (O vs+1) V);go_roundg (O a - (b+1))
    case measure=>rw[bE.out];omega
    case rel=>
     refine⟨b+1,J T (O vs+1) V,_,Q,by go_num,C,by simp[bb.out],?_,(bO _ _ _ _ bQ.out).frame (al.setCell _ ⟨E (U e),3,I⟩ _ (λx=>x.2.1 Q)) sQ,bT⟩;rw[bU,bN,bR.out,bS.out,List.take_add_one,bh.out,List.map_append];rfl
  ·have bf:¬(b:Int)<(O a:Int):=oM;have b9:decide ((b:Int)<(O a:Int))=false:=sU bf;go_wp2_with fail;go_light;have bo:b=O a:=oM;have bg:vs.map (enc H wr)=a.map (bX h w y):=by rw[aG.out,bo,List.take_length]
   obtain⟨ag,az⟩:=kT f ba.out (by have:=aD.out.1;rwa [show O a=O vs by rw[bb.out,bo]] at this) aD.out.2.1 bc;exact kI Tryz.results9 Q Q f.zb oM f.below ag (by rw[az,bg,bq.out])
end
theorem kB {G:Int->Int->Nat->Nat->Prop} {hw h:Nat} {P:VV->Prop} (aZ:rT 9 G hw h P) {S:Nat->Prop} {w:World} {kind n:Int} (bv:kind=5) (a0:¬0<=n) {A:OA} {B C:Nat} {y:OA} {ak D:Nat} {wo:OA} {wn wc:Nat} {ws:VV} (a1:af S G (h+1) w (ai kind n (J A B C) (J y ak D)).toList) (a2:ro w (λ_=>True) 4 (J wo wn wc) (O ws) ws.flatten) (a3:∀x∈ws,af S G hw w x) (bw:P ws):
 Calls Tryz.prog 9 #[.agg (ai kind n (J A B C) (J y ak D)),J wo wn wc] w (cy w S G (h+1+hw) (bX (h+1) w (ws.map (enc hw w)) (ai kind n (J A B C) (J y ak D)).toList)):=by
 have a4:Hid (rT 9 G hw h P):=aZ;clear aZ;obtain⟨i,a,aE,ao,a5,aF,a6,ac⟩:=a1.parts;subst bv;have b4:decide (0<=n)=false:=sU a0;obtain⟨k,a7⟩:∃k,k=h+hw:=⟨_,Q⟩;have a8:h+1+hw=k+1:=oM;rw[a8];obtain⟨F,ap⟩:∃F,F=ws.map (enc hw w):=⟨_,Q⟩;have bx:Hid (bX (h+1) w F (ai 5 n (J A B C) (J y ak D)).toList=.agg #[.agg #[vN 5,vN n],.agg (aC i).toArray,.agg (a.map (bX h w F)).toArray]):=fK (kW (λH=>by rw[ap,List.length_map] at H;exact a0 H.2.1)) aE ao ac;rw[<-ap];obtain rfl:=ao.len
 have bz:Hid (∀(K:World),Below (E (U w)) w K->∀x∈a,∀{l m:Int} {o:OA} {q r:Nat} {s:OA} {al1 t:Nat},x=(ai l m (J o q r) (J s al1 t)).toList->Calls Tryz.prog 9 #[.agg (ai l m (J o q r) (J s al1 t)),J wo wn wc] K (cy K (λj=>S j/\j<E (U w)) G k (bX h w F x))):=by
  intro K d x ae l m o q r s al1 t H;subst H;have aq:af (λj=>S j/\j<E (U w)) G h w _:=af.weaken (λj d ar=>⟨d,ar⟩) _ _ (ac _ ae);have aG:=af.frame (al.below d) d.size _ _ aq;have bA:ro w (λ_=>True) 4 (J wo wn wc) (O ws) ws.flatten:=a2;have a9:∀L∈ws,af (λj=>S j/\j<E (U w)) G hw w L:=λL ag=>af.weaken (λj d ar=>⟨d,ar⟩) _ _ (a3 L ag);have au:=a4.out bw aG (bA.frame (al.below d) d.size) (λL ag=>af.frame (al.below d) d.size _ _ (a9 L ag));rw[List.map_congr_left (λL ag=>bj (al.below d) d.size _ _ (a9 L ag) hw),<-ap,eU (al.below d) d.size F _ _ aq h,<-a7] at au;exact au
 have bB:Hid (∀b,b<O a->∃g,y=some ⟨g,0,I⟩/\g<E (U w)/\∃l m o q r s al1 t,a[b]? =some (ai l m (J o q r) (J s al1 t)).toList/\∀u,u<4->w.cell? ⟨g,b*4+u,I⟩=(ai l m (J o q r) (J s al1 t))[u]?):=by
  intro b M;obtain⟨g,au,H,hS,aH,av⟩:=ao.nth (λx ae=>af.four _ _ (ac x ae)) M;obtain⟨rfl,rfl⟩:y=some ⟨g,0,I⟩/\D=au:=sU H;obtain⟨l,m,o,q,r,s,al1,t,N⟩:=af.cells _ (ac _ (List.getElem_mem M));refine⟨g,Q,aH,l,m,o,q,r,s,al1,t,by rw[gG M,N],λu aI=>?_⟩;rw[av u aI,N];simp
 have bC:Hid (ro w S 1 (J A B C) (O i) (aC i)):=aE;have aJ:Hid (G 5 n (O i) (O a)/\O i<=30000/\O a<=30000):=⟨a6,a5,aF⟩;have b5:O a<=30000:=aF;clear aE ao a5 aF a6 ac a1 a2 a3 ap a7 a8 a4;have bD:Hid (∀K,Below (E (U w)) w K->Calls Tryz.prog 18 #[.agg (ai 5 n (J A B C) (J y (O a) D))] K (jr K 5 n i)):=λK d=>pL (bC.out.frame (al.below d) d.size) aJ.out.2.1;have a':Hid (∀aK aL,Below (E (U w)) w ((w.alloc aK).alloc aL)):=λaK aL=>bV w aK aL;go_enter Tryz.func9,Tryz.ntmps9
 go_wp2_with fail;refine(bD.out _ (a'.out _ _)).mono ?_;rintro H e ⟨T,V,W,rfl,ba,z⟩;have bb:Below (E (U w)) w e:=(a'.out _ _).trans (z.mono (by simp;omega));have aw:aN e (E (U w)) (ai 5 n (J A B C) (J y (O a) D)):=aN.below ((aN.at w (ai 5 n (J A B C) (J y (O a) D)) Q).alloc (Ob dF 39)) z (by simp;omega);have bE:aN e (E (U w)+1) dF:=aN.below (aN.at (w.alloc (Ob (ai 5 n (J A B C) (J y (O a) D)) 39)) dF (ad:=E (U w)+1) sQ) z sQ;have bF:=aw.cell;have bG:=aw.fz;have bH:=aw.lt;have bI:Hid (ro e (λj=>E (U ((w.alloc (Ob (ai 5 n (J A B C) (J y (O a) D)) 39)).alloc (Ob dF 39)))<=j) 1 (J T V W) (O i) (aC i)):=ba;have b6:E (U w)+2<=E (U e):=by have:=z.size;simpa using this
 clear ba z;go_wp2_with fail;go_loopg [7,34] (O a) (λbJ _ bK wr=>∃(b:Nat) (X:Value) (c:VV),bJ=O a - b/\bK=vN b/\b<=O a/\O c=b/\c.map (enc k wr)=(a.take b).map (bX h w F)/\ro wr (dS w S (E (U e)) (E (U w)+1) X) 1 (J T V W) (O i) (aC i)/\TL w S G k (E (U e)) (E (U w)+1) (ai 5 n (J T V W) X) wr X c)
 case atStart=>
  refine⟨0,J I 0 0,[],Q,Q,zL _,Q,Q,?_,⟨bb.alloc bb.size _,aN.at _ _ Q,bE.alloc _,oM,oM,oM,World.ownsRow_nil _ _ _ _,λj H=>by simp[Value.ownBlock] at H,λx ae=>by cases ae⟩⟩;exact(bI.out.weaken (S':=dS w S (E (U e)) (E (U w)+1) (J I 0 0)) (λj d ar=>by simp at d;exact⟨.inr oM,oM,oM,by simp[Value.ownBlock]⟩)).frame (al.alloc _ _ _) sQ
 case round=>
  clear bF bG bH aw;obtain⟨b,X,c,bc,rfl,b7,bd,bf,bg,f⟩:=hrel;have bh:Hid (ro wr (dS w S (E (U e)) (E (U w)+1) X) 1 (J T V W) (O i) (aC i)):=bg;clear bg;have bL:Hid (gk=O a - b):=bc;have bi:Hid (O c=b):=bd;have aM:Hid (c.map (enc k wr)=(a.take b).map (bX h w F)):=bf;have bk:O c<=30000:=oM;clear bc bd bf
  obtain⟨Y,Z,rfl⟩:∃Y Z,X=J Y (O c) Z:=by
   rcases f.row.2 with⟨N,bM⟩|⟨x,L,zz,N,_⟩
   ·exact⟨I,0,by rw[N,bM]⟩
   ·exact⟨_,_,N⟩
  have ax:=f.ob.cell;have ay:=f.ob.fz;have az:=f.ob.lt;have bN:=f.zb.cell;have bO:=f.zb.fz;have bP:=f.zb.lt;have b8:E (U e)≠E (U w)+1:=oM;have b9:E (U w)+1≠E (U e):=oM;by_cases M:b<O a
  ·obtain⟨g,rfl,aH,l,m,o,q,r,s,al1,t,bl,av⟩:=bB.out b M;have bm:(b:Int)<(O a:Int):=oM;have b':=f.below.size;have ca:g<E (U wr):=oM;have ah:∀u,u<4->wr.cell? ⟨g,b*4+u,I⟩=(ai l m (J o q r) (J s al1 t))[u]? :=λu aI=>(f.below.cell (p:=⟨g,b*4+u,I⟩) aH).trans (av u aI);have bQ:=ah 0 dC;have bn:=ah 1 dC;have cb:=ah 2 dC;have cc:=ah 3 dC;clear ah av;simp only[Nat.add_zero] at bQ;have z:Below (E (U wr)) wr (wr.alloc (Ob (ai l m (J o q r) (J s al1 t)) 39)).drew:=((Below.refl _ _).alloc (lR _) _).drew;have aO:=f.step z;have bR:Hid (c.map (enc k (wr.alloc (Ob (ai l m (J o q r) (J s al1 t)) 39)).drew)=(a.take b).map (bX h w F)):=(f.oq z).trans aM.out;have bo:Hid (a[b]? =some (ai l m (J o q r) (J s al1 t)).toList):=bl;clear bl aM;go_wp2_with fail;go_region_law (first|(refine iz (v:=J Y (O c) Z) (xv:=J (aS (E (U aj))) 1 1) (R:=λbS aP=>∃aa ab,bS=J aa (O c+1) ab/\TL w S G k (E (U e)) (E (U w)+1) (ai 5 n (J T V W) (J Y (O c) Z)) aP (J aa (O c+1) ab) (c++[(ai aQ aR (J aT aU aV) (J aW aX aY)).toList])/\(c++[(ai aQ aR (J aT aU aV) (J aW aX aY)).toList]).map (enc k aP)=c.map (enc k aj)++[enc k aj (ai aQ aR (J aT aU aV) (J aW aX aY)).toList]/\(∀v bp bq br,ro aj (dS w S (E (U e)) (E (U w)+1) (J Y (O c) Z)) br v bp bq->ro aP (dS w S (E (U e)) (E (U w)+1) (J aa (O c+1) ab)) br v bp bq)) rQ rQ rQ rQ (aA.wB bT bk _ Q) ?_;rintro cd ce ⟨aa,ab,rfl,aB,bU,bW⟩;clear ax ay az;have ax:=aB.ob.cell;have ay:=aB.ob.fz;have az:=aB.ob.lt)|(go_simp;refine(bz.out _ (f.below.trans (z.mono f.below.size)) _ (mG bo.out) Q).mono ?_;rintro H aj ⟨aQ,aR,aT,aU,aV,aW,aX,aY,rfl,bY,bs,aD⟩;have aA:=aO.step aD;have bZ:Hid (ro aj (dS w S (E (U e)) (E (U w)+1) (J Y (O c) Z)) 1 (J T V W) (O i) (aC i)):=(bh.out.frame (al.below z) z.size).frame (al.below aD) aD.size;have bt:=(aO.oq aD).trans bR.out;have bT:=mC aO bY;have b0:Hid _:=bt;have b1:Hid _:=bs;clear bt bs;clear ax ay az bN bO bP;have ax:=aA.ob.cell;have ay:=aA.ob.fz;have az:=aA.ob.lt))
   all_goals
    go_wp2_with fail;obtain⟨b2,b3⟩:=aB.put 3 (J aa (O c+1) ab);go_roundg (O a - (b+1))
    case measure=>rw[bL.out];omega
    case rel=>
     refine⟨b+1,J aa (O c+1) ab,_,Q,by go_num,M,by simp[bi.out],?_,(bW _ _ _ _ bZ.out).frame (al.setCell _ ⟨E (U e),3,I⟩ _ (λx=>x.2.1 Q)) sQ,b2⟩;rw[b3,bU,b0.out,b1.out,List.take_add_one,bo.out,List.map_append];rfl
  ·have bm:¬(b:Int)<(O a:Int):=oM;have cf:decide ((b:Int)<(O a:Int))=false:=sU bm;go_wp2_with fail;go_light;have bu:b=O a:=oM;have bn:c.map (enc k wr)=a.map (bX h w F):=by rw[aM.out,bu,List.take_length]
   obtain⟨aq,aG⟩:=kT f bh.out (by have:=aJ.out.1;rwa [show O a=O c by rw[bi.out,bu]] at this) aJ.out.2.1 bk;exact kI Tryz.results9 Q Q f.zb oM f.below aq (by rw[aG,bn,bx.out])
theorem jJ {G:Int->Int->Nat->Nat->Prop} {hw h:Nat} {P:VV->Prop} (a0:rT 9 G hw h P) {S:Nat->Prop} {w:World} {kind n:Int} (bv:kind=5) (b5:0<=n) {A:OA} {B C:Nat} {y:OA} {ak D:Nat} {wo:OA} {wn wc:Nat} {ws:VV} (a1:af S G (h+1) w (ai kind n (J A B C) (J y ak D)).toList) (aE:ro w (λ_=>True) 4 (J wo wn wc) (O ws) ws.flatten) (a2:∀x∈ws,af S G hw w x) (bw:P ws) (a3:¬n<(O ws:Int)):
 Calls Tryz.prog 9 #[.agg (ai kind n (J A B C) (J y ak D)),J wo wn wc] w (cy w S G (h+1+hw) (bX (h+1) w (ws.map (enc hw w)) (ai kind n (J A B C) (J y ak D)).toList)):=by
 have a4:Hid (rT 9 G hw h P):=a0;clear a0;obtain⟨i,a,aF,ao,a5,aG,a6,ac⟩:=a1.parts;subst bv;have bx:wn=O ws:=aE.len;subst bx;have b6:decide (n<(O ws:Int))=false:=sU a3;obtain⟨k,a7⟩:∃k,k=h+hw:=⟨_,Q⟩;have a8:h+1+hw=k+1:=oM;rw[a8];obtain⟨F,ap⟩:∃F,F=ws.map (enc hw w):=⟨_,Q⟩;have bz:Hid (bX (h+1) w F (ai 5 n (J A B C) (J y ak D)).toList=.agg #[.agg #[vN 5,vN n],.agg (aC i).toArray,.agg (a.map (bX h w F)).toArray]):=fK (kW (λH=>by rw[ap,List.length_map] at H;exact a3 H.2.2)) aF ao ac;rw[<-ap];obtain rfl:=ao.len
 have bA:Hid (∀(K:World),Below (E (U w)) w K->∀x∈a,∀{l m:Int} {o:OA} {q r:Nat} {s:OA} {al1 t:Nat},x=(ai l m (J o q r) (J s al1 t)).toList->Calls Tryz.prog 9 #[.agg (ai l m (J o q r) (J s al1 t)),J wo (O ws) wc] K (cy K (λj=>S j/\j<E (U w)) G k (bX h w F x))):=by
  intro K d x ae l m o q r s al1 t H;subst H;have aq:af (λj=>S j/\j<E (U w)) G h w _:=af.weaken (λj d ar=>⟨d,ar⟩) _ _ (ac _ ae);have aH:=af.frame (al.below d) d.size _ _ aq;have bB:ro w (λ_=>True) 4 (J wo (O ws) wc) (O ws) ws.flatten:=aE;have a9:∀L∈ws,af (λj=>S j/\j<E (U w)) G hw w L:=λL ag=>af.weaken (λj d ar=>⟨d,ar⟩) _ _ (a2 L ag);have au:=a4.out bw aH (bB.frame (al.below d) d.size) (λL ag=>af.frame (al.below d) d.size _ _ (a9 L ag));rw[List.map_congr_left (λL ag=>bj (al.below d) d.size _ _ (a9 L ag) hw),<-ap,eU (al.below d) d.size F _ _ aq h,<-a7] at au;exact au
 have bC:Hid (∀b,b<O a->∃g,y=some ⟨g,0,I⟩/\g<E (U w)/\∃l m o q r s al1 t,a[b]? =some (ai l m (J o q r) (J s al1 t)).toList/\∀u,u<4->w.cell? ⟨g,b*4+u,I⟩=(ai l m (J o q r) (J s al1 t))[u]?):=by
  intro b M;obtain⟨g,au,H,hS,aI,av⟩:=ao.nth (λx ae=>af.four _ _ (ac x ae)) M;obtain⟨rfl,rfl⟩:y=some ⟨g,0,I⟩/\D=au:=sU H;obtain⟨l,m,o,q,r,s,al1,t,N⟩:=af.cells _ (ac _ (List.getElem_mem M));refine⟨g,Q,aI,l,m,o,q,r,s,al1,t,by rw[gG M,N],λu aJ=>?_⟩;rw[av u aJ,N];simp
 have bD:Hid (ro w S 1 (J A B C) (O i) (aC i)):=aF;have aK:Hid (G 5 n (O i) (O a)/\O i<=30000/\O a<=30000):=⟨a6,a5,aG⟩;have b7:O a<=30000:=aG;clear aF ao a5 aG a6 ac a1 aE a2 ap a7 a8 a4;have bE:Hid (∀K,Below (E (U w)) w K->Calls Tryz.prog 18 #[.agg (ai 5 n (J A B C) (J y (O a) D))] K (jr K 5 n i)):=λK d=>pL (bD.out.frame (al.below d) d.size) aK.out.2.1;have a':Hid (∀aL aM,Below (E (U w)) w ((w.alloc aL).alloc aM)):=λaL aM=>bV w aL aM;go_enter Tryz.func9,Tryz.ntmps9
 go_wp2_with fail;refine(bE.out _ (a'.out _ _)).mono ?_;rintro H e ⟨T,V,W,rfl,ba,z⟩;have bb:Below (E (U w)) w e:=(a'.out _ _).trans (z.mono (by simp;omega));have aw:aN e (E (U w)) (ai 5 n (J A B C) (J y (O a) D)):=aN.below ((aN.at w (ai 5 n (J A B C) (J y (O a) D)) Q).alloc (Ob dF 39)) z (by simp;omega);have bF:aN e (E (U w)+1) dF:=aN.below (aN.at (w.alloc (Ob (ai 5 n (J A B C) (J y (O a) D)) 39)) dF (ad:=E (U w)+1) sQ) z sQ;have bG:=aw.cell;have bH:=aw.fz;have bI:=aw.lt;have bJ:Hid (ro e (λj=>E (U ((w.alloc (Ob (ai 5 n (J A B C) (J y (O a) D)) 39)).alloc (Ob dF 39)))<=j) 1 (J T V W) (O i) (aC i)):=ba;have b8:E (U w)+2<=E (U e):=by have:=z.size;simpa using this
 clear ba z;go_wp2_with fail;go_loopg [7,34] (O a) (λbK _ bL wr=>∃(b:Nat) (X:Value) (c:VV),bK=O a - b/\bL=vN b/\b<=O a/\O c=b/\c.map (enc k wr)=(a.take b).map (bX h w F)/\ro wr (dS w S (E (U e)) (E (U w)+1) X) 1 (J T V W) (O i) (aC i)/\TL w S G k (E (U e)) (E (U w)+1) (ai 5 n (J T V W) X) wr X c)
 case atStart=>
  refine⟨0,J I 0 0,[],Q,Q,zL _,Q,Q,?_,⟨bb.alloc bb.size _,aN.at _ _ Q,bF.alloc _,oM,oM,oM,World.ownsRow_nil _ _ _ _,λj H=>by simp[Value.ownBlock] at H,λx ae=>by cases ae⟩⟩;exact(bJ.out.weaken (S':=dS w S (E (U e)) (E (U w)+1) (J I 0 0)) (λj d ar=>by simp at d;exact⟨.inr oM,oM,oM,by simp[Value.ownBlock]⟩)).frame (al.alloc _ _ _) sQ
 case round=>
  clear bG bH bI aw;obtain⟨b,X,c,bc,rfl,b9,bd,bf,bg,f⟩:=hrel;have bh:Hid (ro wr (dS w S (E (U e)) (E (U w)+1) X) 1 (J T V W) (O i) (aC i)):=bg;clear bg;have bM:Hid (gk=O a - b):=bc;have bi:Hid (O c=b):=bd;have aO:Hid (c.map (enc k wr)=(a.take b).map (bX h w F)):=bf;have bk:O c<=30000:=oM;clear bc bd bf
  obtain⟨Y,Z,rfl⟩:∃Y Z,X=J Y (O c) Z:=by
   rcases f.row.2 with⟨N,bN⟩|⟨x,L,zz,N,_⟩
   ·exact⟨I,0,by rw[N,bN]⟩
   ·exact⟨_,_,N⟩
  have ax:=f.ob.cell;have ay:=f.ob.fz;have az:=f.ob.lt;have bO:=f.zb.cell;have bP:=f.zb.fz;have bQ:=f.zb.lt;have b':E (U e)≠E (U w)+1:=oM;have ca:E (U w)+1≠E (U e):=oM;by_cases M:b<O a
  ·obtain⟨g,rfl,aI,l,m,o,q,r,s,al1,t,bl,av⟩:=bC.out b M;have bm:(b:Int)<(O a:Int):=oM;have cb:=f.below.size;have cc:g<E (U wr):=oM;have ah:∀u,u<4->wr.cell? ⟨g,b*4+u,I⟩=(ai l m (J o q r) (J s al1 t))[u]? :=λu aJ=>(f.below.cell (p:=⟨g,b*4+u,I⟩) aI).trans (av u aJ);have bR:=ah 0 dC;have bn:=ah 1 dC;have cd:=ah 2 dC;have ce:=ah 3 dC;clear ah av;simp only[Nat.add_zero] at bR;have z:Below (E (U wr)) wr (wr.alloc (Ob (ai l m (J o q r) (J s al1 t)) 39)).drew:=((Below.refl _ _).alloc (lR _) _).drew;have aP:=f.step z;have bS:Hid (c.map (enc k (wr.alloc (Ob (ai l m (J o q r) (J s al1 t)) 39)).drew)=(a.take b).map (bX h w F)):=(f.oq z).trans aO.out;have bo:Hid (a[b]? =some (ai l m (J o q r) (J s al1 t)).toList):=bl;clear bl aO;go_wp2_with fail;go_region_law (first|(refine iz (v:=J Y (O c) Z) (xv:=J (aS (E (U aj))) 1 1) (R:=λbT aQ=>∃aa ab,bT=J aa (O c+1) ab/\TL w S G k (E (U e)) (E (U w)+1) (ai 5 n (J T V W) (J Y (O c) Z)) aQ (J aa (O c+1) ab) (c++[(ai aR aT (J aU aV aW) (J aX aY aZ)).toList])/\(c++[(ai aR aT (J aU aV aW) (J aX aY aZ)).toList]).map (enc k aQ)=c.map (enc k aj)++[enc k aj (ai aR aT (J aU aV aW) (J aX aY aZ)).toList]/\(∀v bp bq br,ro aj (dS w S (E (U e)) (E (U w)+1) (J Y (O c) Z)) br v bp bq->ro aQ (dS w S (E (U e)) (E (U w)+1) (J aa (O c+1) ab)) br v bp bq)) rQ rQ rQ rQ (aA.wB bU bk _ Q) ?_;rintro cf cg ⟨aa,ab,rfl,aB,bW,bY⟩;clear ax ay az;have ax:=aB.ob.cell;have ay:=aB.ob.fz;have az:=aB.ob.lt)|(go_simp;refine(bA.out _ (f.below.trans (z.mono f.below.size)) _ (mG bo.out) Q).mono ?_;rintro H aj ⟨aR,aT,aU,aV,aW,aX,aY,aZ,rfl,bZ,bs,aD⟩;have aA:=aP.step aD;have b0:Hid (ro aj (dS w S (E (U e)) (E (U w)+1) (J Y (O c) Z)) 1 (J T V W) (O i) (aC i)):=(bh.out.frame (al.below z) z.size).frame (al.below aD) aD.size;have bt:=(aP.oq aD).trans bS.out;have bU:=mC aP bZ;have b1:Hid _:=bt;have b2:Hid _:=bs;clear bt bs;clear ax ay az bO bP bQ;have ax:=aA.ob.cell;have ay:=aA.ob.fz;have az:=aA.ob.lt))
   all_goals
    go_wp2_with fail;obtain⟨b3,b4⟩:=aB.put 3 (J aa (O c+1) ab);go_roundg (O a - (b+1))
    case measure=>rw[bM.out];omega
    case rel=>
     refine⟨b+1,J aa (O c+1) ab,_,Q,by go_num,M,by simp[bi.out],?_,(bY _ _ _ _ b0.out).frame (al.setCell _ ⟨E (U e),3,I⟩ _ (λx=>x.2.1 Q)) sQ,b3⟩;rw[b4,bW,b1.out,b2.out,List.take_add_one,bo.out,List.map_append];rfl
  ·have bm:¬(b:Int)<(O a:Int):=oM;have ch:decide ((b:Int)<(O a:Int))=false:=sU bm;go_wp2_with fail;go_light;have bu:b=O a:=oM;have bn:c.map (enc k wr)=a.map (bX h w F):=by rw[aO.out,bu,List.take_length]
   obtain⟨aq,aH⟩:=kT f bh.out (by have:=aK.out.1;rwa [show O a=O c by rw[bi.out,bu]] at this) aK.out.2.1 bk;exact kI Tryz.results9 Q Q f.zb oM f.below aq (by rw[aH,bn,bz.out])
section
variable{kind n:Int} {ac an h hw lc ln:Nat} {S:Nat->Prop} {aao aw:OA} {w:World}
theorem ku {G:Int->Int->Nat->Nat->Prop} (b:rT 9 G 0 h (λws=>ws=[])):rT 9 G 0 (h+1) (λws=>ws=[]):=by
 intro S w kind n aw ln lc aao an ac j k wc ws a c d e;by_cases f:kind=5
 ·by_cases i:0<=n
  ·exact jJ b f i c d e a (by rw[a];simp;omega)
  ·exact kB b f i c d e a
 ·exact jf b f c d e a
theorem kA {G:Int->Int->Nat->Nat->Prop}:(h:Nat)->rT 9 G 0 h (λa=>a=[])
 |0=>λ_ b _ _=>absurd b (λc=>c)
 |h+1=>ku (kA h)
theorem qm {e:Func} {r:Nat} (j:e.results=#[.cell r 39]) {c:Act} (k:c.defers=[]) {a W:World} {z:Nat} (l:c.tmps.getD r undef=.pointer (aS z)) (m:aN W z dF) (o:E (U w)<=z) (u:z<E (U a)) (d:Below (E (U w)) w a) {G:Int->Int->Nat->Nat->Prop} {H:Nat} {f:Value}
 (p:af (λb=>(S b/\b<E (U w))\/E (U a)<=b) G H W (ai kind n (J aw ln lc) (J aao an ac)).toList) (q:enc H W (ai kind n (J aw ln lc) (J aao an ac)).toList=f) (s:Below (E (U a)) a W):
  bodyPost Tryz.prog e (cy w S G H f) .ret c (bQ W z (vN kind) (vN n) (J aw ln lc) (J aao an ac)):=
  kI j k l m o (d.trans (s.mono d.size)) (af.weaken (λb t _=>by have:=d.size;rcases t with i|i;exact⟨.inl i.1,oM⟩;exact⟨.inr oM,oM⟩) _ _ p) q
theorem ui {G:Int->Int->Nat->Nat->Prop} (i:af S G h w (ai kind n (J aw ln lc) (J aao an ac)).toList):
 Calls Tryz.prog 17 #[.agg (ai kind n (J aw ln lc) (J aao an ac))] w (cy w S G h (enc h w (ai kind n (J aw ln lc) (J aao an ac)).toList)):=by
 have q:Hid (∀c,Below (E (U w)) w c->Calls Tryz.prog 9 #[.agg (ai kind n (J aw ln lc) (J aao an ac)),J I 0 0] c (cy c (λa=>S a/\a<E (U w)) G h (enc h w (ai kind n (J aw ln lc) (J aao an ac)).toList))):=by
  intro c b;have j:af (λa=>S a/\a<E (U w)) G h w _:=af.weaken (λa b r=>⟨b,r⟩) _ _ i;have k:=af.frame (al.below b) b.size _ _ j;have l:=kA h (ws:=[]) Q k (wo:=I) (wn:=0) (wc:=0) ⟨I,0,Q,Q,λm=>absurd m sQ⟩ (λx s=>by cases s);rw[List.map_nil,nF _ _ k h,bj (al.below b) b.size _ _ j h,Nat.add_zero] at l;exact l
 have o:Hid (∀e f,Below (E (U w)) w ((w.alloc e).alloc f)):=λe f=>bV w e f;clear i;go_enter Tryz.func17,Tryz.ntmps17
 go_wp2_with fail;refine(q.out _ (o.out _ _)).mono ?_;rintro m t ⟨y,z,A,B,C,D,F,H,rfl,u,v,p⟩;have d:aN t (E (U w)+1) dF:=aN.below (aN.at (w.alloc (Ob (ai kind n (J aw ln lc) (J aao an ac)) 39)) dF (ad:=E (U w)+1) sQ) p sQ;have K:=d.cell;have L:=d.fz;have M:=d.lt;go_wp2_with fail;go_light;exact qm Tryz.results17 Q Q d oM sQ (o.out _ _) u v p
theorem qU {G:Int->Int->Nat->Nat->Prop} {wo:OA} {wn wc:Nat} {ws:VV} (k:ro w (λ_=>True) 4 (J wo wn wc) (O ws) ws.flatten) (e:∀x∈ws,af S G hw w x) (aa:0<=n/\n<(O ws:Int)):
 Calls Tryz.prog 9 #[.agg (ai 5 n (J aw ln lc) (J aao an ac)),J wo wn wc] w (cy w S G (h+1+hw) (bX (h+1) w (ws.map (enc hw w)) (ai 5 n (J aw ln lc) (J aao an ac)).toList)):=by
 obtain rfl:=k.len;obtain⟨a,rfl⟩:∃a:Nat,n=(a:Int):=⟨n.toNat,oM⟩;have l:a<O ws:=oM;obtain⟨g,f,m,hS,ab,c⟩:=k.nth (λx L=>af.four _ _ (e x L)) l;obtain⟨rfl,rfl⟩:wo=some ⟨g,0,I⟩/\wc=f:=sU m;have o:ws[a]∈ws:=List.getElem_mem l;obtain⟨u,v,y,z,A,B,al1,C,p⟩:=af.cells _ (e _ o);have q:=e _ o;rw[p] at c q;have D:=c 0 dC;have M:=c 1 dC;have N:=c 2 dC;have P:=c 3 dC;simp only[Nat.add_zero] at D;simp at D M N P;have R:(a:Int)<(O ws:Int):=oM
 have F:Hid (bX (h+1) w (ws.map (enc hw w)) (ai 5 (a:Int) (J aw ln lc) (J aao an ac)).toList=enc hw w (ai u v (J y z A) (J B al1 C)).toList):=by
  show bX (h+1) w (ws.map (enc hw w)) (ai 5 (a:Int) (J aw ln lc) (J aao an ac)).toList=_;rw[jY (ql Q oM (sU R))];show((ws.map (enc hw w))[((a:Nat):Int).toNat]?).getD undef=_;rw[Int.toNat_natCast,List.getElem?_map,gG l,p];rfl
 have T:Hid (∀i,Below (E (U w)) w i->Calls Tryz.prog 17 #[.agg (ai u v (J y z A) (J B al1 C))] i (cy i (λd=>S d/\d<E (U w)) G (h+1+hw) (bX (h+1) w (ws.map (enc hw w)) (ai 5 (a:Int) (J aw ln lc) (J aao an ac)).toList))):=by
  intro i b;have r:af (λd=>S d/\d<E (U w)) G hw w _:=af.weaken (λd b V=>⟨b,V⟩) _ _ q;have W:=af.le (af.frame (al.below b) b.size _ _ r) (h+1+hw) oM;have f:=ui W;rw[lh _ _ (af.frame (al.below b) b.size _ _ r) (h+1+hw) oM,bj (al.below b) b.size _ _ r hw,<-F.out] at f;exact f
 have H:Hid (∀s t,Below (E (U w)) w ((w.alloc s).alloc t)):=λs t=>bV w s t;clear q p o c m k e F;go_enter Tryz.func9,Tryz.ntmps9
 go_wp2_with fail;refine(T.out _ (H.out _ _)).mono ?_;rintro m X ⟨ae,ag,ah,aj,ak,ao,ap,aq,rfl,Y,Z,K⟩;have j:aN X (E (U w)+1) dF:=aN.below (aN.at (w.alloc (Ob (ai 5 (a:Int) (J aw ln lc) (J aao an ac)) 39)) dF (ad:=E (U w)+1) sQ) K sQ;have ar:=j.cell;have au:=j.fz;have av:=j.lt;go_wp2_with fail;go_light;exact qm Tryz.results9 Q Q j oM sQ (H.out _ _) Y Z K
theorem nw {G:Int->Int->Nat->Nat->Prop} (d:rT 9 G hw h (λ_=>True)):rT 9 G hw (h+1) (λ_=>True):=by
 intro S w kind n aw ln lc aao an ac k l wc j _ e a b;by_cases c:kind=5
 ·by_cases f:0<=n
  ·by_cases i:n<(O j:Int)
   ·subst c;exact qU a b ⟨f,i⟩
   ·exact jJ d c f e a b trivial i
  ·exact kB d c f e a b trivial
 ·exact jf d c e a b trivial
theorem sB {G:Int->Int->Nat->Nat->Prop}:(h:Nat)->rT 9 G hw h (λ_=>True)
 |0=>λ_ a _ _=>absurd a (λb=>b)
 |h+1=>nw (sB h)
end
end Go.Proofs.YtcnnibahjmekdaaGreat
