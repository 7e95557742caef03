import Derived.Test.YtdghkacbpebcoaaGreatS32
namespace Go.Proofs.YtdghkacbpebcoaaGreat
open Go.RowKit
open Value renaming slice→J
open List renaming length→O
open Option renaming none→I
open World renaming heap→U
open _root_.Array renaming size→E
open Obj renaming cells→Ob
set_option linter.all false
set_option maxRecDepth 100000
set_option maxHeartbeats 0
theorem rT {h:Nat} (ab:bV h) {w:World} {c:Nat} {K:CK} {M:MK} {T:Nat} {u:Nat->Prop} {P t B0:Nat} {how next one fa:Int} (f:Cx w c K M T u P t) (z:bJ w c K how next one 0 fa) (aD:B0<=c) {pos n m:Int} {name:ByteArray} {ko:OA} {kl kc:Nat} (ac:isNode (λb=>b<B0) True (h+1) w (ae 17 pos n m name (J ko kl kc)).toList):
 Calls Tryz.prog 44 #[.pointer (some ⟨c,0,I⟩),.agg (ae 17 pos n m name (J ko kl kc))] w (bE w c K how one u (O M.ds) (aG (h+1) w (ae 17 pos n m name (J ko kl kc)).toList*t)):=by
 have aE:Hid (bV h):=@ab;clear ab;obtain⟨a,rfl,R,ad,af,ag,a0,aF,-,-⟩:=ac.kids;obtain⟨A,S⟩:∃A,A=aG (h+1) w (ae 17 pos n m name (J ko (O a) kc)).toList*t:=⟨_,Q⟩;rw[<-S];have ah:A=(1+(a.map (aG h w)).sum)*t:=by rw[S,ag]
 have B:=z.lt;have a1:=f.z1;have y:Hid (Cx w c K M T (λb=>u b/\b<E (U w)) P t/\bJ w c K how next one 0 fa):=⟨f.low,z⟩;obtain⟨V,ai,aj⟩:=dW w (Ob (ae 17 pos n m name (J ko (O a) kc)) 48) (Ob eJ 41);have p:PM w c K how one (ae 17 pos n m name (J ko (O a) kc)) ((w.alloc (Ob (ae 17 pos n m name (J ko (O a) kc)) 48)).alloc (Ob eJ 41)) next 0 fa:=⟨Kp.al V,z.below V,B,ai,aj⟩;have W:Hid (∀{i:World},Kp (E (U w)) c w i->aq (λb=>b<B0) w i):=λ{i} aH b q aI=>aH.block b aI oM;have aJ:Hid (∀b,(u b/\b<E (U w))->b≠c/\b<E (U w)):=λb q=>⟨f.s0 b q.1,q.2⟩;have C:Hid (cU B0 w (J ko (O a) kc) a/\∀j∈a,isNode (λb=>b<B0) True h w j/\cx (az j)):=⟨R,λj f=>⟨ad j f,(af.zB Q).2 _ (List.mem_map_of_mem f)⟩⟩;have aK:Hid (1+(a.map (aG h w)).sum*t<=A):=by show _<=_;rw[ah,Nat.add_mul,Nat.one_mul];omega
 have aL:=R.len.2;clear S ah R ad af ag aF ac;clear V ai aj f z;go_enter Tryz.func44,Tryz.ntmps44
 have D:=λe=>cell_of_row _ _ e _ 48 (0,0) p.nb;have F:=(gE p.nb).1;have G:=p.zb.cell;have H:=p.zb.fz;have L:=p.zb.lt;go_upto_region 15 with(go_at_call 64;refine(iQ p.c).mono ?_;rintro ak X ⟨rfl,rfl⟩)
 go_cut [6] (λaM aN=>∃(Y al:Nat) (ao next aO fa:Int),aM=.pointer (aS Y)/\TM w c K how one (ae 17 pos n m name (J ko (O a) kc)) aN next aO fa Y 8 n al ao)
 case first=>
  have v:Hid (∀{i:World} {l b o:Int},PM w c K how one (ae 17 pos n m name (J ko (O a) kc)) i l b o->(∃l b o,PM w c K how one (ae 17 pos n m name (J ko (O a) kc)) i l b o)/\∀e,i.cell? ⟨E (U w),e,I⟩=(ae 17 pos n m name (J ko (O a) kc))[e]?):=λ{i l b o} d=>⟨⟨l,b,o,d⟩,λe=>cell_of_row i _ e _ 48 (0,0) d.nb⟩
  ·skip
   go_region_held3 (λi=>(∃l b o,PM w c K how one (ae 17 pos n m name (J ko (O a) kc)) i l b o)/\∀e,i.cell? ⟨E (U w),e,I⟩=(ae 17 pos n m name (J ko (O a) kc))[e]?)
    (first|assumption|exact v.out (p.below ((Below.refl _ _).drew))|exact v.out (p.below ((al1 _ _).1.drew))|exact v.out r|exact v.out (r.below (al1 _ _).1)|exact v.out (r.below (dW _ _ _).1)|exact v.out ((r.uK ap _ _ _ _).below (al1 _ _).1))
    (first
     |(go_at_call 66;obtain⟨a2,a3,a4,Z⟩:=(‹(∃l b o,PM w c K how one (ae 17 pos n m name (J ko (O a) kc)) _ l b o)/\_›).1;refine(fE Z.c (y.out.1.step y.out.2 Z.k).lv y.out.1.lf _ _).mono ?_;rintro ak aP ⟨x,a5,a6,a7,rfl,aQ,ar,-⟩;have r:=Z.step ar aQ;have a8:=r.zb.lt;first|(have N:bA aP (E (U w)+1+1) eJ:=(ar.block (E (U w)+1+1) sQ oM).trans (mZ w _ _ _).2.2.2;have ap:E (U w)+1<E (U w)+1+1:=oM;have a9:=N.cell;have a':=N.fz;have ba:=N.lt)|skip))
   all_goals
    go_wp2_with fail;go_meet
    first
     |exact⟨_,_,x,_,_,_,Q,TM.o1 r 8 n x⟩
     |exact⟨_,_,x,_,_,_,Q,TM.o2 r 8 n x⟩
     |exact⟨_,_,x,_,_,_,Q,TM.o3 r N ap 8 n x⟩
 case rest=>
  clear D F G H L;obtain⟨Y,al,ao,bb,bc,bd,rfl,d⟩:=hcut;have s:=d.kE 4;have bf:=d.ne;have bg:=d.wV;have bh:=d.xG;have aR:Hid (Cx (wc.setCell ⟨c,9,I⟩ (vN 4)) c K M T (λb=>u b/\b<E (U w)) P t):=y.out.1.step y.out.2 s.pm.k;have aU:Hid (cU B0 (wc.setCell ⟨c,9,I⟩ (vN 4)) (J ko (O a) kc) a):=C.out.1.frame (W.out s.pm.k) oM;have aV:Hid (∀j∈a,isNode (λb=>b<B0) True h (wc.setCell ⟨c,9,I⟩ (vN 4)) j/\cx (az j)):=λj f=>⟨isNode.frame (W.out s.pm.k) _ _ (C.out.2 j f).1,(C.out.2 j f).2⟩;have aW:Hid ((a.map (aG h (wc.setCell ⟨c,9,I⟩ (.int .i64 4)))).sum=(a.map (aG h w)).sum):=congrArg List.sum (List.map_congr_left (λj f=>aT (W.out s.pm.k) _ _ (C.out.2 j f).1 h));have au:=d.t.cell;have av:=d.t.fz;have aw:=d.t.lt;have D:=λe=>cell_of_row wc _ e _ 48 (0,0) d.pm.nb;have F:E (U w)<E (U wc):=(gE d.pm.nb).1;have G:=d.pm.zb.cell;have H:=d.pm.zb.fz;have L:=d.pm.zb.lt;have ax:=d.pm.c.cell;have ay:=d.pm.c.fz;have B:=d.pm.c.lt;go_wp2_with fail;refine(fK @aE.out aR.out s.pm.c aD aU.out aV.out).mono ?_;rintro ak X ⟨bi,bj,aX,bk,bl,bm,rfl,aA,aB,aC,aa⟩;rw[aW.out] at aa;have k:=s.step aC aB;have aY:O aX<=20000:=by rw[aA];exact aL
  have aZ:=aa.mono (S1:=λb=>u b/\b<E (U w)) (λb q=>q.1) (λb q=>⟨(aJ.out b q).1,oI q.2 s.pm.k.size⟩);clear au av aw D F G H L ax ay B aa aA;have au:=k.t.cell;have av:=k.t.fz;have aw:=k.t.lt;have D:=λe=>cell_of_row X _ e _ 48 (0,0) k.pm.nb;have F:E (U w)<E (U X):=(gE k.pm.nb).1;have G:=k.pm.zb.cell;have H:=k.pm.zb.fz;have L:=k.pm.zb.lt;have ax:=k.pm.c.cell;have ay:=k.pm.c.fz;have B:=k.pm.c.lt;go_wp2_with fail;go_light;exact xY s aC aB aY aZ aK.out _ Q Q
end Go.Proofs.YtdghkacbpebcoaaGreat
