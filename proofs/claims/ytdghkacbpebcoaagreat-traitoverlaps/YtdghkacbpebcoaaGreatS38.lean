import Derived.Test.YtdghkacbpebcoaaGreatS34
namespace Go.Proofs.YtdghkacbpebcoaaGreat
open Go.RowKit
open Value renaming slice→J
open List renaming length→O
open Option renaming none→I
open World renaming heap→U
open _root_.Array renaming size→E
open Obj renaming cells→Ob
set_option linter.all false
set_option maxRecDepth 100000
set_option maxHeartbeats 0
section
variable{K:CK} {fa fk how next one:Int} {M:MK} {cb mb n:Nat} {v:Value} {w:World}
theorem qg {V1 W:World} (b:Below (E (U V1)) V1 W) {xs:List ByteArray} (h:W.ownsRow (E (U V1)) 9 1 v n (bX xs)) {base':Nat} {x:Value} {a:List ByteArray} (l:V1.ownsRow base' 9 1 x (O a) (bX a)) (s:n+O a<=100000) (k:TypeId):
 ∃f c,(Builtin.append_ #[105,105] k #[v,x]).run Tryz.prog W=.ok f c/\∃d e,f=J d (n+O a) e/\c.ownsRow (E (U V1)) 9 1 (J d (n+O a) e) (n+O a) (bX (xs++a))/\Below (E (U V1)) V1 c:=by
 have m:W.ownsRow base' 9 1 x (O a) (bX a):=ah l (λi _ o=>b.block i o);obtain⟨f,c,p,j⟩:=zh Tryz.underlying105 tL Q dC h b.size m (λt q=>by obtain⟨u,_,rfl⟩:=List.mem_map.1 q;rfl) (by unfold maxLen;omega) oM k;obtain⟨d,e,rfl⟩:=j.shape;have r:bX (xs++a)=bX xs++bX a:=by simp[bX]
 exact⟨_,c,p,d,e,Q,by rw[r];exact j.row,j.below b b.size (λi b=>(h.lt i b).1)⟩
theorem nE {b a e size:Nat} {xs:List Value} (h:w.ownsRow b e size v n xs) (c:a<=b):w.ownsRow a e size v n xs:=by
 refine⟨h.1,h.2.imp (λd=>d) ?_⟩;rintro⟨g,f,i,j,k,l⟩;exact⟨g,f,i,j,lT c k,l⟩
theorem qS (W:World):(W.alloc (Ob #[] 9)).ownsRow (E (U W)) 9 1 (J (aS (E (U W))) 0 0) 0 (bX []):=
 ⟨Q,.inr ⟨E (U W),0,#[],Q,lR _,heap_alloc_new _ _,lR _,zL _,Q,Q⟩⟩
structure GI (w:World) (mb cb:Nat) (M:MK) (K:CK) (how next one fk fa:Int) (nd:Array Value) (bz:Nat) (er:Array Value) (ss:List ByteArray) (ao:OA) (cp:Nat) (wr:World) (aD:OA) (cJ:Nat) (ba:List ByteArray) (bZ:OA) (tcp:Nat) (bt:List ByteArray) (k a:Int):Prop where
 g:oy w mb cb M K how next one fk fa nd wr aD cJ ba bZ tcp bt k a
 er:wr.heap[bz]? =some (Ob er 48 (0,0))
 row:wr.ownsRow (bz+1) 9 1 (J ao (O ss) cp) (O ss) (bX ss)
 lz:E (U w)<bz
theorem GI.step {c:Array Value} {d:Nat} {e:Array Value} {f:List ByteArray} {i:OA} {j:Nat} {wr w':World} {l:OA} {m:Nat} {o:List ByteArray} {p:OA} {r:Nat} {s:List ByteArray} {k a k' t:Int} (q:GI w mb cb M K how next one fk fa c d e f i j wr l m o p r s k a) (b:Kp (E (U wr)) mb wr w') (y:cz w' mb ((M.bu k a).bu k' t)) (z:(M.bu k a).fk≠0->k'=(M.bu k a).fk):GI w mb cb M K how next one fk fa c d e f i j w' l m o p r s k' t:=by
 have F:=q.g.gM;have A:=q.lz;have B:=(gE q.er).1;exact⟨q.g.step b y (λh=>by have u:=q.g.hf h;have:=z (by show k≠0;rw[u];exact h);rw[this];exact u),(b.block _ B oM).trans q.er,ah q.row (λx C D=>b.block x D (oH (q.row.lt x C).1)),A⟩
theorem pz {h:Nat} {B0:Nat} (aH:cz w mb M) (aI:bJ w cb (K.nm I 0 [] I 0 []) how next one fk fa) (bo:mb≠cb) (bS:B0<=cb) (bT:B0<=mb) {pos T m:Int} {name:ByteArray} {ko:OA} {kl kc:Nat} (a1:isNode (λb=>b<B0) True (h+1) w (ae 9 pos T m name (J ko kl kc)).toList):
 Calls Tryz.prog 43 #[.pointer (aS mb),.agg (ae 9 pos T m name (J ko kl kc)),.pointer (aS cb)] w (wS w mb cb M K how one fk fa kl):=by
 obtain⟨r,rfl,ap,a2,ag,bp,bq,a3,br,-⟩:=a1.kids;have bV:O r<=6100:=by have:=(ag.cF Q).1;simpa using this
 have bs:Hid (∀o,o<O r->∃g c f d i a j e k,ko=some ⟨g,0,I⟩/\g<B0/\(c=10\/c=11)/\∀q,q<11->w.cell? ⟨g,o*11+q,I⟩=(ae c f d i a (J j e k)).toList[q]?):=by
  intro o V;obtain⟨aJ,aK⟩:∃aJ,r[o]? =some aJ:=⟨_,gG V⟩;have bt:=a2 aJ (mG aK);have ai:=(ag.cF Q).2 _ (List.mem_map_of_mem (mG aK));obtain⟨c,f,d,i,a,j,e,k,rfl,_⟩:=isNode.cells bt;obtain⟨g,x,L,a4,aq⟩:=ap.nth aK;obtain⟨bW,bu⟩:=a3 o V;have bv:x=0:=by rw[bu] at L;simp at L;exact L.2.symm
  subst bv;refine⟨g,c,f,d,i,a,j,e,k,L,a4,?_,λq ar=>by have:=aq q ar;rw[Nat.zero_add] at this;exact this⟩;have aL:az (ae c f d i a (J j e k)).toList=fJ c d e:=rfl;rw[aL] at ai;unfold fJ at ai;split at ai
  ·omega
  ·split at ai
   ·omega
   ·exact ai
 obtain⟨au,a5⟩:=al1 w (Ob (ae 9 pos T m name (J ko (O r) kc)) 48);have bw:=aH.lt;have bx:=aI.lt;have a6:oy w mb cb M K how next one fk fa (ae 9 pos T m name (J ko (O r) kc)) (w.alloc (Ob (ae 9 pos T m name (J ko (O r) kc)) 48)) I 0 [] I 0 [] M.fk M.fa:=⟨KX.al au,aI.below au,aH.below au,bx,bw,bo,a5,World.ownsRow_nil _ _ _ _,World.ownsRow_nil _ _ _ _,λb L=>by simp[Value.ownBlock] at L,λ_=>rfl⟩;clear aH aI au a5 a1 ap a2 ag bp bq a3 br;go_enter Tryz.func43,Tryz.ntmps43
 go_wp2_with fail;go_loopg [7,9,13] (O r) (λaM _ _ aN wr=>∃(o:Nat) (A:OA) (B:Nat) (l:List ByteArray) (C:OA) (D:Nat) (s:List ByteArray) (X Y:Int),aM=O r - o/\aN=vN o/\o<=O r/\O l+O s=o/\oy w mb cb M K how next one fk fa (ae 9 pos T m name (J ko (O r) kc)) wr A B l C D s X Y)
 case atStart=>exact⟨0,I,0,[],I,0,[],M.fk,M.fa,Q,Q,zL _,Q,a6⟩
 case round=>
  clear a6;obtain⟨o,A,B,l,C,D,s,X,Y,aj,rfl,bY,a7,u⟩:=hrel;have av:Hid (gk=O r - o):=aj;have ak:Hid (O l+O s=o):=a7;have a8:O l<=30000:=oM;have a9:O s<=30000:=oM;clear aj a7;have bz:=λx=>cell_of_row wr _ x _ 48 (0,0) u.nb;have bA:=u.ln;have aw:=u.c.cell;have ax:=u.c.fz;have ay:=u.c.lt;by_cases V:o<O r
  ·have a':(o:Int)<(O r:Int):=oM;obtain⟨g,c,f,d,i,a,j,e,k,rfl,a4,ba,aq⟩:=bs.out o V;have G:∀q,q<11->wr.cell? ⟨g,o*11+q,I⟩=(ae c f d i a (J j e k)).toList[q]? :=λq ar=>(u.kx.cell (p:=⟨g,o*11+q,I⟩) (by show g<_;omega) (by show ¬(g=cb\/g=mb);omega)).trans (aq q ar);have aO:=G 0 dC;have aA:=G 1 dC;have aL:=G 2 dC;have bB:=G 3 dC;have bC:=G 4 dC;have bD:=G 5 dC;have bE:=G 6 dC;have bF:=G 7 dC;have bG:=G 8 dC;have bH:=G 9 dC;have bI:=G 10 dC;simp only[Nat.add_zero] at aO;have ag:g<E (U wr):=oM;clear aq G;have al:=u.below (al1 wr (Ob (ae c f d i a (J j e k)) 48)).1;have bb:=(al1 wr (Ob (ae c f d i a (J j e k)) 48)).2;go_wp2_with fail;have ao:Hid (∀{W:World},Below (E (U (wr.alloc (Ob (ae c f d i a (J j e k)) 48)))) (wr.alloc (Ob (ae c f d i a (J j e k)) 48)) W->Below (E (U (wr.alloc (Ob (ae c f d i a (J j e k)) 48)))) (wr.alloc (Ob (ae c f d i a (J j e k)) 48)) W/\∀x,W.cell? ⟨cb,x,I⟩=(dy (K.nm A B l C D s) how next one fk fa)[x]?):=λ{W} N=>⟨N,(al.c.below N).cell⟩
   have bc:Hid (∀Z:TypeId,∃H aa,(Builtin.append_ #[105,105] Z #[J (aS (E (U wr)+1)) 0 0,J A (O l) B]).run Tryz.prog ((wr.alloc (Ob (ae c f d i a (J j e k)) 48)).alloc (Ob #[] 9)).drew=.ok H aa/\∃P R,H=J P (O l) R/\aa.ownsRow (E (U (wr.alloc (Ob (ae c f d i a (J j e k)) 48)))) 9 1 (J P (O l) R) (O l) (bX l)/\Below (E (U (wr.alloc (Ob (ae c f d i a (J j e k)) 48)))) (wr.alloc (Ob (ae c f d i a (J j e k)) 48)) aa):=by
    intro Z;have aA:E (U (wr.alloc (Ob (ae c f d i a (J j e k)) 48)))=E (U wr)+1:=sQ;have bK:=qS (wr.alloc (Ob (ae c f d i a (J j e k)) 48));have:=qg (V1:=(wr.alloc (Ob (ae c f d i a (J j e k)) 48))) (W:=((wr.alloc (Ob (ae c f d i a (J j e k)) 48)).alloc (Ob #[] 9)).drew) ((al1 _ _).1.drew) (xs:=[]) bK al.lv oM Z;rw[aA] at this;rw[aA];simpa using this
   obtain⟨t,aB⟩:∃t,t=l++s:=⟨_,Q⟩
   have bd:Hid (∀(W:World) (P:OA) (R:Nat) (Z:TypeId),Below (E (U (wr.alloc (Ob (ae c f d i a (J j e k)) 48)))) (wr.alloc (Ob (ae c f d i a (J j e k)) 48)) W->W.ownsRow (E (U (wr.alloc (Ob (ae c f d i a (J j e k)) 48)))) 9 1 (J P (O l) R) (O l) (bX l)->∃H aa,(Builtin.append_ #[105,105] Z #[J P (O l) R,J C (O s) D]).run Tryz.prog W=.ok H aa/\∃P R,H=J P (O t) R/\aa.ownsRow (E (U (wr.alloc (Ob (ae c f d i a (J j e k)) 48)))) 9 1 (J P (O t) R) (O t) (bX t)/\Below (E (U (wr.alloc (Ob (ae c f d i a (J j e k)) 48)))) (wr.alloc (Ob (ae c f d i a (J j e k)) 48)) aa):=by
    intro W P R Z N ap;have:=qg N ap al.tv oM Z;have L:O t=O l+O s:=by rw[aB];simp
    rw[<-aB,<-L] at this;exact this
   have bZ:O t<=60000:=by rw[aB];simp;omega
   clear aB aO aA aL bB bC bD bE bF bG bH bI
   go_region_held3 (λW=>Below (E (U (wr.alloc (Ob (ae c f d i a (J j e k)) 48)))) (wr.alloc (Ob (ae c f d i a (J j e k)) 48)) W/\∀x,W.cell? ⟨cb,x,I⟩=(dy (K.nm A B l C D s) how next one fk fa)[x]?)
    (first|assumption|exact ao.out ((Below.refl _ _).drew)|exact ao.out ((al1 _ _).1.drew)|exact ao.out aP|exact ao.out aC)
    (first
     |(refine bg 105 (v:=J (aS (E (U wr)+1)) 0 0) (xv:=J A (O l) B) rQ rQ rQ rQ (bc.out _) ?_;rintro H b0 ⟨bL,bM,rfl,bf,aP⟩)
     |(refine bg 105 (v:=J bL (O l) bM) (xv:=J C (O s) D) rQ rQ rQ rQ (bd.out _ _ _ _ aP bf) ?_;rintro H aQ ⟨bh,bi,rfl,bj,aC⟩))
   obtain⟨S,aD⟩:∃S,S=E (U wr):=⟨_,Q⟩;have bk:E (U (wr.alloc (Ob (ae c f d i a (J j e k)) 48)))=S+1:=by rw[aD];simp
   have aE:GI w mb cb M K how next one fk fa (ae 9 pos T m name (J (aS g) (O r) kc)) S (ae c f d i a (J j e k)) t bh bi aQ A B l C D s X Y:=⟨al.below aC,by rw[aD];exact(aC.block _ sQ).trans bb,by rw[<-bk];exact bj,oM⟩;rw[<-aD];clear bc bd ao bf aP bj aC al bb u bz bA aw ax ay ag bk aD;have aF:=λx=>cell_of_row aQ _ x _ 48 (0,0) aE.er;have aG:S<E (U aQ):=(gE aE.er).1;go_wp2_with fail;clear aF aG;go_loopg [9,29] (O t) (λaM _ aN bN=>∃(q:Nat) (X Y:Int),aM=O t - q/\aN=vN q/\q<=O t/\GI w mb cb M K how next one fk fa (ae 9 pos T m name (J (aS g) (O r) kc)) S (ae c f d i a (J j e k)) t bh bi bN A B l C D s X Y)
   case atStart=>exact⟨0,X,Y,Q,Q,zL _,aE⟩
   case round=>
    clear aE;obtain⟨q,X,Y,aj,rfl,ar,F⟩:=hrel;have bO:Hid (gk=O t - q):=aj;clear aj;have aF:=λx=>cell_of_row wr _ x _ 48 (0,0) F.er;have aG:S<E (U wr):=(gE F.er).1;have aw:=F.g.c.cell;have ax:=F.g.c.fz;have ay:=F.g.c.lt;by_cases aR:q<O t
    ·have bl:(q:Int)<(O t:Int):=oM;obtain⟨bm,bn⟩:∃bm,t[q]? =some bm:=⟨_,gG aR⟩;obtain⟨b1,rfl,b2,_,aO⟩:=mi F.row bn;clear bn;go_wp2_with (go_at_call 39;refine(bU F.g.m _ _).mono ?_;rintro L ab ⟨⟨bP,bQ,rfl,aT,aU,aV⟩,-⟩;have z:=F.step aU aT aV;have aF:=λx=>cell_of_row ab _ x _ 48 (0,0) z.er;have aG:S<E (U ab):=(gE z.er).1;have aw:=z.g.c.cell;have ax:=z.g.c.fz;have ay:=z.g.c.lt)
     all_goals
      go_roundg (O t - (q+1))
      case measure=>rw[bO.out];omega
      case rel=>
       first
        |exact⟨q+1,_,_,Q,by go_num,aR,z⟩
        |exact⟨q+1,_,_,Q,by go_num,aR,F⟩
    ·have bl:¬(q:Int)<(O t:Int):=oM;have b3:decide ((q:Int)<(O t:Int))=false:=sU bl
     cases b4:(a.toList==[39,115,116,97,116,105,99])
     ·go_upto_region 12 with fail
      rcases ba with rfl|rfl
      ·go_wp2_with fail;go_region_law (first|(refine bg 105 (v:=(J A (O l) B)) (xv:=J (aS (E (U wr))) 1 1) rQ rQ rQ rQ ((F.g.below ((Below.refl _ _).drew)).ub a a8 _ Q) ?_;rintro H aW ⟨ac,ad,rfl,y,af⟩;have aX:=y.cell;have aY:=y.fz;have aZ:=y.lt))
       all_goals
        go_wp2_with fail;go_roundg (O r - (o+1))
        case measure=>rw[av.out];omega
        case rel=>exact⟨o+1,ac,ad,l++[a],C,D,s,_,_,Q,by go_num,V,by have:=ak.out;simp;omega,af⟩
      ·go_wp2_with fail;go_region_law (first|(refine bg 105 (v:=(J C (O s) D)) (xv:=J (aS (E (U wr))) 1 1) rQ rQ rQ rQ ((F.g.below ((Below.refl _ _).drew)).og a a9 _ Q) ?_;rintro H aW ⟨ac,ad,rfl,y,af⟩;have aX:=y.cell;have aY:=y.fz;have aZ:=y.lt))
       all_goals
        go_wp2_with fail;go_roundg (O r - (o+1))
        case measure=>rw[av.out];omega
        case rel=>exact⟨o+1,A,B,l,ac,ad,s++[a],_,_,Q,by go_num,V,by have:=ak.out;simp;omega,af⟩
     ·go_upto_region 12 with(go_at_call 39;refine(bU F.g.m _ _).mono ?_;rintro L ab ⟨⟨bP,bQ,rfl,aT,aU,aV⟩,-⟩;have z:=F.step aU aT aV;have aF:=λx=>cell_of_row ab _ x _ 48 (0,0) z.er;have aG:S<E (U ab):=(gE z.er).1;have aw:=z.g.c.cell;have ax:=z.g.c.fz;have ay:=z.g.c.lt)
      rcases ba with rfl|rfl
      ·go_wp2_with fail;go_region_law (first|(refine bg 105 (v:=(J A (O l) B)) (xv:=J (aS (E (U ab))) 1 1) rQ rQ rQ rQ ((z.g.below ((Below.refl _ _).drew)).ub a a8 _ Q) ?_;rintro H aW ⟨ac,ad,rfl,y,af⟩;have aX:=y.cell;have aY:=y.fz;have aZ:=y.lt))
       all_goals
        go_wp2_with fail;go_roundg (O r - (o+1))
        case measure=>rw[av.out];omega
        case rel=>exact⟨o+1,ac,ad,l++[a],C,D,s,_,_,Q,by go_num,V,by have:=ak.out;simp;omega,af⟩
      ·go_wp2_with fail;go_region_law (first|(refine bg 105 (v:=(J C (O s) D)) (xv:=J (aS (E (U ab))) 1 1) rQ rQ rQ rQ ((z.g.below ((Below.refl _ _).drew)).og a a9 _ Q) ?_;rintro H aW ⟨ac,ad,rfl,y,af⟩;have aX:=y.cell;have aY:=y.fz;have aZ:=y.lt))
       all_goals
        go_wp2_with fail;go_roundg (O r - (o+1))
        case measure=>rw[av.out];omega
        case rel=>exact⟨o+1,A,B,l,ac,ad,s++[a],_,_,Q,by go_num,V,by have:=ak.out;simp;omega,af⟩
  ·have a':¬(o:Int)<(O r:Int):=oM;have b5:decide ((o:Int)<(O r:Int))=false:=sU a';have bR:O l+O s=O r:=oH ak.out;go_wp2_with fail;go_end0;have a0:∀b,b≠cb->(wr.setCell ⟨cb,10,I⟩ (vN (O l))).heap[b]? =wr.heap[b]? :=λb N=>Below.heap_setCell _ ⟨cb,10,I⟩ _ _ N;have b6:=u.eN;exact⟨A,B,l,C,D,s,X,Y,Q,bR,u.c.qL _,(a0 _ u.ne).trans u.m,u.kx.setCell (p:=⟨cb,10,I⟩) (.inr (.inl Q)) _,nE (ah u.lv (λb N _=>a0 b (oH (u.lv.lt b N).1))) (Nat.le_succ _),nE (ah u.tv (λb N _=>a0 b (oH (u.tv.lt b N).1))) (Nat.le_succ _),u.sep,u.hf⟩
end
end Go.Proofs.YtdghkacbpebcoaaGreat
