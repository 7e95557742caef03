import Derived.Test.YtdghkacbpebcoaaGreatS40
namespace Go.Proofs.YtdghkacbpebcoaaGreat
open Go.RowKit
open Value renaming slice→J
open List renaming length→O
open Option renaming none→I
open World renaming heap→U
open _root_.Array renaming size→E
open Obj renaming cells→Ob
set_option linter.all false
set_option maxRecDepth 100000
set_option maxHeartbeats 0
section
variable{out x:List Value} {D H X X' ic vc:Nat} {io vo:OA} {ts vs xs:VV} {w w':World}
structure ot (S:Nat->Prop) (D H:Nat) (w:World) (io:OA) (ic:Nat) (ts:VV) (vo:OA) (vc:Nat) (vs:VV) (out:List Value) (X:Nat):Prop where
 ri:ro w S 4 (J io (O ts) ic) (O ts) ts.flatten
 rv:ro w S 6 (J vo (O vs) vc) (O vs) vs.flatten
 ti:∀x∈ts,af S (Gd D) H w x
 tv:∀x∈vs,dZ S D H w x
 l':af S (Gd D) H w out
 si:∀f,(ts.map (bW f w)).sum<=X
 sv:∀f,(vs.map (λx=>bW f w (x.drop 2))).sum<=X
 so:∀f,bW f w out<=X
 li:O ts<=30000
 lv:O vs<=30000
theorem zl.zt {a:Nat->Prop} (h:zl w a D H w' io ic ts vo vc vs out X):ot (λb=>a b\/E (U w)<=b) D H w' io ic ts vo vc vs out X:=⟨h.ri,h.rv,h.ti,h.tv,h.l',h.si,h.sv,h.so,h.li,h.lv⟩
section
variable{S S':Nat->Prop} {D H H':Nat} {w w':World} {io:OA} {ic:Nat} {ts:VV} {vo:OA} {vc:Nat} {vs:VV} {out:List Value} {X X':Nat}
theorem ot.frame (h:ot S D H w io ic ts vo vc vs out X) (a:aq S w w') (b:E (U w)<=E (U w')):ot S D H w' io ic ts vo vc vs out X:=
 ⟨h.ri.frame a b,h.rv.frame a b,λx c=>af.frame a b _ _ (h.ti x c),λx c=>((h.tv x c).frame a b).1,af.frame a b _ _ h.l',λe=>by rw[List.map_congr_left (λx c=>aL a b _ _ (h.ti x c) e)];exact h.si e,λe=>by rw[List.map_congr_left (λx c=>((h.tv x c).frame a b).2 e)];exact h.sv e,λe=>by rw[aL a b _ _ h.l'];exact h.so e,h.li,h.lv⟩
theorem ot.weaken (h:ot S D H w io ic ts vo vc vs out X) (a:∀b,S b->b<E (U w)->S' b):ot S' D H w io ic ts vo vc vs out X:=
 ⟨h.ri.weaken a,h.rv.weaken a,λx c=>af.weaken a _ _ (h.ti x c),λx c=>(h.tv x c).weaken a,af.weaken a _ _ h.l',h.si,h.sv,h.so,h.li,h.lv⟩
theorem ot.le (h:ot S D H w io ic ts vo vc vs out X) (b:H<=H') (c:X<=X'):ot S D H' w io ic ts vo vc vs out X':=
 ⟨h.ri,h.rv,λx e=>af.le (h.ti x e) _ b,λx e=>(h.tv x e).le b,af.le h.l' _ b,λa=>lT (h.si a) c,λa=>lT (h.sv a) c,λa=>lT (h.so a) c,h.li,h.lv⟩
end
abbrev rB (nm:ByteArray) (mod at_:Int) (eZ:Bool) (impl kind:Int) (to':OA) (tn tc:Nat) (lv:Int) (oo:OA) (on oc:Nat) (go:OA) (gn gc:Nat) (io:OA) (il ic:Nat) (o0 o1:Int) (o2 o3:Value) (vv:Value) (bk bp bn bm:Int) (bs:ByteArray) (bo:OA) (bl bc:Nat):Array Value:=#[.string nm,vN mod,vN at_,.bool eZ,vN impl,vN kind,J to' tn tc,vN lv,J oo on oc,J go gn gc,J io il ic,vN o0,vN o1,o2,o3,aH,vv,vN bk,vN bp,vN bn,vN bm,.string bs,J bo bl bc,vN 0,vN 0,aH,aH,aH,aH,vN 0]
def ig (S:Nat->Prop) (D H X:Nat) (w:World) (x:List Value):Prop:=
 ∃(nm:ByteArray) (mod at_:Int) (eZ:Bool) (impl kind:Int) (to':OA) (tn tc:Nat) (lv:Int) (oo:OA) (on oc:Nat) (go:OA) (gn gc:Nat) (io:OA) (ic:Nat) (ts:VV) (o0 o1:Int) (l2:OA) (l3 l4:Nat) (l5:OA) (l6 l7:Nat) (vo:OA) (vc:Nat) (vs:VV) (bk bp bn bm:Int) (bs:ByteArray) (bo:OA) (bl bc:Nat),
  x=(rB nm mod at_ eZ impl kind to' tn tc lv oo on oc go gn gc io (O ts) ic o0 o1 (J l2 l3 l4) (J l5 l6 l7) (J vo (O vs) vc) bk bp bn bm bs bo bl bc).toList/\ot S D H w io ic ts vo vc vs (ak o0 o1 (J l2 l3 l4) (J l5 l6 l7)).toList X
abbrev bR (tr mod at_ ai:Int) (gv:Value) (kind n:Int) (lv av fv:Value):Array Value:=#[vN tr,vN mod,vN at_,vN ai,gv,vN kind,vN n,lv,av,fv]
def iH (S:Nat->Prop) (D H X:Nat) (w:World) (x:List Value):Prop:=
 ∃(tr mod at_ ai:Int) (go:OA) (gn gc:Nat) (kind n:Int) (lo:OA) (ln lc:Nat) (ao:OA) (an ac:Nat) (fo:OA) (fn fc:Nat),x=(bR tr mod at_ ai (J go gn gc) kind n (J lo ln lc) (J ao an ac) (J fo fn fc)).toList/\af S (Gd D) H w (ak kind n (J lo ln lc) (J ao an ac)).toList/\∀f,bW f w (ak kind n (J lo ln lc) (J ao an ac)).toList<=X
abbrev eM (nm:ByteArray) (lv:Int) (ov gv:Value) (io:OA) (il ic:Nat) (o0 o1:Int) (o2 o3:Value):Array Value:=#[.string nm,vN lv,ov,gv,J io il ic,vN o0,vN o1,o2,o3]
def fT (S:Nat->Prop) (D H:Nat) (w:World) (x:List Value):Prop:=
 ∃(nm:ByteArray) (lv:Int) (oo:OA) (on oc:Nat) (go:OA) (gn gc:Nat) (io:OA) (ic:Nat) (ts:VV) (o0 o1:Int) (l2:OA) (l3 l4:Nat) (l5:OA) (l6 l7:Nat),x=(eM nm lv (J oo on oc) (J go gn gc) io (O ts) ic o0 o1 (J l2 l3 l4) (J l5 l6 l7)).toList/\ro w S 4 (J io (O ts) ic) (O ts) ts.flatten/\(∀y∈ts,af S (Gd D) H w y)/\af S (Gd D) H w (ak o0 o1 (J l2 l3 l4) (J l5 l6 l7)).toList/\O ts<=30000
abbrev jr (nm:ByteArray) (mod at_:Int) (eZ:Bool) (mo:OA) (ml mc:Nat):Array Value:=#[.string nm,vN mod,vN at_,.bool eZ,J mo ml mc]
def iZ (S:Nat->Prop) (D H:Nat) (w:World) (x:List Value):Prop:=
 ∃(nm:ByteArray) (mod at_:Int) (eZ:Bool) (mo:OA) (mc:Nat) (ms:VV),x=(jr nm mod at_ eZ mo (O ms) mc).toList/\ro w S 9 (J mo (O ms) mc) (O ms) ms.flatten/\(∀y∈ms,fT S D H w y)/\O ms<=30000
def Pt.c (p:Pt):List Value:=.string p.name::.bool p.eZ::p.ty
def Cs.c (c:Cs):List Value:=[.string c.name,J c.ao (O c.ps) c.cp]
structure eG (S:Nat->Prop) (D H X:Nat) (w:World) (d:Dd):Prop where
 row:ro w S 2 (J d.ao (O d.cs) d.cp) (O d.cs) (d.cs.map Cs.c).flatten
 parts:∀c∈d.cs,ro w S 6 (J c.ao (O c.ps) c.cp) (O c.ps) (c.ps.map Pt.c).flatten/\O c.ps<=30000/\∀p∈c.ps,dZ S D H w p.c
 len:O d.cs<=30000
 sz:∀f,(d.cs.map (λc=>(c.ps.map (λp=>bW f w p.ty)).sum)).sum<=X
section
variable{S S':Nat->Prop} {D H H' X X':Nat} {w w':World} {x:List Value} {d:Dd}
theorem ig.frame (h:ig S D H X w x) (a:aq S w w') (b:E (U w)<=E (U w')):ig S D H X w' x:=by
 obtain⟨c,e,f,i,j,k,l,m,n,o,p,q,r,s,t,u,v,y,z,A,B,C,F,G,K,L,N,P,R,T,V,W,Y,Z,aa,ab,ac,ad,ae,af⟩:=h;exact⟨c,e,f,i,j,k,l,m,n,o,p,q,r,s,t,u,v,y,z,A,B,C,F,G,K,L,N,P,R,T,V,W,Y,Z,aa,ab,ac,ad,ae,af.frame a b⟩
theorem ig.weaken (h:ig S D H X w x) (a:∀b,S b->b<E (U w)->S' b):ig S' D H X w x:=by
 obtain⟨c,e,f,i,j,k,l,m,n,o,p,q,r,s,t,u,v,y,z,A,B,C,F,G,K,L,N,P,R,T,V,W,Y,Z,aa,ab,ac,ad,ae,af⟩:=h;exact⟨c,e,f,i,j,k,l,m,n,o,p,q,r,s,t,u,v,y,z,A,B,C,F,G,K,L,N,P,R,T,V,W,Y,Z,aa,ab,ac,ad,ae,af.weaken a⟩
theorem ig.le (h:ig S D H X w x) (a:H<=H') (b:X<=X'):ig S D H' X' w x:=by
 obtain⟨c,e,f,i,j,k,l,m,n,o,p,q,r,s,t,u,v,y,z,A,B,C,F,G,K,L,N,P,R,T,V,W,Y,Z,aa,ab,ac,ad,ae,af⟩:=h;exact⟨c,e,f,i,j,k,l,m,n,o,p,q,r,s,t,u,v,y,z,A,B,C,F,G,K,L,N,P,R,T,V,W,Y,Z,aa,ab,ac,ad,ae,af.le a b⟩
theorem iH.frame (h:iH S D H X w x) (a:aq S w w') (b:E (U w)<=E (U w')):iH S D H X w' x:=by
 obtain⟨e,f,i,j,k,l,m,n,o,p,q,r,s,t,u,v,y,z,A,c,B⟩:=h;exact⟨e,f,i,j,k,l,m,n,o,p,q,r,s,t,u,v,y,z,A,af.frame a b _ _ c,λC=>by rw[aL a b _ _ c];exact B C⟩
theorem iH.weaken (h:iH S D H X w x) (a:∀b,S b->b<E (U w)->S' b):iH S' D H X w x:=by
 obtain⟨c,e,f,i,j,k,l,m,n,o,p,q,r,s,t,u,v,y,z,A,B⟩:=h;exact⟨c,e,f,i,j,k,l,m,n,o,p,q,r,s,t,u,v,y,z,af.weaken a _ _ A,B⟩
theorem iH.le (h:iH S D H X w x) (a:H<=H'):iH S D H' X w x:=by
 obtain⟨b,c,e,f,i,j,k,l,m,n,o,p,q,r,s,t,u,v,y,z,A⟩:=h;exact⟨b,c,e,f,i,j,k,l,m,n,o,p,q,r,s,t,u,v,y,af.le z _ a,A⟩
theorem fT.frame (h:fT S D H w x) (a:aq S w w') (b:E (U w)<=E (U w')):fT S D H w' x:=by
 obtain⟨c,e,f,i,j,k,l,m,n,o,p,q,r,s,t,u,v,y,z,A,B,C,F,G⟩:=h;exact⟨c,e,f,i,j,k,l,m,n,o,p,q,r,s,t,u,v,y,z,A,B.frame a b,λK L=>af.frame a b _ _ (C K L),af.frame a b _ _ F,G⟩
theorem fT.weaken (h:fT S D H w x) (a:∀b,S b->b<E (U w)->S' b):fT S' D H w x:=by
 obtain⟨c,e,f,i,j,k,l,m,n,o,p,q,r,s,t,u,v,y,z,A,B,C,F,G⟩:=h;exact⟨c,e,f,i,j,k,l,m,n,o,p,q,r,s,t,u,v,y,z,A,B.weaken a,λK L=>af.weaken a _ _ (C K L),af.weaken a _ _ F,G⟩
theorem fT.le (h:fT S D H w x) (a:H<=H'):fT S D H' w x:=by
 obtain⟨b,c,e,f,i,j,k,l,m,n,o,p,q,r,s,t,u,v,y,z,A,B,C,F⟩:=h;exact⟨b,c,e,f,i,j,k,l,m,n,o,p,q,r,s,t,u,v,y,z,A,λG K=>af.le (B G K) _ a,af.le C _ a,F⟩
theorem iZ.frame (h:iZ S D H w x) (a:aq S w w') (b:E (U w)<=E (U w')):iZ S D H w' x:=by
 obtain⟨c,e,f,i,j,k,l,m,n,o,p⟩:=h;exact⟨c,e,f,i,j,k,l,m,n.frame a b,λq r=>(o q r).frame a b,p⟩
theorem iZ.weaken (h:iZ S D H w x) (a:∀b,S b->b<E (U w)->S' b):iZ S' D H w x:=by
 obtain⟨c,e,f,i,j,k,l,m,n,o,p⟩:=h;exact⟨c,e,f,i,j,k,l,m,n.weaken a,λq r=>(o q r).weaken a,p⟩
theorem iZ.le (h:iZ S D H w x) (a:H<=H'):iZ S D H' w x:=by
 obtain⟨b,c,e,f,i,j,k,l,m,n,o⟩:=h;exact⟨b,c,e,f,i,j,k,l,m,λp q=>(n p q).le a,o⟩
theorem eG.frame (h:eG S D H X w d) (e:aq S w w') (i:E (U w)<=E (U w')):eG S D H X w' d:=by
 refine⟨h.row.frame e i,λb c=>⟨(h.parts b c).1.frame e i,(h.parts b c).2.1,λa j=>(((h.parts b c).2.2 a j).frame e i).1⟩,h.len,λf=>?_⟩
 rw[List.map_congr_left (g:=λb=>(b.ps.map (λa=>bW f w a.ty)).sum) (λb c=>by
  show(b.ps.map (λa=>bW f w' a.ty)).sum=_;exact congrArg List.sum (List.map_congr_left (f:=λa:Pt=>bW f w' a.ty) (λa j=>(((h.parts b c).2.2 a j).frame e i).2 f)))]
 exact h.sz f
theorem eG.weaken (h:eG S D H X w d) (a:∀b,S b->b<E (U w)->S' b):eG S' D H X w d:=
 ⟨h.row.weaken a,λc e=>⟨(h.parts c e).1.weaken a,(h.parts c e).2.1,λf i=>((h.parts c e).2.2 f i).weaken a⟩,h.len,h.sz⟩
theorem eG.le (h:eG S D H X w d) (c:H<=H'):eG S D H' X w d:=
 ⟨h.row,λa b=>⟨(h.parts a b).1,(h.parts a b).2.1,λe f=>((h.parts a b).2.2 e f).le c⟩,h.len,h.sz⟩
end
def Sm (P:Nat->List Value->Prop) (xs:VV) (X:Nat):Prop:=∃Ys:List Nat,O Ys=O xs/\Ys.sum<=X/\∀(i:Nat) (x:List Value) (y:Nat),xs[i]? =some x->Ys[i]? =some y->P y x
theorem Sm.imp {P b:Nat->List Value->Prop} (h:Sm P xs X) (c:∀a x,P a x->b a x):Sm b xs X:=by
 obtain⟨e,f,i,j⟩:=h;exact⟨e,f,i,λk x a l m=>c a x (j k x a l m)⟩
theorem Sm.nil {P:Nat->List Value->Prop}:Sm P [] 0:=⟨[],Q,lR _,λb x c a=>by simp at a⟩
theorem Sm.snoc {P:Nat->List Value->Prop} {Y:Nat} (h:Sm P xs X) (f:P Y x):Sm P (xs++[x]) (X+Y):=by
 obtain⟨i,e,p,j⟩:=h;refine⟨i++[Y],by simp[e],by simp;omega,λc k l a b=>?_⟩;by_cases m:c<O xs
 ·rw[List.getElem?_append_left m] at a;rw[List.getElem?_append_left oM] at b;exact j c k l a b
 ·rw[List.getElem?_append_right oM] at a b;obtain⟨n,-⟩:=gS a;have o:c=O xs:=by simp at n;omega
  subst o;rw[Nat.sub_self] at a;rw[e,Nat.sub_self] at b;simp at a b;rw[<-a,<-b];exact f
theorem Sm.mono {P:Nat->List Value->Prop} (h:Sm P xs X) (a:X<=X'):Sm P xs X':=by
 obtain⟨b,c,e,f⟩:=h;exact⟨b,c,lT e a,f⟩
theorem Sm.at {P:Nat->List Value->Prop} (h:Sm P xs X) {i:Nat} (a:xs[i]? =some x):∃b,P b x:=by
 obtain⟨e,f,j,c⟩:=h;have k:=(gS a).1;exact⟨_,c i x _ a (gG oM)⟩
structure MS (w:World) (mb:Nat) (M:MK) (trs au fns:VV) (Xd Xi Xf:Nat) (Mu:Nat->Prop) (H:Nat):Prop where
 pi:PI w mb M (O trs)
 tr:w.ownsRow 0 74 5 M.tv (O trs) trs.flatten
 im:w.ownsRow 0 43 10 M.iv (O au) au.flatten
 fn:w.ownsRow 0 129 30 M.fv (O fns) fns.flatten
 dG:Mu mb
 mlt:∀b,Mu b->b<E (U w)
 ly:∀b,(Value.slice M.mo (O M.ms) M.mc).ownBlock=some b->Mu b
 jL:∀m∈M.ms,∀b,(Value.slice m.ao (O m.ns) m.cp).ownBlock=some b->Mu b
 js:∀b,(Value.slice M.df (O M.ds) M.eo).ownBlock=some b->Mu b
 jW:∀b,M.tv.ownBlock=some b->Mu b
 lK:∀b,M.iv.ownBlock=some b->Mu b
 lV:∀b,M.fv.ownBlock=some b->Mu b
 jR:∃Ys:List Nat,O Ys=O M.ds/\Ys.sum<=Xd/\∀(i:Nat) (d:Dd) (y:Nat),M.ds[i]? =some d->Ys[i]? =some y->eG (λb=>¬Mu b) (O M.ds) H y w d
 jo:∀x∈trs,iZ (λb=>¬Mu b) (O M.ds) H w x
 lN:Sm (λY x=>iH (λb=>¬Mu b) (O M.ds) H Y w x) au Xi
 lD:Sm (λY x=>ig (λb=>¬Mu b) (O M.ds) H Y w x) fns Xf
section
variable{w w':World} {mb:Nat} {M:MK} {trs au fns:VV} {Xd Xi Xf:Nat} {Mu Mu':Nat->Prop} {H H':Nat}
theorem MS.mk' (h:MS w mb M trs au fns Xd Xi Xf Mu H):cz w mb M:=h.pi.dV
theorem MS.grow (h:MS w mb M trs au fns Xd Xi Xf Mu H) (e:Below (E (U w)) w w') (c:∀b,Mu b->Mu' b) (p:∀b,Mu' b->b<E (U w')) (q:∀b,b<E (U w)->Mu' b->Mu b):MS w' mb M trs au fns Xd Xi Xf Mu' H:=by
 have k:∀b,¬Mu b->b<E (U w)->¬Mu' b:=λb e n o=>e (q b n o);have l:aq (λb=>¬Mu' b) w w':=λb _ n=>e.block b n;have m:=e.size;have f:KT (λ_=>True) w w':=KT.below e;obtain⟨r,s,t,u⟩:=h.jR;have i:=h.pi;exact⟨⟨h.pi.dV |> λx=>(e.block _ (gE x).1).trans x,i.cE.kt f trivial trivial,i.q,ag i.cd f trivial,i.bj,i.lg⟩,ag h.tr f trivial,ag h.im f trivial,ag h.fn f trivial,c _ h.dG,p,λb a=>c _ (h.ly b a),λv o b a=>c _ (h.jL v o b a),λb a=>c _ (h.js b a),λb a=>c _ (h.jW b a),λb a=>c _ (h.lK b a),λb a=>c _ (h.lV b a),⟨r,s,t,λy d z A B=>((u y d z A B).weaken k).frame l m⟩,λx j=>((h.jo x j).weaken k).frame l m,h.lN.imp (λC x j=>(j.weaken k).frame l m),h.lD.imp (λC x j=>(j.weaken k).frame l m)⟩
theorem MS.step (h:MS w mb M trs au fns Xd Xi Xf Mu H) {k a:Int} (m:KX Mu (E (U w)) w w') (b:KT (λt=>t≠114/\t≠66) w w') (n:cz w' mb (M.bu k a)):MS w' mb (M.bu k a) trs au fns Xd Xi Xf Mu H:=by
 have j:aq (λc=>¬Mu c) w w':=λc l o=>m.block c o l;have e:=m.size;obtain⟨p,q,r,s⟩:=h.jR;have f:=h.pi;exact⟨⟨n,f.cE.kt b dC dC,f.q,ag f.cd b dC,f.bj,f.lg⟩,ag h.tr b dC,ag h.im b dC,ag h.fn b dC,h.dG,λc l=>Nat.lt_of_lt_of_le (h.mlt c l) e,h.ly,h.jL,h.js,h.jW,h.lK,h.lV,⟨p,q,r,λu d v y z=>(s u d v y z).frame j e⟩,λx i=>(h.jo x i).frame j e,h.lN.imp (λA x i=>i.frame j e),h.lD.imp (λA x i=>i.frame j e)⟩
theorem MS.le (h:MS w mb M trs au fns Xd Xi Xf Mu H) (b:H<=H'):MS w mb M trs au fns Xd Xi Xf Mu H':=by
 obtain⟨c,e,f,i⟩:=h.jR;exact⟨h.pi,h.tr,h.im,h.fn,h.dG,h.mlt,h.ly,h.jL,h.js,h.jW,h.lK,h.lV,⟨c,e,f,λj d k l m=>(i j d k l m).le b⟩,λx a=>(h.jo x a).le b,h.lN.imp (λn x a=>a.le b),h.lD.imp (λn x a=>a.le b (lR _))⟩
theorem MS.below (h:MS w mb M trs au fns Xd Xi Xf Mu H) (b:Below (E (U w)) w w'):MS w' mb M trs au fns Xd Xi Xf Mu H:=h.step (k:=M.fk) (a:=M.fa) (KX.al b) (KT.below b) (h.mk'.below b)
end
end
section
abbrev zS:Value:=J I 0 0
abbrev zI:Value:=vN 0
theorem zc:(Tryz.prog.info? 129).map (λa=>(a.zero,a.size,a.bytes))=some (some (.agg (rB ⟨#[]⟩ 0 0 false 0 0 I 0 0 0 I 0 0 I 0 0 I 0 0 0 0 zS zS zS 0 0 0 0 ⟨#[]⟩ I 0 0)),30,464):=by kernel_rfl
theorem xO:(Tryz.prog.info? 43).map (λa=>(a.zero,a.size,a.bytes))=some (some (.agg (bR 0 0 0 0 zS 0 0 zS zS zS)),10,144):=by kernel_rfl
theorem yZ:(Tryz.prog.info? 81).map (λa=>(a.zero,a.size,a.bytes))=some (some (.agg (eM ⟨#[]⟩ 0 zS zS I 0 0 0 0 zS zS)),9,160):=by kernel_rfl
section
variable{w w':World} {mb:Nat} {M:MK} {trs au fns:VV} {Xd Xi Xf:Nat} {Mu Mu':Nat->Prop} {H H':Nat}
theorem MS.addFn (h:MS w mb M trs au fns Xd Xi Xf Mu H) {fo:OA} {fc:Nat} (t:M.fv=J fo (O fns) fc) {cs:Array Value} {Y:Nat} (j:ig (λb=>¬Mu b) (O M.ds) H Y w cs.toList) (R:cs.size=30) (one:∀u∈cs.toList,u.oneCell'=true) (C:O fns<=200000) (D:TypeId) {ad:Nat} (S:ad=E (U w)):
 ∃v w',(Builtin.append_ #[26,26] D #[J fo (O fns) fc,J (aS ad) 1 1]).run Tryz.prog (w.alloc (Ob cs 129))=.ok v w'/\∃c d Mu',v=J c (O fns+1) d/\cz w' mb M/\KT (λf=>f≠129) w w'/\KX Mu (E (U w)) w w'/\KX Mu (E (U w)) w (w'.setCell ⟨mb,4,I⟩ (J c (O fns+1) d))/\(∀b,Mu b->Mu' b)/\(∀b,b<E (U w)->Mu' b->Mu b)/\KT (λf=>f≠129/\f≠66) w (w'.setCell ⟨mb,4,I⟩ (J c (O fns+1) d))/\MS (w'.setCell ⟨mb,4,I⟩ (J c (O fns+1) d)) mb {M with fv:=J c (O fns+1) d} trs au (fns++[cs.toList]) Xd Xi (Xf+Y) Mu' H:=by
 have x:=h.fn;rw[t] at x;have ap:=h.mk'.lt;obtain⟨v,w',T,i⟩:=fj (W:=w) Tryz.underlying26 zc Q dC x (zL _) cs R one (by unfold maxLen;omega) oM D S;obtain⟨c,d,rfl⟩:=i.shape;have y:=App.kt x i;have z:=aw y h.mk' dC;have F:=KT.set z 4 (J c (O fns+1) d);have l:KT (λf=>f≠129/\f≠66) w (w'.setCell ⟨mb,4,I⟩ (J c (O fns+1) d)):=(y.mono (λf A=>A.1)).trans (F.mono (λf A=>A.2));have G:E (U w)<=E (U w'):=lT sQ i.grown.size;have m:E (U w)<=E (U (w'.setCell ⟨mb,4,I⟩ (J c (O fns+1) d))):=sU G;have K:=i.row;have L:KX Mu (E (U w)) w w':=⟨i.grown.os,i.grown.tape,i.grown.output,G,λb a C=>(i.grown.block b (by simp;omega) (λe=>C (h.lV b (by rw[t];exact e.symm)))).trans (Below.heap_alloc _ _ _ a)⟩;have N:KX Mu (E (U w)) w (w'.setCell ⟨mb,4,I⟩ (J c (O fns+1) d)):=L.setCell (p:=⟨mb,4,I⟩) (.inr h.dG) _;have n:aq (λb=>¬Mu b/\b<E (U w)) w (w'.setCell ⟨mb,4,I⟩ (J c (O fns+1) d)):=λb a s=>N.block b s a.1
 have P:∀b,(Value.slice c (O fns+1) d).ownBlock=some b->b<E (U w)->Mu b:=λb a s=>by
  rcases i.own with e|e
  ·exact h.lV b (by rw[t,<-e];exact a)
  ·rw[e] at a;simp at a;omega
 have o:∀b,¬Mu b->b<E (U w)->(¬Mu b/\b<E (U w)):=λb V X=>⟨V,X⟩
 have q:∀b,(¬Mu b/\b<E (U w))->b<E (U (w'.setCell ⟨mb,4,I⟩ (J c (O fns+1) d)))->¬(Mu b\/(Value.slice c (O fns+1) d).ownBlock=some b):=λb a _ k=>by
  rcases k with k|k
  ·exact a.1 k
  ·exact a.1 (P b k a.2)
 obtain⟨Z,aa,ab,ac⟩:=h.jR;have r:=h.pi;refine⟨_,w',T,c,d,λb=>Mu b\/(Value.slice c (O fns+1) d).ownBlock=some b,Q,z,y,L,N,λb a=>.inl a,λb s a=>by rcases a with a|a;exact a;exact P b a s,l,⟨⟨?_,r.cE.kt l dC dC,r.q,ag r.cd l dC,r.bj,r.lg⟩,ag h.tr l dC,ag h.im l dC,?_,.inl h.dG,?_,λb e=>.inl (h.ly b e),λae k b e=>.inl (h.jL ae k b e),λb e=>.inl (h.js b e),λb e=>.inl (h.jW b e),λb e=>.inl (h.lK b e),λb e=>.inr e,⟨Z,aa,ab,λaf ah ai aj ak=>(((ac af ah ai aj ak).weaken o).frame n m).weaken q⟩,λB j=>(((h.jo B j).weaken o).frame n m).weaken q,h.lN.imp (λY B j=>((j.weaken o).frame n m).weaken q),?_⟩⟩
 ·have:=heap_setCell_same w' mb 4 _ 66 (J c (O fns+1) d) z;simpa using this
 ·have al:O (fns++[cs.toList])=O fns+1:=sQ;have ao:(fns++[cs.toList]).flatten=fns.flatten++cs.toList:=sQ;rw[al,ao];exact ag K F dC
 ·intro b a;rcases a with a|a
  ·have:=h.mlt b a;omega
  ·have:=(K.lt b a).2;simpa using this
 ·exact(h.lD.imp (λY B j=>((j.weaken o).frame n m).weaken q)).snoc (((j.weaken o).frame n m).weaken q)
end
end
section
variable{a k:Int} {M:MK} {H Xd Xf Xi:Nat} {Mu:Nat->Prop} {fns au trs:VV} {w w':World}
theorem KT.mb {mb:Nat} (d:cz w mb M) (e:Kp (E (U w)) mb w w'):KT (λb=>b≠114/\b≠66) w w':=λf l b m c i=>e.block f (gE c).1 (λj=>by
 subst j;exact aJ c d i.2 Q)
theorem MS.no {mb:Nat} (h:MS w mb M trs au fns Xd Xi Xf Mu H) (c:cz w' mb (M.bu k a)) (b:Kp (E (U w)) mb w w'):MS w' mb (M.bu k a) trs au fns Xd Xi Xf Mu H:=h.step (KX.cI b h.dG) (KT.mb h.mk' b) c
structure MF (w:World) (mb:Nat) (M:MK) (trs au fns:VV) (Xd Xi Xf:Nat) (Mu:Nat->Prop) (H:Nat) (wr:World) (k a:Int):Prop where
 s:MS wr mb (M.bu k a) trs au fns Xd Xi Xf Mu H
 kp:Kp (E (U w)) mb w wr
 hf:M.fk≠0->k=M.fk
section
variable{w wr w':World} {mb:Nat} {M:MK} {trs au fns:VV} {Xd Xi Xf:Nat} {Mu:Nat->Prop} {H:Nat} {k a k' a':Int}
theorem MF.refl (h:MS w mb M trs au fns Xd Xi Xf Mu H):MF w mb M trs au fns Xd Xi Xf Mu H w M.fk M.fa:=⟨h,Kp.refl _ _ _,λ_=>rfl⟩
theorem MF.below (q:MF w mb M trs au fns Xd Xi Xf Mu H wr k a) (b:Below (E (U wr)) wr w'):MF w mb M trs au fns Xd Xi Xf Mu H w' k a:=⟨q.s.below b,q.kp.trans ((Kp.al b).mono q.kp.size),q.hf⟩
theorem MF.no (q:MF w mb M trs au fns Xd Xi Xf Mu H wr k a) (b:Kp (E (U wr)) mb wr w') (d:cz w' mb ((M.bu k a).bu k' a')) (e:(M.bu k a).fk≠0->k'=(M.bu k a).fk):MF w mb M trs au fns Xd Xi Xf Mu H w' k' a':=⟨q.s.no d b,q.kp.trans (b.mono q.kp.size),λh=>by have c:=q.hf h;have:=e (by show k≠0;rw[c];exact h);rw[this];exact c⟩
theorem MF.dV (q:MF w mb M trs au fns Xd Xi Xf Mu H wr k a) {b:Nat} {c:Array Value} {t:TypeId} {z:Nat × Nat} (h:wr.heap[b]? =some (Ob c t z)) (d:t≠66) (e:Kp (E (U wr)) mb wr w'):w'.heap[b]? =some (Ob c t z):=(e.block b (gE h).1 (aJ h q.s.mk' d)).trans h
end
def uh (w:World) (mb:Nat) (M:MK) (trs au fns:VV) (Xd Xi Xf:Nat) (Mu:Nat->Prop) (H:Nat) (e:Ending) (w':World):Prop:=∃k a,e=.returned (.tuple #[])/\MF w mb M trs au fns Xd Xi Xf Mu H w' k a
theorem ro.lJ {S:Nat->Prop} {size n:Nat} {v:Value} {us:VV} (h:ro w S size v n us.flatten) (o:O us=n) (hl:∀x∈us,O x=size) {i:Nat} {x:List Value} (d:us[i]? =some x):∃g c,v=J (aS g) n c/\g<E (U w)/\∀b,b<size->w.cell? ⟨g,i*size+b,I⟩=x[b]? :=by
 obtain⟨a,c,rfl,p,e⟩:=h;have q:=(gS d).1;obtain⟨g,rfl,-,f,j⟩:=e oM;refine⟨g,c,Q,f,λb l=>?_⟩
 have m:i*size+b<n*size:=by
  have:=Nat.mul_le_mul_right size (show i+1<=n by omega);rw[Nat.add_mul,Nat.one_mul] at this;omega
 rw[j _ m,lY hl d b l]
theorem tY {mb:Nat} (h:MS w mb M trs au fns Xd Xi Xf Mu H):
 Calls Tryz.prog 28 #[.pointer (aS mb)] w (uh w mb M trs au fns Xd Xi Xf Mu H):=by
 have aN:=MF.refl h;have a9:=h.mk'.cell;have ba:=h.mk'.lt;have bC:=h.pi.bj.2.1
 have bb:Hid (∀(b:Nat) (d:Dd),M.ds[b]? =some d->∃ar,eG (λn=>¬Mu n) (O M.ds) H ar w d):=λb d y=>by
  obtain⟨bD,bc,bE,bd⟩:=h.jR;exact⟨_,bd b d _ y (gG (by rw[bc];exact(gS y).1))⟩
 have av:Hid (∀{aw:World},Kp (E (U w)) mb w aw->aq (λn=>¬Mu n) w aw):=λ{aw} bf n o bg=>bf.block n bg (λs=>o (s▸h.dG));clear h;obtain⟨ax,bh⟩:∃ax,M.df=ax:=⟨_,Q⟩;go_enter Tryz.func28,Tryz.ntmps28
 go_wp2_with fail;clear a9 ba;go_loopg [3,5,7,14] (O M.ds) (λC _ _ _ D wr=>∃(b:Nat) (k a:Int),C=O M.ds - b/\D=vN b/\b<=O M.ds/\MF w mb M trs au fns Xd Xi Xf Mu H wr k a)
 case atStart=>exact⟨0,_,_,Q,Q,zL _,aN⟩
 case round=>
  clear aN;obtain⟨b,k,a,r,rfl,bF,j⟩:=hrel;have bi:Hid (gk=O M.ds - b):=r;clear r;by_cases aO:b<O M.ds
  ·have aP:(b:Int)<(O M.ds:Int):=oM;obtain⟨d,y⟩:∃d,M.ds[b]? =some d:=⟨_,gG aO⟩;obtain⟨g,aQ,bj,c⟩:=j.s.pi.data (i:=b) (d:=d) y;obtain rfl:ax=some ⟨g,0,I⟩:=by rw[<-bh];exact aQ
   obtain⟨ar,ay⟩:=bb.out b d y;obtain⟨F,G,K,L,z,N,P,R,p,A,f,S⟩:=d;have aR:Hid (eG (λn=>¬Mu n) (O M.ds) H ar w ⟨F,G,K,L,z,N,P,R,p,A,f,S⟩):=ay;have bG:O f<=30000:=ay.len;have T:wr.cell? ⟨g,b*10,I⟩=some (.string F):=c 0 dC;have V:wr.cell? ⟨g,b*10+1,I⟩=some (vN G):=c 1 dC;have az:wr.cell? ⟨g,b*10+2,I⟩=some (vN K):=c 2 dC;have aA:wr.cell? ⟨g,b*10+3,I⟩=some (.bool L):=c 3 dC;have aB:wr.cell? ⟨g,b*10+4,I⟩=some (.bool z):=c 4 dC;have aC:wr.cell? ⟨g,b*10+5,I⟩=some (.bool N):=c 5 dC;have bk:wr.cell? ⟨g,b*10+6,I⟩=some (vN P):=c 6 dC;have bl:wr.cell? ⟨g,b*10+7,I⟩=some (vN R):=c 7 dC;have bm:wr.cell? ⟨g,b*10+8,I⟩=some (J p (O f) A):=c 8 dC;have bn:wr.cell? ⟨g,b*10+9,I⟩=some (vN S):=c 9 dC;obtain⟨aT,aD⟩:=al1 wr (Ob #[.string F,vN G,vN K,.bool L,.bool z,.bool N,vN P,vN R,J p (O f) A,vN S] 69);have m:=j.below aT;clear ay c y aQ aT j;go_wp2_with fail;obtain⟨q,aU⟩:∃q,q=E (U wr):=⟨_,Q⟩;rw[<-aU] at aD⊢;clear aU T V az aA aB aC bk bl bm bn bj;go_loopg [5,7,21] (O f) (λC _ _ D aV=>∃(l:Nat) (k a:Int),C=O f - l/\D=vN l/\l<=O f/\MF w mb M trs au fns Xd Xi Xf Mu H aV k a/\aV.heap[q]? =some (Ob #[.string F,vN G,vN K,.bool L,.bool z,.bool N,vN P,vN R,J p (O f) A,vN S] 69 (0,0)))
   case atStart=>exact⟨0,_,_,Q,Q,zL _,m,aD⟩
   case round=>
    clear m aD;obtain⟨l,k,a,r,rfl,bH,j,o⟩:=hrel;have bo:Hid (gk=O f - l):=r;clear r;by_cases aW:l<O f
    ·have aX:(l:Int)<(O f:Int):=oM;obtain⟨W,aE⟩:∃W,f[l]? =some W:=⟨_,gG aW⟩;obtain⟨Z,bp,X,bq,c⟩:=(aR.out.row.frame (av.out j.kp) j.kp.size).lJ sQ (λx aF=>by obtain⟨aY,_,rfl⟩:=List.mem_map.1 aF;rfl) (i:=l) (x:=W.c) (by rw[List.getElem?_map,aE];rfl);obtain⟨rfl,rfl⟩:p=some ⟨Z,0,I⟩/\A=bp:=sU X;have aa:=aR.out.parts W (mG aE);obtain⟨aZ,ab,ac,e⟩:=W;have aG:Hid (ro w (λn=>¬Mu n) 6 (J ab (O e) ac) (O e) (e.map Pt.c).flatten/\∀B∈e,dZ (λn=>¬Mu n) (O M.ds) H w B.c):=⟨aa.1,aa.2.2⟩;have bI:O e<=30000:=aa.2.1;have T:wr.cell? ⟨Z,l*2,I⟩=some (.string aZ):=c 0 dC;have V:wr.cell? ⟨Z,l*2+1,I⟩=some (J ab (O e) ac):=c 1 dC;obtain⟨t,-⟩:=al1 wr (Ob #[.string aZ,J ab (O e) ac] 95);have m:=j.below t;have u:=(t.block q (gE o).1).trans o;clear c X aE aa t j o;go_wp2_with fail;clear T V bq;go_loopg [7,28] (O e) (λC _ D a0=>∃(i:Nat) (k a:Int),C=O e - i/\D=vN i/\i<=O e/\MF w mb M trs au fns Xd Xi Xf Mu H a0 k a/\a0.heap[q]? =some (Ob #[.string F,vN G,vN K,.bool L,.bool z,.bool N,vN P,vN R,J (aS Z) (O f) A,vN S] 69 (0,0)))
     case atStart=>exact⟨0,_,_,Q,Q,zL _,m,u⟩
     case round=>
      clear m u;obtain⟨i,k,a,r,rfl,bJ,j,o⟩:=hrel;have aH:Hid (gk=O e - i):=r;clear r;have a1:=λaI=>cell_of_row wr _ aI _ 69 (0,0) o;have aJ:q<E (U wr):=(gE o).1;have br:q<E (U wr)+1:=oM;by_cases Y:i<O e
      ·have a2:(i:Int)<(O e:Int):=oM;obtain⟨B,aK⟩:∃B,e[i]? =some B:=⟨_,gG Y⟩;obtain⟨v,bs,X,bK,c⟩:=(aG.out.1.frame (av.out j.kp) j.kp.size).lJ sQ (λx aF=>by obtain⟨aY,bt,rfl⟩:=List.mem_map.1 aF;obtain⟨bL,bN,bO,bu,bP,bQ,bR,bS,bT,bV,s,-⟩:=aG.out.2 aY bt;rw[s];rfl) (i:=i) (x:=B.c) (by rw[List.getElem?_map,aK];rfl);obtain⟨rfl,rfl⟩:ab=some ⟨v,0,I⟩/\ac=bs:=sU X;obtain⟨aL,aM,ad,ae,ag,ah,ai,p,aj,al,a3,a4⟩:=aG.out.2 B (mG aK);rw[a3] at c;have T:wr.cell? ⟨v,i*6,I⟩=some (.string aL):=c 0 dC;have V:wr.cell? ⟨v,i*6+1,I⟩=some (.bool aM):=c 1 dC;have az:wr.cell? ⟨v,i*6+2,I⟩=some (vN ad):=c 2 dC;have aA:wr.cell? ⟨v,i*6+3,I⟩=some (vN ae):=c 3 dC;have aB:wr.cell? ⟨v,i*6+4,I⟩=some (J ag ah ai):=c 4 dC;have aC:wr.cell? ⟨v,i*6+5,I⟩=some (J p aj al):=c 5 dC;obtain⟨t,-⟩:=al1 wr (Ob (ix aL aM ad ae (J ag ah ai) (J p aj al)) 97);have m:=j.below t;have u:=(t.block q aJ).trans o;have bv:Hid (af (λn=>¬Mu n) (Gd (O M.ds)) H (wr.alloc (Ob (ix aL aM ad ae (J ag ah ai) (J p aj al)) 97)) (ak ad ae (J ag ah ai) (J p aj al)).toList):=af.frame (av.out m.kp) m.kp.size _ _ a4;clear c X aK a3 a4 t
       cases z
       ·go_wp2_with fail;go_roundg (O e - (i+1))
        case measure=>rw[aH.out];omega
        case rel=>exact⟨i+1,_,_,Q,by go_num,Y,m,u⟩
       ·by_cases a5:k=0
        ·subst a5
         go_wp2_with (first
          |(go_at_call 30;refine(bM m.s.mk').mono ?_;rintro s bw ⟨rfl,rfl⟩)
          |(go_at_call 51;refine(nY H m.s.pi bv.out).mono ?_;rintro s a6 ⟨bW,rfl,a7⟩;have ao:=m.below a7;have ap:=(a7.block q (gE u).1).trans u;clear a1 aJ br T V az aA aB aC;have a1:=λaI=>cell_of_row a6 _ aI _ 69 (0,0) ap;have aJ:q<E (U a6):=(gE ap).1)
          |(go_at_call 39;refine(bU ao.s.mk' _ _).mono ?_;rintro s bX ⟨⟨bY,bu,rfl,bx,a8,bz⟩,-⟩;have bA:=ao.no a8 bx bz;have bB:=ao.dV ap dC a8))
         all_goals
          go_roundg (O e - (i+1))
          case measure=>rw[aH.out];omega
          case rel=>
           first
            |exact⟨i+1,_,_,Q,by go_num,Y,bA,bB⟩
            |exact⟨i+1,_,_,Q,by go_num,Y,ao,ap⟩
        ·have bZ:(k==0)=false:=sU a5;go_wp2_with (go_at_call 30;refine(bM m.s.mk').mono ?_;rintro s bw ⟨rfl,rfl⟩)
         go_roundg (O e - (i+1))
         case measure=>rw[aH.out];omega
         case rel=>exact⟨i+1,_,_,Q,by go_num,Y,m,u⟩
      ·have a2:¬(i:Int)<(O e:Int):=oM;have b0:decide ((i:Int)<(O e:Int))=false:=sU a2;go_wp2_with fail;go_roundg (O f - (l+1))
       case measure=>rw[bo.out];omega
       case rel=>exact⟨l+1,_,_,Q,by go_num,aW,j,o⟩
    ·have aX:¬(l:Int)<(O f:Int):=oM;have b1:decide ((l:Int)<(O f:Int))=false:=sU aX;go_wp2_with fail;go_roundg (O M.ds - (b+1))
     case measure=>rw[bi.out];omega
     case rel=>exact⟨b+1,_,_,Q,by go_num,aO,j⟩
  ·have aP:¬(b:Int)<(O M.ds:Int):=oM;have b2:decide ((b:Int)<(O M.ds:Int))=false:=sU aP;go_wp2_with fail;go_end0;exact⟨k,a,Q,j⟩
end
section
variable{a k:Int} {M:MK} {H Xd Xf Xi mb:Nat} {Mu:Nat->Prop} {fns au trs:VV} {w wr:World}
def jc (w:World) (mb:Nat) (M:MK) (trs au fns:VV) (Xd Xi Xf:Nat) (Mu:Nat->Prop) (H:Nat) (e:Ending) (w':World):Prop:=∃(k a mn:Int),e=.returned (.tuple #[])/\MS w' mb ({M with mn:=mn}.bu k a) trs au fns Xd Xi Xf Mu H/\Kp (E (U w)) mb w w'
theorem MF.mg (q:MF w mb M trs au fns Xd Xi Xf Mu H wr k a):jc w mb M trs au fns Xd Xi Xf Mu H (.returned (.tuple #[])) wr:=⟨k,a,M.mn,Q,q.s,q.kp⟩
theorem MF.uL (q:MF w mb M trs au fns Xd Xi Xf Mu H wr k a) (x:Int):jc w mb M trs au fns Xd Xi Xf Mu H (.returned (.tuple #[])) (wr.setCell ⟨mb,5,I⟩ (vN x)):=by
 have h:=q.s;have l:KX Mu (E (U wr)) wr (wr.setCell ⟨mb,5,I⟩ (vN x)):=(KX.refl _ _ _).setCell (p:=⟨mb,5,I⟩) (.inr h.dG) _;have b:KT (λm=>m≠66) wr (wr.setCell ⟨mb,5,I⟩ (vN x)):=KT.set h.mk' 5 _
 have n:cz (wr.setCell ⟨mb,5,I⟩ (vN x)) mb ({M with mn:=x}.bu k a):=by
  have:=heap_setCell_same wr mb 5 _ 66 (vN x) h.mk';show _=_;simpa using this
 have i:aq (λc=>¬Mu c) wr (wr.setCell ⟨mb,5,I⟩ (vN x)):=λc j o=>l.block c o j;have d:=l.size;obtain⟨r,s,t,u⟩:=h.jR;have e:=h.pi;exact⟨k,a,x,Q,⟨⟨n,e.cE.kt b dC dC,e.q,ag e.cd b dC,e.bj,e.lg⟩,ag h.tr b dC,ag h.im b dC,ag h.fn b dC,h.dG,λc j=>Nat.lt_of_lt_of_le (h.mlt c j) d,h.ly,h.jL,h.js,h.jW,h.lK,h.lV,⟨r,s,t,λv y z A B=>(u v y z A B).frame i d⟩,λx f=>(h.jo x f).frame i d,h.lN.imp (λC x f=>f.frame i d),h.lD.imp (λC x f=>f.frame i d)⟩,q.kp.setCell (p:=⟨mb,5,I⟩) (.inr Q) _⟩
theorem jc.below {w':World} {e:Ending} (h:jc w mb M trs au fns Xd Xi Xf Mu H e wr) (b:Below (E (U wr)) wr w'):jc w mb M trs au fns Xd Xi Xf Mu H e w':=by
 obtain⟨k,a,d,f,i,c⟩:=h;exact⟨k,a,d,f,i.below b,c.trans ((Kp.al b).mono c.size)⟩
theorem ig.len {S:Nat->Prop} {D X:Nat} {x:List Value} (h:ig S D H X w x):O x=30:=by
 obtain⟨b,c,d,e,f,i,j,l,m,n,o,p,q,r,s,t,u,v,y,z,A,B,C,F,G,K,L,N,P,R,T,V,W,Y,Z,aa,ab,ac,rfl,ad⟩:=h;rfl
theorem wj (h:MS w mb M trs au fns Xd Xi Xf Mu H) {fo:OA} {fc:Nat} (a4:M.fv=J fo (O fns) fc) (bo:O fns<=200000) (hF:M.fk=0->∀m∈M.ms,∀v∈m.ns.take m.own,v.sort=3->0<=v.n/\v.n<(O fns:Int)):
 Calls Tryz.prog 29 #[.pointer (aS mb)] w (jc w mb M trs au fns Xd Xi Xf Mu H):=by
 have aa:=MF.refl h;have D:=h.mk'.cell;have F:=h.mk'.lt;by_cases ab:M.fk=0
 ·have a5:(M.fk==0)=true:=by simp[ab]
  have aC:Hid (∀m∈M.ms,∀v∈m.ns.take m.own,v.sort=3->0<=v.n/\v.n<(O fns:Int)):=hF ab;have aD:Hid (MS w mb M trs au fns Xd Xi Xf Mu H):=h;clear ab hF h;go_enter Tryz.func29,Tryz.ntmps29
  go_wp2_with (first
   |(go_at_call 30;refine(bM aa.s.mk').mono ?_;rintro n aE ⟨rfl,rfl⟩)
   |(go_at_call 38;refine(kP aD.out.pi.cE _ _ _ _ _ _ _).mono ?_;rintro n aE ⟨aF,rfl,a6,a7⟩;have G:=aa.below a7;clear D F;have D:=G.s.mk'.cell;have F:=G.s.mk'.lt))
  ·obtain⟨ac,rfl⟩:∃ac:Nat,aF=(ac:Int):=⟨aF.toNat,oM⟩;obtain⟨ap,aq⟩:∃ap,M.ms[ac]? =some ap:=⟨_,gG oM⟩;refine(pR G.s.pi.cE _ _ _ _ _ _ aq _).mono ?_;rintro n o ⟨⟨q,l,ad,r⟩,ae,rfl,aG,-,aH⟩;have x:=G.below aH;obtain⟨aI,aJ⟩:=al1 o (Ob #[.string q,vN l,vN ad,.bool r] 104);have u:=x.below aI;have aK:Hid (ae=true->∃m∈M.ms,(⟨q,l,ad,r⟩:Nm)∈m.ns.take m.own):=λn=>⟨ap,mG aq,(aG n).1⟩;clear aG aH D F aq a6 aI;have D:=x.s.mk'.cell;have F:=x.s.mk'.lt
   cases ae
   ·go_wp2_with fail;refine(bU u.s.mk' _ _).mono ?_;rintro n y ⟨⟨z,A,rfl,e,f,i⟩,-⟩;have j:=u.no f e i;go_wp2_with fail;go_end0;exact j.mg
   ·by_cases ag:l=3
    ·have a8:(l==3)=true:=eT ag;obtain⟨a9,aL,aM⟩:=aK.out Q;obtain⟨aN,aO⟩:=aC.out a9 aL _ aM ag;simp only at aN aO;obtain⟨b,rfl⟩:∃b:Nat,ad=(b:Int):=⟨ad.toNat,oM⟩;have bp:(b:Int)<(O fns:Int):=oM;obtain⟨ah,R⟩:∃ah,fns[b]? =some ah:=⟨_,gG oM⟩;obtain⟨aQ,a'⟩:=u.s.lD.at R;have ar:=u.s.fn;have aR:(M.bu M.fk M.fa).fv=J fo (O fns) fc:=a4;rw[aR] at ar;obtain⟨d,ba,aT,bb,-,aU⟩:=aP ar Q (λv bc=>by obtain⟨ac,bd⟩:=List.getElem?_of_mem bc;obtain⟨aQ,bf⟩:=u.s.lD.at bd;exact bf.len) R;obtain⟨rfl,rfl⟩:fo=some ⟨d,0,I⟩/\fc=ba:=sU aT;obtain⟨bq,br,bs,bt,bu,bv,bw,bx,bz,K,ai,on,aj,al,L,ao,N,P,s,B,S,T,V,W,X,Y,Z,bg,bh,bi,bA,bB,bC,bD,bE,bF,bG,bH,rfl,aV⟩:=a'
     have av:∀{c:World},Below (E (U (o.alloc (Ob #[.string q,vN l,vN (b:Int),.bool r] 104)))) (o.alloc (Ob #[.string q,vN l,vN (b:Int),.bool r] 104)) c->(Ce c mb (jM M))/\(Ce c (E (U o)) (#[.string q,vN l,vN (b:Int),.bool r]:Array Value))/\c.cell? ⟨d,b*30+7,I⟩=some (vN K)/\c.cell? ⟨d,b*30+7+1,I⟩=some (J ai on aj)/\c.cell? ⟨d,b*30+7+2,I⟩=some (J al L ao)/\c.cell? ⟨d,b*30+7+3,I⟩=some (J N (O s) P)/\c.cell? ⟨d,b*30+7+4,I⟩=some (vN B)/\c.cell? ⟨d,b*30+7+5,I⟩=some (vN S)/\c.cell? ⟨d,b*30+7+6,I⟩=some (J T V W)/\c.cell? ⟨d,b*30+7+7,I⟩=some (J X Y Z):=λ{c} aw=>by
      have k:∀C,C<30->c.cell? ⟨d,b*30+C,I⟩=_:=λC bj=>(aw.cell (p:=⟨d,b*30+C,I⟩) bb).trans (aU C bj);exact⟨(u.s.mk'.below aw).cell,λC=>cell_of_row c _ C _ 104 (0,0) ((aw.block _ (gE aJ).1).trans aJ),k 7 dC,k 8 dC,k 9 dC,k 10 dC,k 11 dC,k 12 dC,k 13 dC,k 14 dC⟩
     have aW:Hid (∀{c:World},Below (E (U (o.alloc (Ob #[.string q,vN l,vN (b:Int),.bool r] 104)))) (o.alloc (Ob #[.string q,vN l,vN (b:Int),.bool r] 104)) c->(Ce c mb (jM M))/\(Ce c (E (U o)) (#[.string q,vN l,vN (b:Int),.bool r]:Array Value))/\c.cell? ⟨d,b*30+7,I⟩=some (vN K)/\c.cell? ⟨d,b*30+7+1,I⟩=some (J ai on aj)/\c.cell? ⟨d,b*30+7+2,I⟩=some (J al L ao)/\c.cell? ⟨d,b*30+7+3,I⟩=some (J N (O s) P)/\c.cell? ⟨d,b*30+7+4,I⟩=some (vN B)/\c.cell? ⟨d,b*30+7+5,I⟩=some (vN S)/\c.cell? ⟨d,b*30+7+6,I⟩=some (J T V W)/\c.cell? ⟨d,b*30+7+7,I⟩=some (J X Y Z)):=@av;have ax:Hid (ot (λae=>¬Mu ae) (O M.ds) H (o.alloc (Ob #[.string q,vN l,vN (b:Int),.bool r] 104)) N P s bg bh bi (ak B S (J T V W) (J X Y Z)).toList aQ):=aV;clear av aU aV ag aN aO aM aL aK aT R ar aR aC aD;go_wp2_with fail;go_region_held3 (λc=>(Ce c mb (jM M))/\(Ce c (E (U o)) (#[.string q,vN l,vN (b:Int),.bool r]:Array Value))/\c.cell? ⟨d,b*30+7,I⟩=some (vN K)/\c.cell? ⟨d,b*30+7+1,I⟩=some (J ai on aj)/\c.cell? ⟨d,b*30+7+2,I⟩=some (J al L ao)/\c.cell? ⟨d,b*30+7+3,I⟩=some (J N (O s) P)/\c.cell? ⟨d,b*30+7+4,I⟩=some (vN B)/\c.cell? ⟨d,b*30+7+5,I⟩=some (vN S)/\c.cell? ⟨d,b*30+7+6,I⟩=some (J T V W)/\c.cell? ⟨d,b*30+7+7,I⟩=some (J X Y Z)) (first|assumption|exact aW.out ((Below.refl _ _).drew)|exact aW.out ((al1 _ _).1.drew)) (fail)
     have t:=u.below ((al1 _ (Ob #[vN K,J ai on aj,J al L ao,J N (O s) P,vN B,vN S,J T V W,J X Y Z] 79)).1.drew);clear D F;have D:=x.s.mk'.cell;have bI:=x.s.mk'.fz;have F:=x.s.mk'.lt;have bJ:mb<E (U o)+1:=oM;have bK:mb<E (U o)+1+1:=oM;by_cases bk:L=0
     ·subst bk;by_cases aX:K=0
      ·subst aX;by_cases aY:O s=1
       ·obtain⟨ay,az⟩:∃ay,s[0]? =some ay:=⟨_,gG oM⟩;obtain⟨aA,bl,aZ,bm,a0⟩:=ax.out.ri.lJ Q (λah R=>af.four _ _ (ax.out.ti ah R)) az;obtain⟨rfl,rfl⟩:N=some ⟨aA,0,I⟩/\P=bl:=sU aZ;obtain⟨aB,bL,bN,bO,bP,bQ,bR,bS,a1⟩:=af.cells _ (ax.out.ti ay (mG az))
        have av:(o.alloc (Ob #[.string q,vN l,vN (b:Int),.bool r] 104)).cell? ⟨aA,0,I⟩=some (vN aB):=by
         have:=a0 0 dC;rw[a1] at this;simpa using this
        have bT:aA<E (U o)+1:=sU bm;have bn:((O s:Int)==1)=true:=by simp[aY]
        have bV:(0:Int)<(O s:Int):=oM;clear a0 aZ a1 az aY;by_cases a2:aB=1
        ·subst a2;by_cases a3:B=1
         ·subst a3;go_wp2_with fail;go_end0;exact(x.uL _).below ((dW _ _ _).1.drew)
         ·have bW:(B==1)=false:=eF a3;go_wp2_with fail;refine(bU t.s.mk' _ _).mono ?_;rintro n y ⟨⟨z,A,rfl,e,f,i⟩,-⟩;have j:=t.no f e i;go_wp2_with fail;go_end0;exact j.mg
        ·have bX:(aB==1)=false:=eF a2;go_wp2_with fail;refine(bU t.s.mk' _ _).mono ?_;rintro n y ⟨⟨z,A,rfl,e,f,i⟩,-⟩;have j:=t.no f e i;go_wp2_with fail;go_end0;exact j.mg
       ·have bn:((O s:Int)==1)=false:=by simp;omega
        go_wp2_with fail;refine(bU t.s.mk' _ _).mono ?_;rintro n y ⟨⟨z,A,rfl,e,f,i⟩,-⟩;have j:=t.no f e i;go_wp2_with fail;go_end0;exact j.mg
      ·have bY:(K==0)=false:=eF aX;go_wp2_with fail;refine(bU t.s.mk' _ _).mono ?_;rintro n y ⟨⟨z,A,rfl,e,f,i⟩,-⟩;have j:=t.no f e i;go_wp2_with fail;go_end0;exact j.mg
     ·have bZ:((L:Int)==0)=false:=by simp;omega
      go_wp2_with fail;refine(bU t.s.mk' _ _).mono ?_;rintro n y ⟨⟨z,A,rfl,e,f,i⟩,-⟩;have j:=t.no f e i;go_wp2_with fail;go_end0;exact j.mg
    ·have a8:(l==3)=false:=eF ag;go_wp2_with fail;refine(bU u.s.mk' _ _).mono ?_;rintro n y ⟨⟨z,A,rfl,e,f,i⟩,-⟩;have j:=u.no f e i;go_wp2_with fail;go_end0;exact j.mg
  ·refine(bU G.s.mk' _ _).mono ?_;rintro n y ⟨⟨z,A,rfl,e,f,i⟩,-⟩;have j:=G.no f e i;go_wp2_with fail;go_end0;exact j.mg
 ·have a5:(M.fk==0)=false:=sU ab;go_enter Tryz.func29,Tryz.ntmps29
  go_wp2_with (go_at_call 30;refine(bM aa.s.mk').mono ?_;rintro n aE ⟨rfl,rfl⟩)
  go_end0;exact aa.mg
end
section
variable{g mb n size:Nat} {w w':World}
theorem cW {base e:Nat} {v:Value} {xs:List Value} (h:w.ownsRow base e size v n xs) (a:v.ownBlock=some g) (j:Nat) (u:Value):(w.setCell ⟨g,j,I⟩ u).ownsRow base e size v n (xs.set j u):=by
 refine⟨by rw[List.length_set];exact h.1,?_⟩;rcases h.2 with⟨b,c⟩|⟨g',cap,cur,h1,hb,hg,hnc,hcm,hcs,htake⟩
 ·rw[b] at a;simp[Value.ownBlock] at a
 ·rw[h1] at a;obtain rfl:g'=g:=by simpa[Value.ownBlock] using a
  refine .inr ⟨g',cap,cur.setIfInBounds j u,h1,hb,heap_setCell_same w g' j cur e u hg,hnc,hcm,by rw[Array.size_setIfInBounds];exact hcs,?_⟩;rw[Array.toList_setIfInBounds,List.take_set,htake]
theorem gp:∀{us:VV},(∀x∈us,O x=size)->∀{i:Nat} {x:List Value},us[i]? =some x->∀{o:Nat},o<size->∀u,us.flatten.set (i*size+o) u=(us.set i (x.set o u)).flatten:=by
 intro us;induction us with
 |nil=>intro _ i x h;simp at h
 |cons a r b=>
  intro hl i x h o c u;have d:=hl a sQ
  cases i with
  |zero=>
   obtain rfl:a=x:=sU h;rw[Nat.zero_mul,Nat.zero_add,List.flatten_cons,List.set_cons_zero,List.flatten_cons,List.set_append_left _ _ oM]
  |succ i=>
   have e:(i+1)*size+o=size+(i*size+o):=by rw[Nat.add_mul,Nat.one_mul];omega
   rw[e,List.flatten_cons,List.set_cons_succ,List.flatten_cons,List.set_append_right _ _ oM,d,Nat.add_sub_cancel_left,b (λz f=>hl z (List.mem_cons_of_mem _ f)) (sU h) c]
theorem KT.yD {M:MK} (c:cz w mb M) (d:Kp (E (U w)) mb w w'):KT (λa=>a≠66) w w':=λe j a k b f=>d.block e (gE b).1 (λi=>by
 subst i;exact aJ b c f Q)
abbrev Dd.vg (d:Dd) (fn:Int):Dd:={d with drop:=fn}
abbrev MK.vg (M:MK) (n:Nat) (d:Dd) (fn:Int):MK:={M with ds:=M.ds.set n (d.vg fn)}
section
variable{w w':World} {mb:Nat} {M:MK} {trs au fns:VV} {Xd Xi Xf:Nat} {Mu Mu':Nat->Prop} {H H':Nat}
theorem MS.mj (h:MS w mb M trs au fns Xd Xi Xf Mu H) {d:Dd} (u:M.ds[n]? =some d) (F:M.df=some ⟨g,0,I⟩) (a:Int):MS (w.setCell ⟨g,n*10+9,I⟩ (vN a)) mb (M.vg n d a) trs au fns Xd Xi Xf Mu H/\KX Mu (E (U w)) w (w.setCell ⟨g,n*10+9,I⟩ (vN a))/\KT (λc=>c≠69) w (w.setCell ⟨g,n*10+9,I⟩ (vN a)):=by
 have y:(Value.slice M.df (O M.ds) M.eo).ownBlock=some g:=by rw[F];rfl
 obtain⟨aa,G⟩:=aY h.pi.cd y;have l:KT (λc=>c≠69) w (w.setCell ⟨g,n*10+9,I⟩ (vN a)):=KT.set G _ _;have z:KX Mu (E (U w)) w (w.setCell ⟨g,n*10+9,I⟩ (vN a)):=(KX.refl _ _ _).setCell (p:=⟨g,n*10+9,I⟩) (.inr (h.js g y)) _;have s:aq (λj=>¬Mu j) w (w.setCell ⟨g,n*10+9,I⟩ (vN a)):=λj m K=>z.block j K m;have q:=z.size;have b:O (M.vg n d a).ds=O M.ds:=List.length_set;have r:=h.pi;have L:∀e∈(M.vg n d a).ds,e∈M.ds\/e=d.vg a:=λe f=>List.mem_or_eq_of_mem_set f;have N:=mG u;obtain⟨P,R,S,B⟩:=h.jR;have C:=cW r.cd y (n*10+9) (vN a)
 have T:(M.ds.map Dd.c).flatten.set (n*10+9) (vN a)=((M.vg n d a).ds.map Dd.c).flatten:=by
  have:=gp (size:=10) (us:=M.ds.map Dd.c) (λx k=>by obtain⟨t,_,rfl⟩:=List.mem_map.1 k;rfl) (i:=n) (x:=d.c) (by rw[List.getElem?_map,u];rfl) (o:=9) dC (vN a);rw[this];show _=((M.ds.set n (d.vg a)).map Dd.c).flatten;rw[List.map_set];rfl
 rw[T] at C;refine⟨⟨⟨?_,r.cE.kt l dC dC,?_,?_,?_,?_⟩,ag h.tr l dC,ag h.im l dC,ag h.fn l dC,h.dG,λj m=>Nat.lt_of_lt_of_le (h.mlt j m) q,h.ly,h.jL,?_,h.jW,h.lK,h.lV,⟨P,by rw[b];exact R,S,?_⟩,?_,?_,?_⟩,z,l⟩
 ·have:=aw l h.mk' dC;unfold cz at*;rw[this];simp
 ·intro V W t v;rw[b];exact r.q V W t v
 ·rw[b];exact C
 ·rw[b];exact r.bj
 ·intro e f;rcases L e f with A|A
  ·exact r.lg e A
  ·rw[A];exact r.lg d N
 ·intro j m;rw[b] at m;exact h.js j m
 ·intro i e t f v;rw[b];by_cases D:i=n
  ·subst D;have X:=(gS u).1;rw[List.getElem?_set_self X] at f;obtain rfl:=Option.some.inj f;have c:=(B i d t u v).frame s q;exact⟨c.row,c.parts,c.len,c.sz⟩
  ·rw[List.getElem?_set_ne (λY=>D Y.symm)] at f;exact(B i e t f v).frame s q
 ·intro x k;rw[b];exact(h.jo x k).frame s q
 ·rw[b];exact h.lN.imp (λZ x k=>k.frame s q)
 ·rw[b];exact h.lD.imp (λZ x k=>k.frame s q)
end
end
end Go.Proofs.YtdghkacbpebcoaaGreat
