import Derived.Deep.MidRow
import Derived.Test.YtcnnibahjmekdaaGreatS39
namespace Go.Proofs.YtcnnibahjmekdaaGreat
open Go.RowKit
open Value renaming slice→J
open List renaming length→O
open Option renaming none→I
open World renaming heap→U
open _root_.Array renaming size→E
open Obj renaming cells→Ob
set_option linter.all false
set_option maxRecDepth 100000
set_option maxHeartbeats 0
section
variable{out x:List Value} {D H X X' ic vc:Nat} {io vo:OA} {ts vs xs:VV} {w w':World}
structure nr (S:Nat->Prop) (D H:Nat) (w:World) (io:OA) (ic:Nat) (ts:VV) (vo:OA) (vc:Nat) (vs:VV) (out:List Value) (X:Nat):Prop where
 ri:ro w S 4 (J io (O ts) ic) (O ts) ts.flatten
 rv:ro w S 6 (J vo (O vs) vc) (O vs) vs.flatten
 ti:∀x∈ts,af S (Gd D) H w x
 tv:∀x∈vs,eo S D H w x
 lH:af S (Gd D) H w out
 si:∀f,(ts.map (aU f w)).sum<=X
 sv:∀f,(vs.map (λx=>aU f w (x.drop 2))).sum<=X
 so:∀f,aU f w out<=X
 li:O ts<=30000
 lv:O vs<=30000
theorem zD.zK {a:Nat->Prop} (h:zD w a D H w' io ic ts vo vc vs out X):nr (λb=>a b\/E (U w)<=b) D H w' io ic ts vo vc vs out X:=⟨h.ri,h.rv,h.ti,h.tv,h.lH,h.si,h.sv,h.so,h.li,h.lv⟩
section
variable{S S':Nat->Prop} {D H H':Nat} {w w':World} {io:OA} {ic:Nat} {ts:VV} {vo:OA} {vc:Nat} {vs:VV} {out:List Value} {X X':Nat}
theorem nr.frame (h:nr S D H w io ic ts vo vc vs out X) (a:al S w w') (b:E (U w)<=E (U w')):nr S D H w' io ic ts vo vc vs out X:=
 ⟨h.ri.frame a b,h.rv.frame a b,λx c=>af.frame a b _ _ (h.ti x c),λx c=>((h.tv x c).frame a b).1,af.frame a b _ _ h.lH,λe=>by rw[List.map_congr_left (λx c=>aJ a b _ _ (h.ti x c) e)];exact h.si e,λe=>by rw[List.map_congr_left (λx c=>((h.tv x c).frame a b).2 e)];exact h.sv e,λe=>by rw[aJ a b _ _ h.lH];exact h.so e,h.li,h.lv⟩
theorem nr.weaken (h:nr S D H w io ic ts vo vc vs out X) (a:∀b,S b->b<E (U w)->S' b):nr S' D H w io ic ts vo vc vs out X:=
 ⟨h.ri.weaken a,h.rv.weaken a,λx c=>af.weaken a _ _ (h.ti x c),λx c=>(h.tv x c).weaken a,af.weaken a _ _ h.lH,h.si,h.sv,h.so,h.li,h.lv⟩
theorem nr.le (h:nr S D H w io ic ts vo vc vs out X) (b:H<=H') (c:X<=X'):nr S D H' w io ic ts vo vc vs out X':=
 ⟨h.ri,h.rv,λx e=>af.le (h.ti x e) _ b,λx e=>(h.tv x e).le b,af.le h.lH _ b,λa=>lT (h.si a) c,λa=>lT (h.sv a) c,λa=>lT (h.so a) c,h.li,h.lv⟩
end
abbrev nj (nm:ByteArray) (mod at_:Int) (eQ:Bool) (impl kind:Int) (to':OA) (tn tc:Nat) (lv:Int) (oo:OA) (on oc:Nat) (go:OA) (gn gc:Nat) (io:OA) (il ic:Nat) (o0 o1:Int) (o2 o3:Value) (vv:Value) (bk bp bn bm:Int) (bs:ByteArray) (bo:OA) (bl bc:Nat):Array Value:=#[.string nm,vN mod,vN at_,.bool eQ,vN impl,vN kind,J to' tn tc,vN lv,J oo on oc,J go gn gc,J io il ic,vN o0,vN o1,o2,o3,aF,vv,vN bk,vN bp,vN bn,vN bm,.string bs,J bo bl bc,vN 0,vN 0,aF,aF,aF,aF,vN 0]
def gM (S:Nat->Prop) (D H X:Nat) (w:World) (x:List Value):Prop:=
 ∃(nm:ByteArray) (mod at_:Int) (eQ:Bool) (impl kind:Int) (to':OA) (tn tc:Nat) (lv:Int) (oo:OA) (on oc:Nat) (go:OA) (gn gc:Nat) (io:OA) (ic:Nat) (ts:VV) (o0 o1:Int) (l2:OA) (l3 l4:Nat) (l5:OA) (l6 l7:Nat) (vo:OA) (vc:Nat) (vs:VV) (bk bp bn bm:Int) (bs:ByteArray) (bo:OA) (bl bc:Nat),
  x=(nj nm mod at_ eQ impl kind to' tn tc lv oo on oc go gn gc io (O ts) ic o0 o1 (J l2 l3 l4) (J l5 l6 l7) (J vo (O vs) vc) bk bp bn bm bs bo bl bc).toList/\nr S D H w io ic ts vo vc vs (ai o0 o1 (J l2 l3 l4) (J l5 l6 l7)).toList X
abbrev df (tr mod at_ ak:Int) (gv:Value) (kind n:Int) (lv av fv:Value):Array Value:=#[vN tr,vN mod,vN at_,vN ak,gv,vN kind,vN n,lv,av,fv]
def iI (S:Nat->Prop) (D H X:Nat) (w:World) (x:List Value):Prop:=
 ∃(tr mod at_ ak:Int) (go:OA) (gn gc:Nat) (kind n:Int) (lo:OA) (ln lc:Nat) (ao:OA) (an ac:Nat) (fo:OA) (fn fc:Nat),x=(df tr mod at_ ak (J go gn gc) kind n (J lo ln lc) (J ao an ac) (J fo fn fc)).toList/\af S (Gd D) H w (ai kind n (J lo ln lc) (J ao an ac)).toList/\∀f,aU f w (ai kind n (J lo ln lc) (J ao an ac)).toList<=X
abbrev eR (nm:ByteArray) (lv:Int) (ov gv:Value) (io:OA) (il ic:Nat) (o0 o1:Int) (o2 o3:Value):Array Value:=#[.string nm,vN lv,ov,gv,J io il ic,vN o0,vN o1,o2,o3]
def fT (S:Nat->Prop) (D H:Nat) (w:World) (x:List Value):Prop:=
 ∃(nm:ByteArray) (lv:Int) (oo:OA) (on oc:Nat) (go:OA) (gn gc:Nat) (io:OA) (ic:Nat) (ts:VV) (o0 o1:Int) (l2:OA) (l3 l4:Nat) (l5:OA) (l6 l7:Nat),x=(eR nm lv (J oo on oc) (J go gn gc) io (O ts) ic o0 o1 (J l2 l3 l4) (J l5 l6 l7)).toList/\ro w S 4 (J io (O ts) ic) (O ts) ts.flatten/\(∀y∈ts,af S (Gd D) H w y)/\af S (Gd D) H w (ai o0 o1 (J l2 l3 l4) (J l5 l6 l7)).toList/\O ts<=30000
abbrev js (nm:ByteArray) (mod at_:Int) (eQ:Bool) (mo:OA) (ml mc:Nat):Array Value:=#[.string nm,vN mod,vN at_,.bool eQ,J mo ml mc]
def ja (S:Nat->Prop) (D H:Nat) (w:World) (x:List Value):Prop:=
 ∃(nm:ByteArray) (mod at_:Int) (eQ:Bool) (mo:OA) (mc:Nat) (ms:VV),x=(js nm mod at_ eQ mo (O ms) mc).toList/\ro w S 9 (J mo (O ms) mc) (O ms) ms.flatten/\(∀y∈ms,fT S D H w y)/\O ms<=30000
def Pt.c (p:Pt):List Value:=.string p.name::.bool p.eQ::p.ty
def Cs.c (c:Cs):List Value:=[.string c.name,J c.ao (O c.ps) c.cp]
structure eB (S:Nat->Prop) (D H X:Nat) (w:World) (d:Dd):Prop where
 row:ro w S 2 (J d.ao (O d.cs) d.cp) (O d.cs) (d.cs.map Cs.c).flatten
 parts:∀c∈d.cs,ro w S 6 (J c.ao (O c.ps) c.cp) (O c.ps) (c.ps.map Pt.c).flatten/\O c.ps<=30000/\∀p∈c.ps,eo S D H w p.c
 len:O d.cs<=30000
 sz:∀f,(d.cs.map (λc=>(c.ps.map (λp=>aU f w p.ty)).sum)).sum<=X
section
variable{S S':Nat->Prop} {D H H' X X':Nat} {w w':World} {x:List Value} {d:Dd}
theorem gM.frame (h:gM S D H X w x) (a:al S w w') (b:E (U w)<=E (U w')):gM S D H X w' x:=by
 obtain⟨c,e,f,i,j,k,l,m,n,o,p,q,r,s,t,u,v,y,z,A,B,C,F,G,K,L,N,P,R,T,V,W,Y,Z,aa,ab,ac,ad,ae,af⟩:=h;exact⟨c,e,f,i,j,k,l,m,n,o,p,q,r,s,t,u,v,y,z,A,B,C,F,G,K,L,N,P,R,T,V,W,Y,Z,aa,ab,ac,ad,ae,af.frame a b⟩
theorem gM.weaken (h:gM S D H X w x) (a:∀b,S b->b<E (U w)->S' b):gM S' D H X w x:=by
 obtain⟨c,e,f,i,j,k,l,m,n,o,p,q,r,s,t,u,v,y,z,A,B,C,F,G,K,L,N,P,R,T,V,W,Y,Z,aa,ab,ac,ad,ae,af⟩:=h;exact⟨c,e,f,i,j,k,l,m,n,o,p,q,r,s,t,u,v,y,z,A,B,C,F,G,K,L,N,P,R,T,V,W,Y,Z,aa,ab,ac,ad,ae,af.weaken a⟩
theorem gM.le (h:gM S D H X w x) (a:H<=H') (b:X<=X'):gM S D H' X' w x:=by
 obtain⟨c,e,f,i,j,k,l,m,n,o,p,q,r,s,t,u,v,y,z,A,B,C,F,G,K,L,N,P,R,T,V,W,Y,Z,aa,ab,ac,ad,ae,af⟩:=h;exact⟨c,e,f,i,j,k,l,m,n,o,p,q,r,s,t,u,v,y,z,A,B,C,F,G,K,L,N,P,R,T,V,W,Y,Z,aa,ab,ac,ad,ae,af.le a b⟩
theorem iI.frame (h:iI S D H X w x) (a:al S w w') (b:E (U w)<=E (U w')):iI S D H X w' x:=by
 obtain⟨e,f,i,j,k,l,m,n,o,p,q,r,s,t,u,v,y,z,A,c,B⟩:=h;exact⟨e,f,i,j,k,l,m,n,o,p,q,r,s,t,u,v,y,z,A,af.frame a b _ _ c,λC=>by rw[aJ a b _ _ c];exact B C⟩
theorem iI.weaken (h:iI S D H X w x) (a:∀b,S b->b<E (U w)->S' b):iI S' D H X w x:=by
 obtain⟨c,e,f,i,j,k,l,m,n,o,p,q,r,s,t,u,v,y,z,A,B⟩:=h;exact⟨c,e,f,i,j,k,l,m,n,o,p,q,r,s,t,u,v,y,z,af.weaken a _ _ A,B⟩
theorem iI.le (h:iI S D H X w x) (a:H<=H'):iI S D H' X w x:=by
 obtain⟨b,c,e,f,i,j,k,l,m,n,o,p,q,r,s,t,u,v,y,z,A⟩:=h;exact⟨b,c,e,f,i,j,k,l,m,n,o,p,q,r,s,t,u,v,y,af.le z _ a,A⟩
theorem fT.frame (h:fT S D H w x) (a:al S w w') (b:E (U w)<=E (U w')):fT S D H w' x:=by
 obtain⟨c,e,f,i,j,k,l,m,n,o,p,q,r,s,t,u,v,y,z,A,B,C,F,G⟩:=h;exact⟨c,e,f,i,j,k,l,m,n,o,p,q,r,s,t,u,v,y,z,A,B.frame a b,λK L=>af.frame a b _ _ (C K L),af.frame a b _ _ F,G⟩
theorem fT.weaken (h:fT S D H w x) (a:∀b,S b->b<E (U w)->S' b):fT S' D H w x:=by
 obtain⟨c,e,f,i,j,k,l,m,n,o,p,q,r,s,t,u,v,y,z,A,B,C,F,G⟩:=h;exact⟨c,e,f,i,j,k,l,m,n,o,p,q,r,s,t,u,v,y,z,A,B.weaken a,λK L=>af.weaken a _ _ (C K L),af.weaken a _ _ F,G⟩
theorem fT.le (h:fT S D H w x) (a:H<=H'):fT S D H' w x:=by
 obtain⟨b,c,e,f,i,j,k,l,m,n,o,p,q,r,s,t,u,v,y,z,A,B,C,F⟩:=h;exact⟨b,c,e,f,i,j,k,l,m,n,o,p,q,r,s,t,u,v,y,z,A,λG K=>af.le (B G K) _ a,af.le C _ a,F⟩
theorem ja.frame (h:ja S D H w x) (a:al S w w') (b:E (U w)<=E (U w')):ja S D H w' x:=by
 obtain⟨c,e,f,i,j,k,l,m,n,o,p⟩:=h;exact⟨c,e,f,i,j,k,l,m,n.frame a b,λq r=>(o q r).frame a b,p⟩
theorem ja.weaken (h:ja S D H w x) (a:∀b,S b->b<E (U w)->S' b):ja S' D H w x:=by
 obtain⟨c,e,f,i,j,k,l,m,n,o,p⟩:=h;exact⟨c,e,f,i,j,k,l,m,n.weaken a,λq r=>(o q r).weaken a,p⟩
theorem ja.le (h:ja S D H w x) (a:H<=H'):ja S D H' w x:=by
 obtain⟨b,c,e,f,i,j,k,l,m,n,o⟩:=h;exact⟨b,c,e,f,i,j,k,l,m,λp q=>(n p q).le a,o⟩
theorem eB.frame (h:eB S D H X w d) (e:al S w w') (i:E (U w)<=E (U w')):eB S D H X w' d:=by
 refine⟨h.row.frame e i,λb c=>⟨(h.parts b c).1.frame e i,(h.parts b c).2.1,λa j=>(((h.parts b c).2.2 a j).frame e i).1⟩,h.len,λf=>?_⟩
 rw[List.map_congr_left (g:=λb=>(b.ps.map (λa=>aU f w a.ty)).sum) (λb c=>by
  show(b.ps.map (λa=>aU f w' a.ty)).sum=_;exact congrArg List.sum (List.map_congr_left (f:=λa:Pt=>aU f w' a.ty) (λa j=>(((h.parts b c).2.2 a j).frame e i).2 f)))]
 exact h.sz f
theorem eB.weaken (h:eB S D H X w d) (a:∀b,S b->b<E (U w)->S' b):eB S' D H X w d:=
 ⟨h.row.weaken a,λc e=>⟨(h.parts c e).1.weaken a,(h.parts c e).2.1,λf i=>((h.parts c e).2.2 f i).weaken a⟩,h.len,h.sz⟩
theorem eB.le (h:eB S D H X w d) (c:H<=H'):eB S D H' X w d:=
 ⟨h.row,λa b=>⟨(h.parts a b).1,(h.parts a b).2.1,λe f=>((h.parts a b).2.2 e f).le c⟩,h.len,h.sz⟩
end
def Sm (P:Nat->List Value->Prop) (xs:VV) (X:Nat):Prop:=∃Ys:List Nat,O Ys=O xs/\Ys.sum<=X/\∀(i:Nat) (x:List Value) (y:Nat),xs[i]? =some x->Ys[i]? =some y->P y x
theorem Sm.imp {P b:Nat->List Value->Prop} (h:Sm P xs X) (c:∀a x,P a x->b a x):Sm b xs X:=by
 obtain⟨e,f,i,j⟩:=h;exact⟨e,f,i,λk x a l m=>c a x (j k x a l m)⟩
theorem Sm.nil {P:Nat->List Value->Prop}:Sm P [] 0:=⟨[],Q,lR _,λb x c a=>by simp at a⟩
theorem Sm.snoc {P:Nat->List Value->Prop} {Y:Nat} (h:Sm P xs X) (f:P Y x):Sm P (xs++[x]) (X+Y):=by
 obtain⟨i,e,p,j⟩:=h;refine⟨i++[Y],by simp[e],by simp;omega,λc k l a b=>?_⟩;by_cases m:c<O xs
 ·rw[List.getElem?_append_left m] at a;rw[List.getElem?_append_left oM] at b;exact j c k l a b
 ·rw[List.getElem?_append_right oM] at a b;obtain⟨n,-⟩:=gS a;have o:c=O xs:=by simp at n;omega
  subst o;rw[Nat.sub_self] at a;rw[e,Nat.sub_self] at b;simp at a b;rw[<-a,<-b];exact f
theorem Sm.mono {P:Nat->List Value->Prop} (h:Sm P xs X) (a:X<=X'):Sm P xs X':=by
 obtain⟨b,c,e,f⟩:=h;exact⟨b,c,lT e a,f⟩
theorem Sm.at {P:Nat->List Value->Prop} (h:Sm P xs X) {i:Nat} (a:xs[i]? =some x):∃b,P b x:=by
 obtain⟨e,f,j,c⟩:=h;have k:=(gS a).1;exact⟨_,c i x _ a (gG oM)⟩
structure MS (w:World) (mb:Nat) (M:MK) (trs ims fns:VV) (Xd Xi Xf:Nat) (Mu:Nat->Prop) (H:Nat):Prop where
 pi:PI w mb M (O trs)
 tr:w.ownsRow 0 93 5 M.tv (O trs) trs.flatten
 im:w.ownsRow 0 71 10 M.iv (O ims) ims.flatten
 fn:w.ownsRow 0 58 30 M.fv (O fns) fns.flatten
 dT:Mu mb
 mlt:∀b,Mu b->b<E (U w)
 lF:∀b,(Value.slice M.mo (O M.ms) M.mc).ownBlock=some b->Mu b
 jN:∀m∈M.ms,∀b,(Value.slice m.ao (O m.ns) m.cp).ownBlock=some b->Mu b
 jt:∀b,(Value.slice M.cV (O M.ds) M.dN).ownBlock=some b->Mu b
 jX:∀b,M.tv.ownBlock=some b->Mu b
 lL:∀b,M.iv.ownBlock=some b->Mu b
 lY:∀b,M.fv.ownBlock=some b->Mu b
 jF:∃Ys:List Nat,O Ys=O M.ds/\Ys.sum<=Xd/\∀(i:Nat) (d:Dd) (y:Nat),M.ds[i]? =some d->Ys[i]? =some y->eB (λb=>¬Mu b) (O M.ds) H y w d
 jq:∀x∈trs,ja (λb=>¬Mu b) (O M.ds) H w x
 lO:Sm (λY x=>iI (λb=>¬Mu b) (O M.ds) H Y w x) ims Xi
 lp:Sm (λY x=>gM (λb=>¬Mu b) (O M.ds) H Y w x) fns Xf
section
variable{w w':World} {mb:Nat} {M:MK} {trs ims fns:VV} {Xd Xi Xf:Nat} {Mu Mu':Nat->Prop} {H H':Nat}
theorem MS.mk' (h:MS w mb M trs ims fns Xd Xi Xf Mu H):cF w mb M:=h.pi.eG
theorem MS.grow (h:MS w mb M trs ims fns Xd Xi Xf Mu H) (e:Below (E (U w)) w w') (c:∀b,Mu b->Mu' b) (p:∀b,Mu' b->b<E (U w')) (q:∀b,b<E (U w)->Mu' b->Mu b):MS w' mb M trs ims fns Xd Xi Xf Mu' H:=by
 have k:∀b,¬Mu b->b<E (U w)->¬Mu' b:=λb e n o=>e (q b n o);have l:al (λb=>¬Mu' b) w w':=λb _ n=>e.block b n;have m:=e.size;have f:KT (λ_=>True) w w':=KT.below e;obtain⟨r,s,t,u⟩:=h.jF;have i:=h.pi;exact⟨⟨h.pi.eG |> λx=>(e.block _ (gE x).1).trans x,i.cK.kt f trivial trivial,i.q,ah i.cu f trivial,i.bB,i.lg⟩,ah h.tr f trivial,ah h.im f trivial,ah h.fn f trivial,c _ h.dT,p,λb a=>c _ (h.lF b a),λv o b a=>c _ (h.jN v o b a),λb a=>c _ (h.jt b a),λb a=>c _ (h.jX b a),λb a=>c _ (h.lL b a),λb a=>c _ (h.lY b a),⟨r,s,t,λy d z A B=>((u y d z A B).weaken k).frame l m⟩,λx j=>((h.jq x j).weaken k).frame l m,h.lO.imp (λC x j=>(j.weaken k).frame l m),h.lp.imp (λC x j=>(j.weaken k).frame l m)⟩
theorem MS.step (h:MS w mb M trs ims fns Xd Xi Xf Mu H) {k a:Int} (m:KX Mu (E (U w)) w w') (b:KT (λt=>t≠126/\t≠88) w w') (n:cF w' mb (M.bt k a)):MS w' mb (M.bt k a) trs ims fns Xd Xi Xf Mu H:=by
 have j:al (λc=>¬Mu c) w w':=λc l o=>m.block c o l;have e:=m.size;obtain⟨p,q,r,s⟩:=h.jF;have f:=h.pi;exact⟨⟨n,f.cK.kt b dC dC,f.q,ah f.cu b dC,f.bB,f.lg⟩,ah h.tr b dC,ah h.im b dC,ah h.fn b dC,h.dT,λc l=>Nat.lt_of_lt_of_le (h.mlt c l) e,h.lF,h.jN,h.jt,h.jX,h.lL,h.lY,⟨p,q,r,λu d v y z=>(s u d v y z).frame j e⟩,λx i=>(h.jq x i).frame j e,h.lO.imp (λA x i=>i.frame j e),h.lp.imp (λA x i=>i.frame j e)⟩
theorem MS.le (h:MS w mb M trs ims fns Xd Xi Xf Mu H) (b:H<=H'):MS w mb M trs ims fns Xd Xi Xf Mu H':=by
 obtain⟨c,e,f,i⟩:=h.jF;exact⟨h.pi,h.tr,h.im,h.fn,h.dT,h.mlt,h.lF,h.jN,h.jt,h.jX,h.lL,h.lY,⟨c,e,f,λj d k l m=>(i j d k l m).le b⟩,λx a=>(h.jq x a).le b,h.lO.imp (λn x a=>a.le b),h.lp.imp (λn x a=>a.le b (lR _))⟩
theorem MS.below (h:MS w mb M trs ims fns Xd Xi Xf Mu H) (b:Below (E (U w)) w w'):MS w' mb M trs ims fns Xd Xi Xf Mu H:=h.step (k:=M.fk) (a:=M.fa) (KX.aq b) (KT.below b) (h.mk'.below b)
end
end
section
abbrev zS:Value:=J I 0 0
abbrev zI:Value:=vN 0
theorem zt:(Tryz.prog.info? 58).map (λa=>(a.zero,a.size,a.bytes))=some (some (.agg (nj ⟨#[]⟩ 0 0 false 0 0 I 0 0 0 I 0 0 I 0 0 I 0 0 0 0 zS zS zS 0 0 0 0 ⟨#[]⟩ I 0 0)),30,464):=by kernel_rfl
theorem yk:(Tryz.prog.info? 71).map (λa=>(a.zero,a.size,a.bytes))=some (some (.agg (df 0 0 0 0 zS 0 0 zS zS zS)),10,144):=by kernel_rfl
theorem zo:(Tryz.prog.info? 97).map (λa=>(a.zero,a.size,a.bytes))=some (some (.agg (eR ⟨#[]⟩ 0 zS zS I 0 0 0 0 zS zS)),9,160):=by kernel_rfl
section
variable{w w':World} {mb:Nat} {M:MK} {trs ims fns:VV} {Xd Xi Xf:Nat} {Mu Mu':Nat->Prop} {H H':Nat}
theorem MS.addFn (h:MS w mb M trs ims fns Xd Xi Xf Mu H) {fo:OA} {fc:Nat} (t:M.fv=J fo (O fns) fc) {cs:Array Value} {Y:Nat} (j:gM (λb=>¬Mu b) (O M.ds) H Y w cs.toList) (R:cs.size=30) (one:∀u∈cs.toList,u.oneCell'=true) (C:O fns<=200000) (D:TypeId) {ad:Nat} (S:ad=E (U w)):
 ∃v w',(Builtin.append_ #[27,27] D #[J fo (O fns) fc,J (aS ad) 1 1]).run Tryz.prog (w.alloc (Ob cs 58))=.ok v w'/\∃c d Mu',v=J c (O fns+1) d/\cF w' mb M/\KT (λf=>f≠58) w w'/\KX Mu (E (U w)) w w'/\KX Mu (E (U w)) w (w'.setCell ⟨mb,4,I⟩ (J c (O fns+1) d))/\(∀b,Mu b->Mu' b)/\(∀b,b<E (U w)->Mu' b->Mu b)/\KT (λf=>f≠58/\f≠88) w (w'.setCell ⟨mb,4,I⟩ (J c (O fns+1) d))/\MS (w'.setCell ⟨mb,4,I⟩ (J c (O fns+1) d)) mb {M with fv:=J c (O fns+1) d} trs ims (fns++[cs.toList]) Xd Xi (Xf+Y) Mu' H:=by
 have x:=h.fn;rw[t] at x;have aq:=h.mk'.lt;obtain⟨v,w',T,i⟩:=fg (W:=w) Tryz.underlying27 zt Q dC x (zL _) cs R one (by unfold maxLen;omega) oM D S;obtain⟨c,d,rfl⟩:=i.shape;have y:=App.kt x i;have z:=au y h.mk' dC;have F:=KT.set z 4 (J c (O fns+1) d);have l:KT (λf=>f≠58/\f≠88) w (w'.setCell ⟨mb,4,I⟩ (J c (O fns+1) d)):=(y.mono (λf A=>A.1)).trans (F.mono (λf A=>A.2));have G:E (U w)<=E (U w'):=lT sQ i.grown.size;have m:E (U w)<=E (U (w'.setCell ⟨mb,4,I⟩ (J c (O fns+1) d))):=sU G;have K:=i.row;have L:KX Mu (E (U w)) w w':=⟨i.grown.os,i.grown.tape,i.grown.output,G,λb a C=>(i.grown.block b (by simp;omega) (λe=>C (h.lY b (by rw[t];exact e.symm)))).trans (Below.heap_alloc _ _ _ a)⟩;have N:KX Mu (E (U w)) w (w'.setCell ⟨mb,4,I⟩ (J c (O fns+1) d)):=L.setCell (p:=⟨mb,4,I⟩) (.inr h.dT) _;have n:al (λb=>¬Mu b/\b<E (U w)) w (w'.setCell ⟨mb,4,I⟩ (J c (O fns+1) d)):=λb a s=>N.block b s a.1
 have P:∀b,(Value.slice c (O fns+1) d).ownBlock=some b->b<E (U w)->Mu b:=λb a s=>by
  rcases i.own with e|e
  ·exact h.lY b (by rw[t,<-e];exact a)
  ·rw[e] at a;simp at a;omega
 have o:∀b,¬Mu b->b<E (U w)->(¬Mu b/\b<E (U w)):=λb V X=>⟨V,X⟩
 have q:∀b,(¬Mu b/\b<E (U w))->b<E (U (w'.setCell ⟨mb,4,I⟩ (J c (O fns+1) d)))->¬(Mu b\/(Value.slice c (O fns+1) d).ownBlock=some b):=λb a _ k=>by
  rcases k with k|k
  ·exact a.1 k
  ·exact a.1 (P b k a.2)
 obtain⟨Z,aa,ab,ac⟩:=h.jF;have r:=h.pi;refine⟨_,w',T,c,d,λb=>Mu b\/(Value.slice c (O fns+1) d).ownBlock=some b,Q,z,y,L,N,λb a=>.inl a,λb s a=>by rcases a with a|a;exact a;exact P b a s,l,⟨⟨?_,r.cK.kt l dC dC,r.q,ah r.cu l dC,r.bB,r.lg⟩,ah h.tr l dC,ah h.im l dC,?_,.inl h.dT,?_,λb e=>.inl (h.lF b e),λae k b e=>.inl (h.jN ae k b e),λb e=>.inl (h.jt b e),λb e=>.inl (h.jX b e),λb e=>.inl (h.lL b e),λb e=>.inr e,⟨Z,aa,ab,λaf ag ai aj ak=>(((ac af ag ai aj ak).weaken o).frame n m).weaken q⟩,λB j=>(((h.jq B j).weaken o).frame n m).weaken q,h.lO.imp (λY B j=>((j.weaken o).frame n m).weaken q),?_⟩⟩
 ·have:=heap_setCell_same w' mb 4 _ 88 (J c (O fns+1) d) z;simpa using this
 ·have ao:O (fns++[cs.toList])=O fns+1:=sQ;have ap:(fns++[cs.toList]).flatten=fns.flatten++cs.toList:=sQ;rw[ao,ap];exact ah K F dC
 ·intro b a;rcases a with a|a
  ·have:=h.mlt b a;omega
  ·have:=(K.lt b a).2;simpa using this
 ·exact(h.lp.imp (λY B j=>((j.weaken o).frame n m).weaken q)).snoc (((j.weaken o).frame n m).weaken q)
end
end
section
variable{a k:Int} {M:MK} {H Xd Xf Xi:Nat} {Mu:Nat->Prop} {fns ims trs:VV} {w w':World}
theorem KT.mb {mb:Nat} (d:cF w mb M) (e:Kp (E (U w)) mb w w'):KT (λb=>b≠126/\b≠88) w w':=λf l b m c i=>e.block f (gE c).1 (λj=>by
 subst j;exact aI c d i.2 Q)
theorem MS.no {mb:Nat} (h:MS w mb M trs ims fns Xd Xi Xf Mu H) (c:cF w' mb (M.bt k a)) (b:Kp (E (U w)) mb w w'):MS w' mb (M.bt k a) trs ims fns Xd Xi Xf Mu H:=h.step (KX.cN b h.dT) (KT.mb h.mk' b) c
structure MF (w:World) (mb:Nat) (M:MK) (trs ims fns:VV) (Xd Xi Xf:Nat) (Mu:Nat->Prop) (H:Nat) (wr:World) (k a:Int):Prop where
 s:MS wr mb (M.bt k a) trs ims fns Xd Xi Xf Mu H
 kp:Kp (E (U w)) mb w wr
 hf:M.fk≠0->k=M.fk
section
variable{w wr w':World} {mb:Nat} {M:MK} {trs ims fns:VV} {Xd Xi Xf:Nat} {Mu:Nat->Prop} {H:Nat} {k a k' a':Int}
theorem MF.refl (h:MS w mb M trs ims fns Xd Xi Xf Mu H):MF w mb M trs ims fns Xd Xi Xf Mu H w M.fk M.fa:=⟨h,Kp.refl _ _ _,λ_=>rfl⟩
theorem MF.below (q:MF w mb M trs ims fns Xd Xi Xf Mu H wr k a) (b:Below (E (U wr)) wr w'):MF w mb M trs ims fns Xd Xi Xf Mu H w' k a:=⟨q.s.below b,q.kp.trans ((Kp.aq b).mono q.kp.size),q.hf⟩
theorem MF.no (q:MF w mb M trs ims fns Xd Xi Xf Mu H wr k a) (b:Kp (E (U wr)) mb wr w') (d:cF w' mb ((M.bt k a).bt k' a')) (e:(M.bt k a).fk≠0->k'=(M.bt k a).fk):MF w mb M trs ims fns Xd Xi Xf Mu H w' k' a':=⟨q.s.no d b,q.kp.trans (b.mono q.kp.size),λh=>by have c:=q.hf h;have:=e (by show k≠0;rw[c];exact h);rw[this];exact c⟩
theorem MF.eG (q:MF w mb M trs ims fns Xd Xi Xf Mu H wr k a) {b:Nat} {c:Array Value} {t:TypeId} {z:Nat × Nat} (h:wr.heap[b]? =some (Ob c t z)) (d:t≠88) (e:Kp (E (U wr)) mb wr w'):w'.heap[b]? =some (Ob c t z):=(e.block b (gE h).1 (aI h q.s.mk' d)).trans h
end
def uz (w:World) (mb:Nat) (M:MK) (trs ims fns:VV) (Xd Xi Xf:Nat) (Mu:Nat->Prop) (H:Nat) (e:Ending) (w':World):Prop:=∃k a,e=.returned (.tuple #[])/\MF w mb M trs ims fns Xd Xi Xf Mu H w' k a
theorem ro.iH {S:Nat->Prop} {size n:Nat} {v:Value} {us:VV} (h:ro w S size v n us.flatten) (o:O us=n) (hl:∀x∈us,O x=size) {i:Nat} {x:List Value} (d:us[i]? =some x):∃g c,v=J (aS g) n c/\g<E (U w)/\∀b,b<size->w.cell? ⟨g,i*size+b,I⟩=x[b]? :=by
 obtain⟨a,c,rfl,p,e⟩:=h;have q:=(gS d).1;obtain⟨g,rfl,-,f,j⟩:=e oM;refine⟨g,c,Q,f,λb l=>?_⟩
 have m:i*size+b<n*size:=by
  have:=Nat.mul_le_mul_right size (show i+1<=n by omega);rw[Nat.add_mul,Nat.one_mul] at this;omega
 rw[j _ m,lZ hl d b l]
theorem uh {mb:Nat} (h:MS w mb M trs ims fns Xd Xi Xf Mu H):
 Calls Tryz.prog 33 #[.pointer (aS mb)] w (uz w mb M trs ims fns Xd Xi Xf Mu H):=by
 have aM:=MF.refl h;have a8:=h.mk'.cell;have a9:=h.mk'.lt;have bB:=h.pi.bB.2.1
 have ba:Hid (∀(b:Nat) (d:Dd),M.ds[b]? =some d->∃ar,eB (λn=>¬Mu n) (O M.ds) H ar w d):=λb d y=>by
  obtain⟨bC,bb,bD,bc⟩:=h.jF;exact⟨_,bc b d _ y (gG (by rw[bb];exact(gS y).1))⟩
 have au:Hid (∀{av:World},Kp (E (U w)) mb w av->al (λn=>¬Mu n) w av):=λ{av} bd n o bf=>bd.block n bf (λs=>o (s▸h.dT));clear h;obtain⟨aw,bg⟩:∃aw,M.cV=aw:=⟨_,Q⟩;go_enter Tryz.func33,Tryz.ntmps33
 go_wp2_with fail;clear a8 a9;go_loopg [3,5,7,14] (O M.ds) (λC _ _ _ D wr=>∃(b:Nat) (k a:Int),C=O M.ds - b/\D=vN b/\b<=O M.ds/\MF w mb M trs ims fns Xd Xi Xf Mu H wr k a)
 case atStart=>exact⟨0,_,_,Q,Q,zL _,aM⟩
 case round=>
  clear aM;obtain⟨b,k,a,r,rfl,bE,j⟩:=hrel;have bh:Hid (gk=O M.ds - b):=r;clear r;by_cases aN:b<O M.ds
  ·have aO:(b:Int)<(O M.ds:Int):=oM;obtain⟨d,y⟩:∃d,M.ds[b]? =some d:=⟨_,gG aN⟩;obtain⟨g,aP,bi,c⟩:=j.s.pi.data (i:=b) (d:=d) y;obtain rfl:aw=some ⟨g,0,I⟩:=by rw[<-bg];exact aP
   obtain⟨ar,ax⟩:=ba.out b d y;obtain⟨F,G,K,L,z,N,P,R,p,A,f,S⟩:=d;have aQ:Hid (eB (λn=>¬Mu n) (O M.ds) H ar w ⟨F,G,K,L,z,N,P,R,p,A,f,S⟩):=ax;have bF:O f<=30000:=ax.len;have T:wr.cell? ⟨g,b*10,I⟩=some (.string F):=c 0 dC;have V:wr.cell? ⟨g,b*10+1,I⟩=some (vN G):=c 1 dC;have ay:wr.cell? ⟨g,b*10+2,I⟩=some (vN K):=c 2 dC;have az:wr.cell? ⟨g,b*10+3,I⟩=some (.bool L):=c 3 dC;have aA:wr.cell? ⟨g,b*10+4,I⟩=some (.bool z):=c 4 dC;have aB:wr.cell? ⟨g,b*10+5,I⟩=some (.bool N):=c 5 dC;have bj:wr.cell? ⟨g,b*10+6,I⟩=some (vN P):=c 6 dC;have bk:wr.cell? ⟨g,b*10+7,I⟩=some (vN R):=c 7 dC;have bl:wr.cell? ⟨g,b*10+8,I⟩=some (J p (O f) A):=c 8 dC;have bm:wr.cell? ⟨g,b*10+9,I⟩=some (vN S):=c 9 dC;obtain⟨aR,aC⟩:=al1 wr (Ob #[.string F,vN G,vN K,.bool L,.bool z,.bool N,vN P,vN R,J p (O f) A,vN S] 64);have m:=j.below aR;clear ax c y aP aR j;go_wp2_with fail;obtain⟨q,aT⟩:∃q,q=E (U wr):=⟨_,Q⟩;rw[<-aT] at aC⊢;clear aT T V ay az aA aB bj bk bl bm bi;go_loopg [5,7,21] (O f) (λC _ _ D aU=>∃(l:Nat) (k a:Int),C=O f - l/\D=vN l/\l<=O f/\MF w mb M trs ims fns Xd Xi Xf Mu H aU k a/\aU.heap[q]? =some (Ob #[.string F,vN G,vN K,.bool L,.bool z,.bool N,vN P,vN R,J p (O f) A,vN S] 64 (0,0)))
   case atStart=>exact⟨0,_,_,Q,Q,zL _,m,aC⟩
   case round=>
    clear m aC;obtain⟨l,k,a,r,rfl,bG,j,o⟩:=hrel;have bn:Hid (gk=O f - l):=r;clear r;by_cases aV:l<O f
    ·have aW:(l:Int)<(O f:Int):=oM;obtain⟨W,aD⟩:∃W,f[l]? =some W:=⟨_,gG aV⟩;obtain⟨Z,bo,X,bp,c⟩:=(aQ.out.row.frame (au.out j.kp) j.kp.size).iH sQ (λx aE=>by obtain⟨aX,_,rfl⟩:=List.mem_map.1 aE;rfl) (i:=l) (x:=W.c) (by rw[List.getElem?_map,aD];rfl);obtain⟨rfl,rfl⟩:p=some ⟨Z,0,I⟩/\A=bo:=sU X;have aa:=aQ.out.parts W (mG aD);obtain⟨aY,ab,ac,e⟩:=W;have aF:Hid (ro w (λn=>¬Mu n) 6 (J ab (O e) ac) (O e) (e.map Pt.c).flatten/\∀B∈e,eo (λn=>¬Mu n) (O M.ds) H w B.c):=⟨aa.1,aa.2.2⟩;have bH:O e<=30000:=aa.2.1;have T:wr.cell? ⟨Z,l*2,I⟩=some (.string aY):=c 0 dC;have V:wr.cell? ⟨Z,l*2+1,I⟩=some (J ab (O e) ac):=c 1 dC;obtain⟨t,-⟩:=al1 wr (Ob #[.string aY,J ab (O e) ac] 67);have m:=j.below t;have u:=(t.block q (gE o).1).trans o;clear c X aD aa t j o;go_wp2_with fail;clear T V bp;go_loopg [7,28] (O e) (λC _ D aZ=>∃(i:Nat) (k a:Int),C=O e - i/\D=vN i/\i<=O e/\MF w mb M trs ims fns Xd Xi Xf Mu H aZ k a/\aZ.heap[q]? =some (Ob #[.string F,vN G,vN K,.bool L,.bool z,.bool N,vN P,vN R,J (aS Z) (O f) A,vN S] 64 (0,0)))
     case atStart=>exact⟨0,_,_,Q,Q,zL _,m,u⟩
     case round=>
      clear m u;obtain⟨i,k,a,r,rfl,bI,j,o⟩:=hrel;have aG:Hid (gk=O e - i):=r;clear r;have a0:=λaH=>cell_of_row wr _ aH _ 64 (0,0) o;have aI:q<E (U wr):=(gE o).1;have bq:q<E (U wr)+1:=oM;by_cases Y:i<O e
      ·have a1:(i:Int)<(O e:Int):=oM;obtain⟨B,aJ⟩:∃B,e[i]? =some B:=⟨_,gG Y⟩;obtain⟨v,br,X,bJ,c⟩:=(aF.out.1.frame (au.out j.kp) j.kp.size).iH sQ (λx aE=>by obtain⟨aX,bs,rfl⟩:=List.mem_map.1 aE;obtain⟨bK,bL,bM,bt,bO,bP,bQ,bR,bS,bT,s,-⟩:=aF.out.2 aX bs;rw[s];rfl) (i:=i) (x:=B.c) (by rw[List.getElem?_map,aJ];rfl);obtain⟨rfl,rfl⟩:ab=some ⟨v,0,I⟩/\ac=br:=sU X;obtain⟨aK,aL,ad,ae,ag,ah,aj,p,ak,ao,a2,a3⟩:=aF.out.2 B (mG aJ);rw[a2] at c;have T:wr.cell? ⟨v,i*6,I⟩=some (.string aK):=c 0 dC;have V:wr.cell? ⟨v,i*6+1,I⟩=some (.bool aL):=c 1 dC;have ay:wr.cell? ⟨v,i*6+2,I⟩=some (vN ad):=c 2 dC;have az:wr.cell? ⟨v,i*6+3,I⟩=some (vN ae):=c 3 dC;have aA:wr.cell? ⟨v,i*6+4,I⟩=some (J ag ah aj):=c 4 dC;have aB:wr.cell? ⟨v,i*6+5,I⟩=some (J p ak ao):=c 5 dC;obtain⟨t,-⟩:=al1 wr (Ob (gO aK aL ad ae (J ag ah aj) (J p ak ao)) 69);have m:=j.below t;have u:=(t.block q aI).trans o;have bu:Hid (af (λn=>¬Mu n) (Gd (O M.ds)) H (wr.alloc (Ob (gO aK aL ad ae (J ag ah aj) (J p ak ao)) 69)) (ai ad ae (J ag ah aj) (J p ak ao)).toList):=af.frame (au.out m.kp) m.kp.size _ _ a3;clear c X aJ a2 a3 t
       cases z
       ·go_wp2_with fail;go_roundg (O e - (i+1))
        case measure=>rw[aG.out];omega
        case rel=>exact⟨i+1,_,_,Q,by go_num,Y,m,u⟩
       ·by_cases a4:k=0
        ·subst a4
         go_wp2_with (first
          |(go_at_call 35;refine(bN m.s.mk').mono ?_;rintro s bv ⟨rfl,rfl⟩)
          |(go_at_call 57;refine(oy H m.s.pi bu.out).mono ?_;rintro s a5 ⟨bU,rfl,a6⟩;have ap:=m.below a6;have aq:=(a6.block q (gE u).1).trans u;clear a0 aI bq T V ay az aA aB;have a0:=λaH=>cell_of_row a5 _ aH _ 64 (0,0) aq;have aI:q<E (U a5):=(gE aq).1)
          |(go_at_call 45;refine(bY ap.s.mk' _ _).mono ?_;rintro s bV ⟨⟨bW,bt,rfl,bw,a7,bx⟩,-⟩;have bz:=ap.no a7 bw bx;have bA:=ap.eG aq dC a7))
         all_goals
          go_roundg (O e - (i+1))
          case measure=>rw[aG.out];omega
          case rel=>
           first
            |exact⟨i+1,_,_,Q,by go_num,Y,bz,bA⟩
            |exact⟨i+1,_,_,Q,by go_num,Y,ap,aq⟩
        ·have bX:(k==0)=false:=sU a4;go_wp2_with (go_at_call 35;refine(bN m.s.mk').mono ?_;rintro s bv ⟨rfl,rfl⟩)
         go_roundg (O e - (i+1))
         case measure=>rw[aG.out];omega
         case rel=>exact⟨i+1,_,_,Q,by go_num,Y,m,u⟩
      ·have a1:¬(i:Int)<(O e:Int):=oM;have bZ:decide ((i:Int)<(O e:Int))=false:=sU a1;go_wp2_with fail;go_roundg (O f - (l+1))
       case measure=>rw[bn.out];omega
       case rel=>exact⟨l+1,_,_,Q,by go_num,aV,j,o⟩
    ·have aW:¬(l:Int)<(O f:Int):=oM;have b0:decide ((l:Int)<(O f:Int))=false:=sU aW;go_wp2_with fail;go_roundg (O M.ds - (b+1))
     case measure=>rw[bh.out];omega
     case rel=>exact⟨b+1,_,_,Q,by go_num,aN,j⟩
  ·have aO:¬(b:Int)<(O M.ds:Int):=oM;have b1:decide ((b:Int)<(O M.ds:Int))=false:=sU aO;go_wp2_with fail;go_end0;exact⟨k,a,Q,j⟩
end
section
variable{cs z:Array Value} {b:Nat} {t:TypeId} {w:World}
def iA (cur:Array Value):Nat->List Value->Array Value
 |_,[]=>cur
 |o,v::r=>iA (cur.setIfInBounds o v) (o+1) r
theorem iQ:∀(d:List Value) (a:Nat) (w:World) (c:Array Value),w.heap[b]? =some (Ob c t (0,0))->(w.setCells b a d).heap[b]? =some (Ob (iA c a d) t (0,0))
 |[],_,_,_,h=>h
 |v::r,a,w,c,h=>iQ r (a+1) _ _ (heap_setCell_same w b a c t v h)
theorem iq {d:Nat} (e:d<=b):∀(f:List Value) (a:Nat) (w c:World),Below d c w->Below d c (w.setCells b a f)
 |[],_,_,_,h=>h
 |v::r,a,w,c,h=>iq e r (a+1) _ c (h.setCell (p:=⟨b,a,I⟩) e v)
theorem ju (h:w.heap[b]? =some (Ob z t (0,0))) {n:Nat} (c:n<=z.size):w.there b 0 n:=λa d=>by
 rw[Nat.zero_add];refine⟨?_,frozen_of_row w b a z t h⟩;rw[cell_of_row w b a z t (0,0) h];simp;omega
theorem kL {g o:Nat} {x:List Value} (c:∀j,j<O x->w.cell? ⟨g,o+j,I⟩=x[j]?):w.rangeAt g o x:=λj d a=>by
 rw[c j (gS a).1];exact a
theorem gU:∀(d:List Value) (a:Nat) (c:Array Value),a+O d<=c.size->(iA c a d).toList=c.toList.take a++d++c.toList.drop (a+O d)
 |[],a,c,_=>by simp[iA]
 |v::r,a,c,h=>by
  have e:a<O c.toList:=by simp at h⊢;omega
  have f:(c.toList.set a v).take (a+1)=c.toList.take a++[v]:=by
   rw[List.take_add_one,List.getElem?_set_self e,List.take_set_of_le (lR _)];rfl
  have i:(c.toList.set a v).drop (a+1+O r)=c.toList.drop (a+1+O r):=by
   rw[List.drop_set_of_lt oM]
  rw[iA,gU r (a+1) _ (by simp at h⊢;omega),Array.toList_setIfInBounds,f,i,List.length_cons,show a+(O r+1)=a+1+O r from by omega];simp
theorem nK (h:cs.size=z.size):iA z 0 cs.toList=cs:=by
 have a:=gU cs.toList 0 z (by simp[h])
 have c:z.toList.drop (0+O cs.toList)=[]:=by
  apply List.drop_eq_nil_of_le
  simp[h]
 rw[c] at a;simp at a;exact a
theorem copied {wr:World} (a:cs.size=z.size):Below (E (U wr)) wr ((wr.alloc (Ob z t)).setCells (E (U wr)) 0 cs.toList)/\((wr.alloc (Ob z t)).setCells (E (U wr)) 0 cs.toList).heap[E (U wr)]? =some (Ob cs t (0,0)):=by
 refine⟨iq (lR _) _ _ _ _ (al1 wr _).1,?_⟩;have:=iQ cs.toList 0 _ _ (al1 wr (Ob z t)).2;rw[nK a] at this;exact this
theorem tU:(Tryz.prog.info? 58).map (·.size)=some 30:=by kernel_rfl
end
section
variable{a k:Int} {M:MK} {H Xd Xf Xi mb:Nat} {Mu:Nat->Prop} {fns ims trs:VV} {w wr:World}
def jc (w:World) (mb:Nat) (M:MK) (trs ims fns:VV) (Xd Xi Xf:Nat) (Mu:Nat->Prop) (H:Nat) (e:Ending) (w':World):Prop:=∃(k a mn:Int),e=.returned (.tuple #[])/\MS w' mb ({M with mn:=mn}.bt k a) trs ims fns Xd Xi Xf Mu H/\Kp (E (U w)) mb w w'
theorem MF.mh (q:MF w mb M trs ims fns Xd Xi Xf Mu H wr k a):jc w mb M trs ims fns Xd Xi Xf Mu H (.returned (.tuple #[])) wr:=⟨k,a,M.mn,Q,q.s,q.kp⟩
theorem MF.uY (q:MF w mb M trs ims fns Xd Xi Xf Mu H wr k a) (x:Int):jc w mb M trs ims fns Xd Xi Xf Mu H (.returned (.tuple #[])) (wr.setCell ⟨mb,5,I⟩ (vN x)):=by
 have h:=q.s;have l:KX Mu (E (U wr)) wr (wr.setCell ⟨mb,5,I⟩ (vN x)):=(KX.refl _ _ _).setCell (p:=⟨mb,5,I⟩) (.inr h.dT) _;have b:KT (λm=>m≠88) wr (wr.setCell ⟨mb,5,I⟩ (vN x)):=KT.set h.mk' 5 _
 have n:cF (wr.setCell ⟨mb,5,I⟩ (vN x)) mb ({M with mn:=x}.bt k a):=by
  have:=heap_setCell_same wr mb 5 _ 88 (vN x) h.mk';show _=_;simpa using this
 have i:al (λc=>¬Mu c) wr (wr.setCell ⟨mb,5,I⟩ (vN x)):=λc j o=>l.block c o j;have d:=l.size;obtain⟨r,s,t,u⟩:=h.jF;have e:=h.pi;exact⟨k,a,x,Q,⟨⟨n,e.cK.kt b dC dC,e.q,ah e.cu b dC,e.bB,e.lg⟩,ah h.tr b dC,ah h.im b dC,ah h.fn b dC,h.dT,λc j=>Nat.lt_of_lt_of_le (h.mlt c j) d,h.lF,h.jN,h.jt,h.jX,h.lL,h.lY,⟨r,s,t,λv y z A B=>(u v y z A B).frame i d⟩,λx f=>(h.jq x f).frame i d,h.lO.imp (λC x f=>f.frame i d),h.lp.imp (λC x f=>f.frame i d)⟩,q.kp.setCell (p:=⟨mb,5,I⟩) (.inr Q) _⟩
theorem jc.below {w':World} {e:Ending} (h:jc w mb M trs ims fns Xd Xi Xf Mu H e wr) (b:Below (E (U wr)) wr w'):jc w mb M trs ims fns Xd Xi Xf Mu H e w':=by
 obtain⟨k,a,d,f,i,c⟩:=h;exact⟨k,a,d,f,i.below b,c.trans ((Kp.aq b).mono c.size)⟩
theorem gM.len {S:Nat->Prop} {D X:Nat} {x:List Value} (h:gM S D H X w x):O x=30:=by
 obtain⟨b,c,d,e,f,i,j,l,m,n,o,p,q,r,s,t,u,v,y,z,A,B,C,F,G,K,L,N,P,R,T,V,W,Y,Z,aa,ab,ac,rfl,ad⟩:=h;rfl
theorem wQ (h:MS w mb M trs ims fns Xd Xi Xf Mu H) {fo:OA} {fc:Nat} (a3:M.fv=J fo (O fns) fc) (bn:O fns<=200000) (hF:M.fk=0->∀m∈M.ms,∀v∈m.ns.take m.own,v.sort=3->0<=v.n/\v.n<(O fns:Int)):
 Calls Tryz.prog 34 #[.pointer (aS mb)] w (jc w mb M trs ims fns Xd Xi Xf Mu H):=by
 have aa:=MF.refl h;have D:=h.mk'.cell;have F:=h.mk'.lt;by_cases ab:M.fk=0
 ·have a4:(M.fk==0)=true:=by simp[ab]
  have aB:Hid (∀m∈M.ms,∀v∈m.ns.take m.own,v.sort=3->0<=v.n/\v.n<(O fns:Int)):=hF ab;have aC:Hid (MS w mb M trs ims fns Xd Xi Xf Mu H):=h;clear ab hF h;go_enter Tryz.func34,Tryz.ntmps34
  go_wp2_with (first
   |(go_at_call 35;refine(bN aa.s.mk').mono ?_;rintro n aD ⟨rfl,rfl⟩)
   |(go_at_call 44;refine(kP aC.out.pi.cK _ _ _ _ _ _ _).mono ?_;rintro n aD ⟨aE,rfl,a5,a6⟩;have G:=aa.below a6;clear D F;have D:=G.s.mk'.cell;have F:=G.s.mk'.lt))
  ·obtain⟨ac,rfl⟩:∃ac:Nat,aE=(ac:Int):=⟨aE.toNat,oM⟩;obtain⟨ap,aq⟩:∃ap,M.ms[ac]? =some ap:=⟨_,gG oM⟩;refine(pY G.s.pi.cK _ _ _ _ _ _ aq _).mono ?_;rintro n o ⟨⟨q,l,ad,r⟩,ae,rfl,aF,-,aG⟩;have x:=G.below aG;obtain⟨aH,aI⟩:=al1 o (Ob #[.string q,vN l,vN ad,.bool r] 117);have u:=x.below aH;have aJ:Hid (ae=true->∃m∈M.ms,(⟨q,l,ad,r⟩:Nm)∈m.ns.take m.own):=λn=>⟨ap,mG aq,(aF n).1⟩;clear aF aG D F aq a5 aH;have D:=x.s.mk'.cell;have F:=x.s.mk'.lt
   cases ae
   ·go_wp2_with fail;refine(bY u.s.mk' _ _).mono ?_;rintro n y ⟨⟨z,A,rfl,e,f,i⟩,-⟩;have j:=u.no f e i;go_wp2_with fail;go_end0;exact j.mh
   ·by_cases ag:l=3
    ·have a7:(l==3)=true:=eT ag;obtain⟨a8,aK,aM⟩:=aJ.out Q;obtain⟨aN,aO⟩:=aB.out a8 aK _ aM ag;simp only at aN aO;obtain⟨b,rfl⟩:∃b:Nat,ad=(b:Int):=⟨ad.toNat,oM⟩;have bo:(b:Int)<(O fns:Int):=oM;obtain⟨ah,R⟩:∃ah,fns[b]? =some ah:=⟨_,gG oM⟩;obtain⟨aP,a9⟩:=u.s.lp.at R;have ar:=u.s.fn;have aQ:(M.bt M.fk M.fa).fv=J fo (O fns) fc:=a3;rw[aQ] at ar;obtain⟨d,a',aR,ba,-,aT⟩:=aL ar Q (λv bb=>by obtain⟨ac,bc⟩:=List.getElem?_of_mem bb;obtain⟨aP,bd⟩:=u.s.lp.at bc;exact bd.len) R;obtain⟨rfl,rfl⟩:fo=some ⟨d,0,I⟩/\fc=a':=sU aR;obtain⟨bp,bq,br,bs,bt,bu,bv,bw,bx,K,aj,on,ak,al,L,ao,N,P,s,B,S,T,V,W,X,Y,Z,bf,bg,bh,bz,bA,bB,bC,bD,bE,bF,bG,rfl,aU⟩:=a9
     have au:∀{c:World},Below (E (U (o.alloc (Ob #[.string q,vN l,vN (b:Int),.bool r] 117)))) (o.alloc (Ob #[.string q,vN l,vN (b:Int),.bool r] 117)) c->(Ce c mb (jO M))/\(Ce c (E (U o)) (#[.string q,vN l,vN (b:Int),.bool r]:Array Value))/\c.cell? ⟨d,b*30+7,I⟩=some (vN K)/\c.cell? ⟨d,b*30+7+1,I⟩=some (J aj on ak)/\c.cell? ⟨d,b*30+7+2,I⟩=some (J al L ao)/\c.cell? ⟨d,b*30+7+3,I⟩=some (J N (O s) P)/\c.cell? ⟨d,b*30+7+4,I⟩=some (vN B)/\c.cell? ⟨d,b*30+7+5,I⟩=some (vN S)/\c.cell? ⟨d,b*30+7+6,I⟩=some (J T V W)/\c.cell? ⟨d,b*30+7+7,I⟩=some (J X Y Z):=λ{c} av=>by
      have k:∀C,C<30->c.cell? ⟨d,b*30+C,I⟩=_:=λC bi=>(av.cell (p:=⟨d,b*30+C,I⟩) ba).trans (aT C bi);exact⟨(u.s.mk'.below av).cell,λC=>cell_of_row c _ C _ 117 (0,0) ((av.block _ (gE aI).1).trans aI),k 7 dC,k 8 dC,k 9 dC,k 10 dC,k 11 dC,k 12 dC,k 13 dC,k 14 dC⟩
     have aV:Hid (∀{c:World},Below (E (U (o.alloc (Ob #[.string q,vN l,vN (b:Int),.bool r] 117)))) (o.alloc (Ob #[.string q,vN l,vN (b:Int),.bool r] 117)) c->(Ce c mb (jO M))/\(Ce c (E (U o)) (#[.string q,vN l,vN (b:Int),.bool r]:Array Value))/\c.cell? ⟨d,b*30+7,I⟩=some (vN K)/\c.cell? ⟨d,b*30+7+1,I⟩=some (J aj on ak)/\c.cell? ⟨d,b*30+7+2,I⟩=some (J al L ao)/\c.cell? ⟨d,b*30+7+3,I⟩=some (J N (O s) P)/\c.cell? ⟨d,b*30+7+4,I⟩=some (vN B)/\c.cell? ⟨d,b*30+7+5,I⟩=some (vN S)/\c.cell? ⟨d,b*30+7+6,I⟩=some (J T V W)/\c.cell? ⟨d,b*30+7+7,I⟩=some (J X Y Z)):=@au;have aw:Hid (nr (λae=>¬Mu ae) (O M.ds) H (o.alloc (Ob #[.string q,vN l,vN (b:Int),.bool r] 117)) N P s bf bg bh (ai B S (J T V W) (J X Y Z)).toList aP):=aU;clear au aT aU ag aN aO aM aK aJ aR R ar aQ aB aC;go_wp2_with fail;go_region_held3 (λc=>(Ce c mb (jO M))/\(Ce c (E (U o)) (#[.string q,vN l,vN (b:Int),.bool r]:Array Value))/\c.cell? ⟨d,b*30+7,I⟩=some (vN K)/\c.cell? ⟨d,b*30+7+1,I⟩=some (J aj on ak)/\c.cell? ⟨d,b*30+7+2,I⟩=some (J al L ao)/\c.cell? ⟨d,b*30+7+3,I⟩=some (J N (O s) P)/\c.cell? ⟨d,b*30+7+4,I⟩=some (vN B)/\c.cell? ⟨d,b*30+7+5,I⟩=some (vN S)/\c.cell? ⟨d,b*30+7+6,I⟩=some (J T V W)/\c.cell? ⟨d,b*30+7+7,I⟩=some (J X Y Z)) (first|assumption|exact aV.out ((Below.refl _ _).drew)|exact aV.out ((al1 _ _).1.drew)) (fail)
     have t:=u.below ((al1 _ (Ob #[vN K,J aj on ak,J al L ao,J N (O s) P,vN B,vN S,J T V W,J X Y Z] 54)).1.drew);clear D F;have D:=x.s.mk'.cell;have bH:=x.s.mk'.fz;have F:=x.s.mk'.lt;have bI:mb<E (U o)+1:=oM;have bJ:mb<E (U o)+1+1:=oM;by_cases bj:L=0
     ·subst bj;by_cases aW:K=0
      ·subst aW;by_cases aX:O s=1
       ·obtain⟨ax,ay⟩:∃ax,s[0]? =some ax:=⟨_,gG oM⟩;obtain⟨az,bk,aY,bl,aZ⟩:=aw.out.ri.iH Q (λah R=>af.four _ _ (aw.out.ti ah R)) ay;obtain⟨rfl,rfl⟩:N=some ⟨az,0,I⟩/\P=bk:=sU aY;obtain⟨aA,bK,bL,bM,bO,bP,bQ,bR,a0⟩:=af.cells _ (aw.out.ti ax (mG ay))
        have au:(o.alloc (Ob #[.string q,vN l,vN (b:Int),.bool r] 117)).cell? ⟨az,0,I⟩=some (vN aA):=by
         have:=aZ 0 dC;rw[a0] at this;simpa using this
        have bS:az<E (U o)+1:=sU bl;have bm:((O s:Int)==1)=true:=by simp[aX]
        have bT:(0:Int)<(O s:Int):=oM;clear aZ aY a0 ay aX;by_cases a1:aA=1
        ·subst a1;by_cases a2:B=1
         ·subst a2;go_wp2_with fail;go_end0;exact(x.uY _).below ((eI _ _ _).1.drew)
         ·have bU:(B==1)=false:=eF a2;go_wp2_with fail;refine(bY t.s.mk' _ _).mono ?_;rintro n y ⟨⟨z,A,rfl,e,f,i⟩,-⟩;have j:=t.no f e i;go_wp2_with fail;go_end0;exact j.mh
        ·have bV:(aA==1)=false:=eF a1;go_wp2_with fail;refine(bY t.s.mk' _ _).mono ?_;rintro n y ⟨⟨z,A,rfl,e,f,i⟩,-⟩;have j:=t.no f e i;go_wp2_with fail;go_end0;exact j.mh
       ·have bm:((O s:Int)==1)=false:=by simp;omega
        go_wp2_with fail;refine(bY t.s.mk' _ _).mono ?_;rintro n y ⟨⟨z,A,rfl,e,f,i⟩,-⟩;have j:=t.no f e i;go_wp2_with fail;go_end0;exact j.mh
      ·have bW:(K==0)=false:=eF aW;go_wp2_with fail;refine(bY t.s.mk' _ _).mono ?_;rintro n y ⟨⟨z,A,rfl,e,f,i⟩,-⟩;have j:=t.no f e i;go_wp2_with fail;go_end0;exact j.mh
     ·have bX:((L:Int)==0)=false:=by simp;omega
      go_wp2_with fail;refine(bY t.s.mk' _ _).mono ?_;rintro n y ⟨⟨z,A,rfl,e,f,i⟩,-⟩;have j:=t.no f e i;go_wp2_with fail;go_end0;exact j.mh
    ·have a7:(l==3)=false:=eF ag;go_wp2_with fail;refine(bY u.s.mk' _ _).mono ?_;rintro n y ⟨⟨z,A,rfl,e,f,i⟩,-⟩;have j:=u.no f e i;go_wp2_with fail;go_end0;exact j.mh
  ·refine(bY G.s.mk' _ _).mono ?_;rintro n y ⟨⟨z,A,rfl,e,f,i⟩,-⟩;have j:=G.no f e i;go_wp2_with fail;go_end0;exact j.mh
 ·have a4:(M.fk==0)=false:=sU ab;go_enter Tryz.func34,Tryz.ntmps34
  go_wp2_with (go_at_call 35;refine(bN aa.s.mk').mono ?_;rintro n aD ⟨rfl,rfl⟩)
  go_end0;exact aa.mh
end
section
variable{g mb n size:Nat} {w w':World}
theorem dq {base e:Nat} {v:Value} {xs:List Value} (h:w.ownsRow base e size v n xs) (a:v.ownBlock=some g) (j:Nat) (u:Value):(w.setCell ⟨g,j,I⟩ u).ownsRow base e size v n (xs.set j u):=by
 refine⟨by rw[List.length_set];exact h.1,?_⟩;rcases h.2 with⟨b,c⟩|⟨g',cap,cur,h1,hb,hg,hnc,hcm,hcs,htake⟩
 ·rw[b] at a;simp[Value.ownBlock] at a
 ·rw[h1] at a;obtain rfl:g'=g:=by simpa[Value.ownBlock] using a
  refine .inr ⟨g',cap,cur.setIfInBounds j u,h1,hb,heap_setCell_same w g' j cur e u hg,hnc,hcm,by rw[Array.size_setIfInBounds];exact hcs,?_⟩;rw[Array.toList_setIfInBounds,List.take_set,htake]
theorem gp:∀{us:VV},(∀x∈us,O x=size)->∀{i:Nat} {x:List Value},us[i]? =some x->∀{o:Nat},o<size->∀u,us.flatten.set (i*size+o) u=(us.set i (x.set o u)).flatten:=by
 intro us;induction us with
 |nil=>intro _ i x h;simp at h
 |cons a r b=>
  intro hl i x h o c u;have d:=hl a sQ
  cases i with
  |zero=>
   obtain rfl:a=x:=sU h;rw[Nat.zero_mul,Nat.zero_add,List.flatten_cons,List.set_cons_zero,List.flatten_cons,List.set_append_left _ _ oM]
  |succ i=>
   have e:(i+1)*size+o=size+(i*size+o):=by rw[Nat.add_mul,Nat.one_mul];omega
   rw[e,List.flatten_cons,List.set_cons_succ,List.flatten_cons,List.set_append_right _ _ oM,d,Nat.add_sub_cancel_left,b (λz f=>hl z (List.mem_cons_of_mem _ f)) (sU h) c]
theorem KT.yU {M:MK} (c:cF w mb M) (d:Kp (E (U w)) mb w w'):KT (λa=>a≠88) w w':=λe j a k b f=>d.block e (gE b).1 (λi=>by
 subst i;exact aI b c f Q)
abbrev Dd.vB (d:Dd) (fn:Int):Dd:={d with drop:=fn}
abbrev MK.vB (M:MK) (n:Nat) (d:Dd) (fn:Int):MK:={M with ds:=M.ds.set n (d.vB fn)}
section
variable{w w':World} {mb:Nat} {M:MK} {trs ims fns:VV} {Xd Xi Xf:Nat} {Mu Mu':Nat->Prop} {H H':Nat}
theorem MS.mm (h:MS w mb M trs ims fns Xd Xi Xf Mu H) {d:Dd} (u:M.ds[n]? =some d) (F:M.cV=some ⟨g,0,I⟩) (a:Int):MS (w.setCell ⟨g,n*10+9,I⟩ (vN a)) mb (M.vB n d a) trs ims fns Xd Xi Xf Mu H/\KX Mu (E (U w)) w (w.setCell ⟨g,n*10+9,I⟩ (vN a))/\KT (λc=>c≠64) w (w.setCell ⟨g,n*10+9,I⟩ (vN a)):=by
 have y:(Value.slice M.cV (O M.ds) M.dN).ownBlock=some g:=by rw[F];rfl
 obtain⟨aa,G⟩:=aX h.pi.cu y;have l:KT (λc=>c≠64) w (w.setCell ⟨g,n*10+9,I⟩ (vN a)):=KT.set G _ _;have z:KX Mu (E (U w)) w (w.setCell ⟨g,n*10+9,I⟩ (vN a)):=(KX.refl _ _ _).setCell (p:=⟨g,n*10+9,I⟩) (.inr (h.jt g y)) _;have s:al (λj=>¬Mu j) w (w.setCell ⟨g,n*10+9,I⟩ (vN a)):=λj m K=>z.block j K m;have q:=z.size;have b:O (M.vB n d a).ds=O M.ds:=List.length_set;have r:=h.pi;have L:∀e∈(M.vB n d a).ds,e∈M.ds\/e=d.vB a:=λe f=>List.mem_or_eq_of_mem_set f;have N:=mG u;obtain⟨P,R,S,B⟩:=h.jF;have C:=dq r.cu y (n*10+9) (vN a)
 have T:(M.ds.map Dd.c).flatten.set (n*10+9) (vN a)=((M.vB n d a).ds.map Dd.c).flatten:=by
  have:=gp (size:=10) (us:=M.ds.map Dd.c) (λx k=>by obtain⟨t,_,rfl⟩:=List.mem_map.1 k;rfl) (i:=n) (x:=d.c) (by rw[List.getElem?_map,u];rfl) (o:=9) dC (vN a);rw[this];show _=((M.ds.set n (d.vB a)).map Dd.c).flatten;rw[List.map_set];rfl
 rw[T] at C;refine⟨⟨⟨?_,r.cK.kt l dC dC,?_,?_,?_,?_⟩,ah h.tr l dC,ah h.im l dC,ah h.fn l dC,h.dT,λj m=>Nat.lt_of_lt_of_le (h.mlt j m) q,h.lF,h.jN,?_,h.jX,h.lL,h.lY,⟨P,by rw[b];exact R,S,?_⟩,?_,?_,?_⟩,z,l⟩
 ·have:=au l h.mk' dC;unfold cF at*;rw[this];simp
 ·intro V W t v;rw[b];exact r.q V W t v
 ·rw[b];exact C
 ·rw[b];exact r.bB
 ·intro e f;rcases L e f with A|A
  ·exact r.lg e A
  ·rw[A];exact r.lg d N
 ·intro j m;rw[b] at m;exact h.jt j m
 ·intro i e t f v;rw[b];by_cases D:i=n
  ·subst D;have X:=(gS u).1;rw[List.getElem?_set_self X] at f;obtain rfl:=Option.some.inj f;have c:=(B i d t u v).frame s q;exact⟨c.row,c.parts,c.len,c.sz⟩
  ·rw[List.getElem?_set_ne (λY=>D Y.symm)] at f;exact(B i e t f v).frame s q
 ·intro x k;rw[b];exact(h.jq x k).frame s q
 ·rw[b];exact h.lO.imp (λZ x k=>k.frame s q)
 ·rw[b];exact h.lp.imp (λZ x k=>k.frame s q)
end
end
end Go.Proofs.YtcnnibahjmekdaaGreat
