import Derived.Test.YtcnnibahjmekdaaGreatS42
namespace Go.Proofs.YtcnnibahjmekdaaGreat
open Go.RowKit
open Value renaming slice→J
open List renaming length→O
open Option renaming none→I
open World renaming heap→U
open _root_.Array renaming size→E
open Obj renaming cells→Ob
set_option linter.all false
set_option maxRecDepth 100000
set_option maxHeartbeats 0
section
variable{mc n:Nat} {mo:OA} {ms:VV}
section
variable{w w0 w':World} {mb:Nat} {M:MK} {k a:Int} {trs ims fns trs0 ims0 fns0:VV} {Xd Xi Xf Xd0 Xi0 Xf0:Nat} {Mu Mu0 Mu':Nat->Prop} {H H0:Nat}
theorem MS.shrink (h:MS w mb (M.bt k a) trs ims fns Xd Xi Xf Mu H) (d:MS w0 mb M trs0 ims0 fns0 Xd0 Xi0 Xf0 Mu0 H0) (e:∀b,Mu0 b->Mu' b) (o:∀b,Mu' b->Mu b):MS w mb (M.bt k a) trs ims fns Xd Xi Xf Mu' H:=by
 have i:∀b,¬Mu b->b<E (U w)->¬Mu' b:=λb j _ l=>j (o b l);obtain⟨p,q,r,s⟩:=h.jF;exact⟨h.pi,h.tr,h.im,h.fn,e _ d.dT,λb j=>h.mlt b (o b j),λb c=>e _ (d.lF b c),λt l b c=>e _ (d.jN t l b c),λb c=>e _ (d.jt b c),λb c=>e _ (d.jX b c),λb c=>e _ (d.lL b c),λb c=>e _ (d.lY b c),⟨p,q,r,λu v x y z=>(s u v x y z).weaken i⟩,λm f=>(h.jq m f).weaken i,h.lO.imp (λA m f=>f.weaken i),h.lp.imp (λA m f=>f.weaken i)⟩
theorem MS.move (h:MS w mb M trs ims fns Xd Xi Xf Mu H) (u:KX Mu (E (U w)) w w') {P:Nat->Prop} (f:KT P w w') (e:P 93/\P 71/\P 58/\P 115/\P 117/\P 64) (i:cF w' mb (M.bt k a)) (d:∀b,Mu b->Mu' b) (s:∀b,Mu' b->b<E (U w')) (v:∀b,b<E (U w)->Mu' b->Mu b):MS w' mb (M.bt k a) trs ims fns Xd Xi Xf Mu' H:=by
 have m:al (λb=>¬Mu b/\b<E (U w)) w w':=λb o x=>u.block b x o.1;have p:=u.size;have q:∀b,¬Mu b->b<E (U w)->(¬Mu b/\b<E (U w)):=λb d s=>⟨d,s⟩;have r:∀b,(¬Mu b/\b<E (U w))->b<E (U w')->¬Mu' b:=λb o _ i=>o.1 (v b o.2 i);obtain⟨y,z,A,B⟩:=h.jF;have j:=h.pi;exact⟨⟨i,j.cK.kt f e.2.2.2.1 e.2.2.2.2.1,j.q,ah j.cu f e.2.2.2.2.2,j.bB,j.lg⟩,ah h.tr f e.1,ah h.im f e.2.1,ah h.fn f e.2.2.1,d _ h.dT,s,λb c=>d _ (h.lF b c),λC i b c=>d _ (h.jN C i b c),λb c=>d _ (h.jt b c),λb c=>d _ (h.jX b c),λb c=>d _ (h.lL b c),λb c=>d _ (h.lY b c),⟨y,z,A,λD F G K L=>(((B D F G K L).weaken q).frame m p).weaken r⟩,λt l=>(((h.jq t l).weaken q).frame m p).weaken r,h.lO.imp (λN t l=>((l.weaken q).frame m p).weaken r),h.lp.imp (λN t l=>((l.weaken q).frame m p).weaken r)⟩
theorem MS.vH (h:MS w mb M trs ims fns Xd Xi Xf Mu H) {i:Nat} {r:ByteArray} {md s:Int} {t:Bool} {D:OA} {F G:Nat} (K:trs[i]? =some (js r md s t D F G).toList) {g c:Nat} (L:M.tv=J (aS g) n c) (N:ro w (λb=>¬Mu b) 9 (J mo (O ms) mc) (O ms) ms.flatten) (P:∀l∈ms,fT (λb=>¬Mu b) (O M.ds) H w l) (hl:O ms<=30000):
 MS (w.setCell ⟨g,i*5+4,I⟩ (J mo (O ms) mc)) mb M (trs.set i (js r md s t mo (O ms) mc).toList) ims fns Xd Xi Xf Mu H/\KX Mu (E (U w)) w (w.setCell ⟨g,i*5+4,I⟩ (J mo (O ms) mc))/\KT (λu=>u≠93) w (w.setCell ⟨g,i*5+4,I⟩ (J mo (O ms) mc)):=by
 have v:M.tv.ownBlock=some g:=by rw[L];rfl
 obtain⟨ac,R⟩:=aX h.tr v;have f:KT (λu=>u≠93) w (w.setCell ⟨g,i*5+4,I⟩ (J mo (O ms) mc)):=KT.set R _ _;have x:KX Mu (E (U w)) w (w.setCell ⟨g,i*5+4,I⟩ (J mo (O ms) mc)):=(KX.refl _ _ _).setCell (p:=⟨g,i*5+4,I⟩) (.inr (h.jX g v)) _;have j:al (λb=>¬Mu b) w (w.setCell ⟨g,i*5+4,I⟩ (J mo (O ms) mc)):=λb y hl=>x.block b hl y;have d:=x.size;have C:=dq h.tr v (i*5+4) (J mo (O ms) mc);have S:=gp (size:=5) (us:=trs) (λm e=>by obtain⟨ad,ae,af,ag,ai,aj,ak,T,-⟩:=h.jq m e;rw[T];rfl) K (o:=4) dC (J mo (O ms) mc);rw[S] at C;have z:O (trs.set i (js r md s t mo (O ms) mc).toList)=O trs:=List.length_set;have q:=h.pi;obtain⟨V,W,X,Y⟩:=h.jF;refine⟨⟨⟨au f h.mk' dC,q.cK.kt f dC dC,?_,ah q.cu f dC,?_,q.lg⟩,?_,ah h.im f dC,ah h.fn f dC,h.dT,λb y=>Nat.lt_of_lt_of_le (h.mlt b y) d,h.lF,h.jN,h.jt,h.jX,h.lL,h.lY,⟨V,W,X,λi Z l aa A=>(Y i Z l aa A).frame j d⟩,?_,h.lO.imp (λab m e=>e.frame j d),h.lp.imp (λab m e=>e.frame j d)⟩,x,f⟩
 ·rw[z];exact q.q
 ·rw[z];exact q.bB
 ·rw[z];exact C
 ·intro m e;rcases List.mem_or_eq_of_mem_set e with B|B
  ·exact(h.jq m B).frame j d
  ·rw[B];exact⟨r,md,s,t,mo,mc,ms,Q,N.frame j d,λl A=>(P l A).frame j d,hl⟩
end
structure mZ (w:World) (mb:Nat) (M:MK) (trs ims fns:VV) (Xd Xi Xf:Nat) (Mu0 Mu:Nat->Prop) (H:Nat) (mo:OA) (mc:Nat) (ms:VV) (wr:World) (k a:Int):Prop where
 s:MS wr mb (M.bt k a) trs ims fns Xd Xi Xf Mu H
 row:wr.ownsRow (E (U w)) 97 9 (J mo (O ms) mc) (O ms) ms.flatten
 own:∀b,(Value.slice mo (O ms) mc).ownBlock=some b->Mu b
 mt:∀y∈ms,fT (λb=>¬Mu b) (O M.ds) H wr y
 kx:KX Mu0 (E (U w)) w wr
 m0:Mu0 mb
 m1:∀b,Mu0 b->Mu b
 m2:∀b,b<E (U w)->Mu b->Mu0 b
 hf:M.fk≠0->k=M.fk
section
variable{w wr w' w0:World} {mb:Nat} {M:MK} {trs ims fns trs0 ims0 fns0:VV} {Xd Xi Xf Xd0 Xi0 Xf0:Nat} {Mu0 Mu Mu':Nat->Prop} {H H0:Nat} {mo:OA} {mc:Nat} {ms:VV} {k a k' a':Int}
theorem mZ.below (q:mZ w mb M trs ims fns Xd Xi Xf Mu0 Mu H mo mc ms wr k a) (b:Below (E (U wr)) wr w'):mZ w mb M trs ims fns Xd Xi Xf Mu0 Mu H mo mc ms w' k a:=by
 have c:KT (λ_=>True) wr w':=KT.below b;exact⟨q.s.below b,ah q.row c trivial,q.own,λd e=>(q.mt d e).frame (λf _ i=>b.block f i) b.size,q.kx.trans ((KX.aq b).mono (λ_ _ h=>h) q.kx.size),q.m0,q.m1,q.m2,q.hf⟩
theorem mZ.grow (q:mZ w mb M trs ims fns Xd Xi Xf Mu0 Mu H mo mc ms wr k a) (c:Below (E (U wr)) wr w') (e:∀b,Mu b->Mu' b) (i:∀b,Mu' b->b<E (U w')) (f:∀b,b<E (U wr)->Mu' b->Mu b):mZ w mb M trs ims fns Xd Xi Xf Mu0 Mu' H mo mc ms w' k a:=by
 have j:KT (λ_=>True) wr w':=KT.below c;have r:=q.kx.size;exact⟨q.s.grow c e i f,ah q.row j trivial,λb l=>e b (q.own b l),λm o=>((q.mt m o).weaken (λb c d p=>c (f b d p))).frame (λb _ d=>c.block b d) c.size,q.kx.trans ((KX.aq c).mono (λ_ _ h=>h) q.kx.size),q.m0,λb c=>e b (q.m1 b c),λb d c=>q.m2 b d (f b oM c),q.hf⟩
theorem mZ.no (q:mZ w mb M trs ims fns Xd Xi Xf Mu0 Mu H mo mc ms wr k a) (b:Kp (E (U wr)) mb wr w') (d:cF w' mb ((M.bt k a).bt k' a')) (e:(M.bt k a).fk≠0->k'=(M.bt k a).fk):mZ w mb M trs ims fns Xd Xi Xf Mu0 Mu H mo mc ms w' k' a':=
 ⟨q.s.no d b,ah q.row (KT.mb q.s.mk' b) dC,q.own,λf i=>(q.mt f i).frame (λj l m=>b.block j m (λc=>l (c▸q.s.dT))) b.size,q.kx.trans ((KX.cN b q.m0).mono (λ_ _ h=>h) q.kx.size),q.m0,q.m1,q.m2,λh=>by have c:=q.hf h;have:=e (by show k≠0;rw[c];exact h);rw[this];exact c⟩
theorem mZ.sig {kb:Nat} {K:CK} {how next one fk fa:Int} {A:Nat->Prop} {X:Nat} {e:Ending} (q:mZ w mb M trs ims fns Xd Xi Xf Mu0 Mu H mo mc ms wr k a) (B:bP wr kb K how next one fk fa) (C:Mu kb) (Z:E (U w)<=kb) (hS:∀b,A b->¬Mu b) (G:fV wr mb kb (M.bt k a) K A X n e w'):
 ∃(z:Int) (i:OA) (j:Nat) (c:VV) (l:OA) (m:Nat) (o:VV) (p r:Int) (s:OA) (t u:Nat) (v:OA) (x y:Nat) (k' a':Int) (d:Nat),e=.returned (.tuple #[.agg (eV z aF aF i (O c) j (vN p) (vN r) (J s t u) (J v x y)),J l (O o) m])/\mZ w mb M trs ims fns Xd Xi Xf Mu0 Mu d mo mc ms w' k' a'/\H<=d/\KX (λb=>b=kb\/b=mb) (E (U wr)) wr w'/\nr (λb=>¬Mu b) (O M.ds) d w' i j c l m o (ai p r (J s t u) (J v x y)).toList X/\(k'=0->O c=n):=by
 obtain⟨z,i,j,c,l,m,o,p,r,s,t,u,v,x,y,k',a',d,L,N,D,P,f,R,S⟩:=q.s.sig B C hS G;have T:=q.m0;refine⟨z,i,j,c,l,m,o,p,r,s,t,u,v,x,y,k',a',d,L,⟨N,ah q.row (KT.kx B q.s.mk' f) dC,q.own,λV W=>((q.mt V W).frame (λb Y F=>f.block b F (λe=>Y (by rcases e with rfl|rfl;exact C;exact q.s.dT))) f.size).le D,q.kx.trans (f.mono (λb F e=>by rcases e with rfl|rfl;omega;exact T) q.kx.size),q.m0,q.m1,q.m2,λh=>by have e:=q.hf h;have:=P (by show k≠0;rw[e];exact h);rw[this];exact e⟩,D,f,R,S⟩
theorem mZ.push (q:mZ w mb M trs ims fns Xd Xi Xf Mu0 Mu H mo mc ms wr k a) {cs:Array Value} (B:fT (λb=>¬Mu b) (O M.ds) H wr cs.toList) (C:cs.size=9) (one:∀u∈cs.toList,u.oneCell'=true) (p:O ms<=20000) (y:TypeId) {ad:Nat} (D:ad=E (U wr)):
 ∃r w',(Builtin.append_ #[91,91] y #[J mo (O ms) mc,J (aS ad) 1 1]).run Tryz.prog (wr.alloc (Ob cs 97))=.ok r w'/\∃e f Mu',r=J e (O (ms++[cs.toList])) f/\mZ w mb M trs ims fns Xd Xi Xf Mu0 Mu' H e f (ms++[cs.toList]) w' k a/\KX Mu (E (U wr)) wr w':=by
 have F:=q.kx.size;obtain⟨r,w',G,d⟩:=fg (W:=wr) Tryz.underlying91 zo Q dC q.row F cs C one (by unfold maxLen;omega) oM y D;obtain⟨e,f,rfl⟩:=d.shape;have z:=App.kt q.row d;have s:E (U wr)<=E (U w'):=lT sQ d.grown.size;have i:KX Mu (E (U wr)) wr w':=⟨d.grown.os,d.grown.tape,d.grown.output,s,λb c p=>(d.grown.block b (by simp;omega) (λm=>p (q.own b m.symm))).trans (Below.heap_alloc _ _ _ c)⟩
 have K:∀b,(Value.slice e (O ms+1) f).ownBlock=some b->b<E (U wr)->Mu b:=λb c j=>by
  rcases d.own with m|m
  ·exact q.own b (by rw[<-m];exact c)
  ·rw[m] at c;simp at c;omega
 have t:O (ms++[cs.toList])=O ms+1:=sQ;have v:∀b,b<E (U wr)->(Mu b\/(Value.slice e (O ms+1) f).ownBlock=some b)->Mu b:=λb j c=>by rcases c with c|c;exact c;exact K b c j
 have L:al (λb=>¬Mu b/\b<E (U wr)) wr w':=λb c j=>i.block b j c.1;refine⟨_,w',G,e,f,λb=>Mu b\/(Value.slice e (O ms+1) f).ownBlock=some b,by rw[t],⟨?_,?_,?_,?_,?_,q.m0,λb c=>.inl (q.m1 b c),λb j c=>q.m2 b j (v b oM c),q.hf⟩,i⟩
 ·exact q.s.move (k:=k) (a:=a) i z dC (au z q.s.mk' dC) (λb c=>.inl c) (λb c=>by rcases c with c|c;(have:=q.s.mlt b c;omega);exact(d.row.lt b c).2) v
 ·have N:(ms++[cs.toList]).flatten=ms.flatten++cs.toList:=sQ;rw[t,N];exact d.row
 ·intro b c;rw[t] at c;exact .inr c
 ·intro l o;have A:∀l,fT (λb=>¬Mu b) (O M.ds) H wr l->fT (λb=>¬(Mu b\/(Value.slice e (O ms+1) f).ownBlock=some b)) (O M.ds) H w' l:=λl h=>((h.weaken (λb P R=>(⟨P,R⟩:¬Mu b/\b<E (U wr)))).frame L s).weaken (λb c _ x=>c.1 (v b c.2 x));rcases List.mem_append.1 o with o|o
  ·exact A l (q.mt l o)
  ·rw[List.mem_singleton.1 o];exact A _ B
 ·refine q.kx.trans ⟨i.os,i.tape,i.output,s,λb c p=>i.block b oM (λx=>p (q.m2 b c x))⟩
def uv (w:World) (mb:Nat) (M:MK) (trs ims fns:VV) (Xd Xi Xf:Nat) (Mu:Nat->Prop) (H:Nat) (e:Ending) (w':World):Prop:=
 ∃(k a:Int) (trs':VV) (H':Nat),e=.returned (.tuple #[])/\MS w' mb (M.bt k a) trs' ims fns Xd Xi Xf Mu H'/\KX Mu (E (U w)) w w'/\O trs'=O trs/\H<=H'/\(M.fk≠0->k=M.fk)
end
end
section
variable{cs:List Cs} {H cc n:Nat} {Y:Nat->Prop} {co:OA} {w w':World}
theorem yi:(Tryz.prog.info? 69).map (λb=>(b.zero,b.size,b.bytes))=some (some (.agg #[.string ⟨#[]⟩,.bool false,vN 0,vN 0,J I 0 0,J I 0 0]),6,88):=by kernel_rfl
theorem ym:(Tryz.prog.info? 67).map (λb=>(b.zero,b.size,b.bytes))=some (some (.agg #[.string ⟨#[]⟩,J I 0 0]),2,40):=by kernel_rfl
theorem kr:∀(c:List Nat) (n b:Nat),(c.set n b).sum<=c.sum+b
 |[],n,b=>sQ
 |x::r,0,b=>by
  rw[List.set_cons_zero,List.sum_cons,List.sum_cons];omega
 |x::r,n+1,b=>by
  rw[List.set_cons_succ,List.sum_cons,List.sum_cons];have:=kr r n b;omega
abbrev Dd.put (d:Dd) (co:OA) (cc:Nat) (cs:List Cs):Dd:={d with ao:=co,cp:=cc,cs:=cs}
abbrev MK.put (M:MK) (n:Nat) (d:Dd):MK:={M with ds:=M.ds.set n d}
section
variable{w w':World} {mb:Nat} {M:MK} {trs ims fns:VV} {Xd Xi Xf:Nat} {Mu Mu':Nat->Prop} {H H':Nat}
theorem MS.xU (h:MS w mb M trs ims fns Xd Xi Xf Mu H) {d:Dd} (v:M.ds[n]? =some d) {g:Nat} (F:M.cV=some ⟨g,0,I⟩) {Y:Nat} (G:eB (λb=>¬Mu b) (O M.ds) H Y w (d.put co cc cs)):MS (w.setCell ⟨g,n*10+8,I⟩ (J co (O cs) cc)) mb (M.put n (d.put co cc cs)) trs ims fns (Xd+Y) Xi Xf Mu H/\KX Mu (E (U w)) w (w.setCell ⟨g,n*10+8,I⟩ (J co (O cs) cc))/\KT (λy=>y≠64) w (w.setCell ⟨g,n*10+8,I⟩ (J co (O cs) cc)):=by
 have z:(Value.slice M.cV (O M.ds) M.dN).ownBlock=some g:=by rw[F];rfl
 obtain⟨ad,L⟩:=aX h.pi.cu z;have l:KT (λy=>y≠64) w (w.setCell ⟨g,n*10+8,I⟩ (J co (O cs) cc)):=KT.set L _ _;have A:KX Mu (E (U w)) w (w.setCell ⟨g,n*10+8,I⟩ (J co (O cs) cc)):=(KX.refl _ _ _).setCell (p:=⟨g,n*10+8,I⟩) (.inr (h.jt g z)) _;have t:al (λb=>¬Mu b) w (w.setCell ⟨g,n*10+8,I⟩ (J co (O cs) cc)):=λb m N=>A.block b N m;have q:=A.size;have c:O (M.put n (d.put co cc cs)).ds=O M.ds:=List.length_set;have r:=h.pi;have P:∀e∈(M.put n (d.put co cc cs)).ds,e∈M.ds\/e=d.put co cc cs:=λe f=>List.mem_or_eq_of_mem_set f;have R:=mG v;have S:=(gS v).1;obtain⟨T,V,ae,W⟩:=h.jF;have C:=dq r.cu z (n*10+8) (J co (O cs) cc)
 have Z:(M.ds.map Dd.c).flatten.set (n*10+8) (J co (O cs) cc)=((M.put n (d.put co cc cs)).ds.map Dd.c).flatten:=by
  have:=gp (size:=10) (us:=M.ds.map Dd.c) (λx j=>by obtain⟨u,_,rfl⟩:=List.mem_map.1 j;rfl) (i:=n) (x:=d.c) (by rw[List.getElem?_map,v];rfl) (o:=8) dC (J co (O cs) cc);rw[this];show _=((M.ds.set n (d.put co cc cs)).map Dd.c).flatten;rw[List.map_set];rfl
 rw[Z] at C;refine⟨⟨⟨?_,r.cK.kt l dC dC,?_,?_,?_,?_⟩,ah h.tr l dC,ah h.im l dC,ah h.fn l dC,h.dT,λb m=>Nat.lt_of_lt_of_le (h.mlt b m) q,h.lF,h.jN,?_,h.jX,h.lL,h.lY,⟨T.set n Y,by rw[c,List.length_set];exact V,lT (kr _ _ _) oM,?_⟩,?_,?_,?_⟩,A,l⟩
 ·have:=au l h.mk' dC;unfold cF at*;rw[this];simp
 ·intro aa ab u s;rw[c];exact r.q aa ab u s
 ·rw[c];exact C
 ·rw[c];exact r.bB
 ·intro e f;rcases P e f with B|B
  ·exact r.lg e B
  ·rw[B];exact r.lg d R
 ·intro b m;rw[c] at m;exact h.jt b m
 ·intro i e u f s;rw[c];by_cases D:i=n
  ·subst D;rw[List.getElem?_set_self S] at f;obtain rfl:=Option.some.inj f;rw[List.getElem?_set_self oM] at s;obtain rfl:=Option.some.inj s;exact G.frame t q
  ·rw[List.getElem?_set_ne (λac=>D ac.symm)] at f s;exact(W i e u f s).frame t q
 ·intro x j;rw[c];exact(h.jq x j).frame t q
 ·rw[c];exact h.lO.imp (λY x j=>j.frame t q)
 ·rw[c];exact h.lp.imp (λY x j=>j.frame t q)
end
structure DC (w:World) (mb cb:Nat) (M:MK) (trs ims fns:VV) (Xd Xi Xf:Nat) (Mu0 Mu:Nat->Prop) (H:Nat) (K:CK) (co:OA) (cc:Nat) (cs:List Cs) (X:Nat) (wr:World) (k a next fk fa:Int):Prop where
 s:MS wr mb (M.bt k a) trs ims fns Xd Xi Xf Mu H
 cv:bP wr cb K 2 next 0 fk fa
 ni:Mu cb
 row:wr.ownsRow (E (U w)) 67 2 (J co (O cs) cc) (O cs) (cs.map Cs.c).flatten
 own:∀b,(Value.slice co (O cs) cc).ownBlock=some b->Mu b
 ct:∀c∈cs,ro wr (λb=>¬Mu b) 6 (J c.ao (O c.ps) c.cp) (O c.ps) (c.ps.map Pt.c).flatten/\O c.ps<=30000/\∀p∈c.ps,eo (λb=>¬Mu b) (O M.ds) H wr p.c
 sz:∀f,(cs.map (λc=>(c.ps.map (λp=>aU f wr p.ty)).sum)).sum<=X
 kx:KX Mu0 (E (U w)) w wr
 m0:Mu0 mb
 m1:∀b,Mu0 b->Mu b
 m2:∀b,b<E (U w)->Mu b->Mu0 b
 hf:M.fk≠0->k=M.fk
structure DP (w:World) (mb cb kb:Nat) (M:MK) (trs ims fns:VV) (Xd Xi Xf:Nat) (Mu0 Mu:Nat->Prop) (H:Nat) (K:CK) (co:OA) (cc:Nat) (cs:List Cs) (X:Nat) (nm:ByteArray) (po:OA) (pc:Nat) (ps:List Pt) (Xp:Nat) (wr:World) (k a next fk fa:Int):Prop where
 c:DC w mb cb M trs ims fns Xd Xi Xf Mu0 Mu H K co cc cs X wr k a next fk fa
 ik:wr.heap[kb]? =some (Ob #[.string nm,J po (O ps) pc] 67 (0,0))
 rC:Mu kb
 yT:(Value.slice co (O cs) cc).ownBlock≠some kb
 rD:E (U w)<=kb
 jV:wr.ownsRow (E (U w)) 69 6 (J po (O ps) pc) (O ps) (ps.map Pt.c).flatten
 ve:∀b,(Value.slice po (O ps) pc).ownBlock=some b->Mu b
 pt:∀p∈ps,eo (λb=>¬Mu b) (O M.ds) H wr p.c
 yQ:∀f,(ps.map (λp=>aU f wr p.ty)).sum<=Xp
section
variable{w wr w':World} {mb cb kb:Nat} {M:MK} {trs ims fns:VV} {Xd Xi Xf:Nat} {Mu0 Mu Mu2:Nat->Prop} {H H2:Nat} {K:CK} {co:OA} {cc:Nat} {cs:List Cs} {X:Nat} {nm:ByteArray} {po:OA} {pc:Nat} {ps:List Pt} {Xp:Nat} {k a next fk fa k' a' next' fk' fa':Int}
theorem ie {S:Nat->Prop} {D:Nat} {ps:List Pt} (h:∀p∈ps,eo S D H w p.c) (b:al S w w') (c:E (U w)<=E (U w')) (f:Nat):(ps.map (λp=>aU f w' p.ty)).sum=(ps.map (λp=>aU f w p.ty)).sum:=congrArg List.sum (List.map_congr_left (f:=λp:Pt=>aU f w' p.ty) (λp d=>((h p d).frame b c).2 f))
theorem DC.step (q:DC w mb cb M trs ims fns Xd Xi Xf Mu0 Mu H K co cc cs X wr k a next fk fa) (f:KX Y (E (U wr)) wr w') (l:∀b,Y b->Mu b) (x:∀b,Y b->(Value.slice co (O cs) cc).ownBlock≠some b) (y:MS w' mb (M.bt k' a') trs ims fns Xd Xi Xf Mu2 H2) (z:H<=H2) (A:bP w' cb K 2 next' 0 fk' fa') (j:∀b,Mu b->Mu2 b) (s:∀b,b<E (U wr)->Mu2 b->Mu b) (B:k≠0->k'=k):DC w mb cb M trs ims fns Xd Xi Xf Mu0 Mu2 H2 K co cc cs X w' k' a' next' fk' fa':=by
 have m:=f.size;have C:=q.kx.size;have D:al (λb=>¬Mu b) wr w':=λb c d=>f.block b d (λe=>c (l b e));have t:al (λb=>¬Mu2 b) wr w':=λb c d=>f.block b d (λe=>c (j b (l b e)));have u:∀b,¬Mu b->b<E (U wr)->¬Mu2 b:=λb c d F=>c (s b d F);refine⟨y,A,j _ q.ni,ag q.row (λb c d=>f.block b d (λe=>x b e c)),λb c=>j b (q.own b c),λi o=>?_,λp=>?_,?_,q.m0,λb c=>j b (q.m1 b c),λb d c=>q.m2 b d (s b oM c),λh=>by have v:=q.hf h;rw[<-v];exact B (by rw[v];exact h)⟩
 ·obtain⟨G,L,N⟩:=q.ct i o;exact⟨(G.weaken u).frame t m,L,λr P=>((((N r P).weaken u).frame t m).1).le z⟩
 ·rw[List.map_congr_left (g:=λi=>(i.ps.map (λr=>aU p wr r.ty)).sum) (λi o=>ie (q.ct i o).2.2 D m p)];exact q.sz p
 ·exact q.kx.trans (f.mono (λb d e=>q.m2 b d (l b e)) C)
theorem DP.step (q:DP w mb cb kb M trs ims fns Xd Xi Xf Mu0 Mu H K co cc cs X nm po pc ps Xp wr k a next fk fa) (e:KX Y (E (U wr)) wr w') (j:∀b,Y b->Mu b) (r:∀b,Y b->(Value.slice co (O cs) cc).ownBlock≠some b) (s:∀b,Y b->(Value.slice po (O ps) pc).ownBlock≠some b) (t:¬Y kb) (u:MS w' mb (M.bt k' a') trs ims fns Xd Xi Xf Mu2 H2) (l:H<=H2) (v:bP w' cb K 2 next' 0 fk' fa') (i:∀b,Mu b->Mu2 b) (m:∀b,b<E (U wr)->Mu2 b->Mu b) (x:k≠0->k'=k):DP w mb cb kb M trs ims fns Xd Xi Xf Mu0 Mu2 H2 K co cc cs X nm po pc ps Xp w' k' a' next' fk' fa':=by
 have o:=e.size;have y:al (λb=>¬Mu b) wr w':=λb c d=>e.block b d (λf=>c (j b f));have z:al (λb=>¬Mu2 b) wr w':=λb c d=>e.block b d (λf=>c (i b (j b f)));have A:∀b,¬Mu b->b<E (U wr)->¬Mu2 b:=λb c d B=>c (m b d B);exact⟨q.c.step e j r u l v i m x,(e.block _ (gE q.ik).1 t).trans q.ik,i _ q.rC,q.yT,q.rD,ag q.jV (λb c d=>e.block b d (λf=>s b f c)),λb c=>i b (q.ve b c),λC D=>((((q.pt C D).weaken A).frame z o).1).le l,λp=>by rw[ie q.pt y o p];exact q.yQ p⟩
theorem cW {base e size:Nat} {v:Value} {xs:List Value} (h:w.ownsRow base e size v n xs) {b:Nat} {c:Array Value} {t:TypeId} {z:Nat × Nat} (d:w.heap[b]? =some (Ob c t z)) (f:t≠e):v.ownBlock≠some b:=λi=>by
 obtain⟨l,j⟩:=aX h i;exact aI d j f Q
theorem DC.below (q:DC w mb cb M trs ims fns Xd Xi Xf Mu0 Mu H K co cc cs X wr k a next fk fa) (b:Below (E (U wr)) wr w'):DC w mb cb M trs ims fns Xd Xi Xf Mu0 Mu H K co cc cs X w' k a next fk fa:=
 q.step (Y:=λ_=>False) (KX.aq b) (λ_ h=>h.elim) (λ_ h=>h.elim) (q.s.below b) (lR _) (q.cv.below b) (λ_ h=>h) (λ_ _ h=>h) (λ_=>rfl)
theorem DP.below (q:DP w mb cb kb M trs ims fns Xd Xi Xf Mu0 Mu H K co cc cs X nm po pc ps Xp wr k a next fk fa) (b:Below (E (U wr)) wr w'):DP w mb cb kb M trs ims fns Xd Xi Xf Mu0 Mu H K co cc cs X nm po pc ps Xp w' k a next fk fa:=
 q.step (Y:=λ_=>False) (KX.aq b) (λ_ h=>h.elim) (λ_ h=>h.elim) (λ_ h=>h.elim) (λh=>h) (q.c.s.below b) (lR _) (q.c.cv.below b) (λ_ h=>h) (λ_ _ h=>h) (λ_=>rfl)
theorem DC.no (q:DC w mb cb M trs ims fns Xd Xi Xf Mu0 Mu H K co cc cs X wr k a next fk fa) (b:Kp (E (U wr)) mb wr w') (e:cF w' mb ((M.bt k a).bt k' a')) (f:(M.bt k a).fk≠0->k'=(M.bt k a).fk):DC w mb cb M trs ims fns Xd Xi Xf Mu0 Mu H K co cc cs X w' k' a' next fk fa:=
 q.step (Y:=λc=>c=mb) (KX.cN b Q) (λc d=>d▸q.s.dT) (λc d=>by rw[d];exact cW q.row q.s.mk' dC) (q.s.no e b) (lR _) ((b.block _ q.cv.lt (aI q.cv q.s.mk' dC)).trans q.cv) (λ_ h=>h) (λ_ _ h=>h) f
theorem DP.no (q:DP w mb cb kb M trs ims fns Xd Xi Xf Mu0 Mu H K co cc cs X nm po pc ps Xp wr k a next fk fa) (d:Kp (E (U wr)) mb wr w') (e:cF w' mb ((M.bt k a).bt k' a')) (f:(M.bt k a).fk≠0->k'=(M.bt k a).fk):DP w mb cb kb M trs ims fns Xd Xi Xf Mu0 Mu H K co cc cs X nm po pc ps Xp w' k' a' next fk fa:=
 q.step (Y:=λc=>c=mb) (KX.cN d Q) (λc b=>b▸q.c.s.dT) (λc b=>by rw[b];exact cW q.c.row q.c.s.mk' dC) (λc b=>by rw[b];exact cW q.jV q.c.s.mk' dC) (λb=>aI q.ik q.c.s.mk' dC b) (q.c.s.no e d) (lR _) ((d.block _ q.c.cv.lt (aI q.c.cv q.c.s.mk' dC)).trans q.c.cv) (λ_ h=>h) (λ_ _ h=>h) f
theorem DP.kp (q:DP w mb cb kb M trs ims fns Xd Xi Xf Mu0 Mu H K co cc cs X nm po pc ps Xp wr k a next fk fa) (c:Kp (E (U wr)) cb wr w') (e:bP w' cb K 2 next' 0 fk' fa'):DP w mb cb kb M trs ims fns Xd Xi Xf Mu0 Mu H K co cc cs X nm po pc ps Xp w' k a next' fk' fa':=
 q.step (Y:=λd=>d=cb) (KX.cN c Q) (λd b=>b▸q.c.ni) (λd b=>by rw[b];exact cW q.c.row q.c.cv dC) (λd b=>by rw[b];exact cW q.jV q.c.cv dC) (λb=>aI q.ik q.c.cv dC b) (q.c.s.step (k:=k) (a:=a) (KX.cN c q.c.ni) ((KT.kp q.c.cv c).mono (λi f=>f.1)) ((c.block _ q.c.s.mk'.lt (aI q.c.s.mk' q.c.cv dC)).trans q.c.s.mk')) (lR _) e (λ_ h=>h) (λ_ _ h=>h) (λ_=>rfl)
theorem DP.le (q:DP w mb cb kb M trs ims fns Xd Xi Xf Mu0 Mu H K co cc cs X nm po pc ps Xp wr k a next fk fa) (b:H<=H2):DP w mb cb kb M trs ims fns Xd Xi Xf Mu0 Mu H2 K co cc cs X nm po pc ps Xp wr k a next fk fa:=
 q.step (Y:=λ_=>False) (KX.refl _ _ _) (λ_ h=>h.elim) (λ_ h=>h.elim) (λ_ h=>h.elim) (λh=>h) (q.c.s.le b) b q.c.cv (λ_ h=>h) (λ_ _ h=>h) (λ_=>rfl)
theorem DC.var (q:DC w mb cb M trs ims fns Xd Xi Xf Mu0 Mu H K co cc cs X wr k a next fk fa) (nm:ByteArray):DP w mb cb (E (U wr)) M trs ims fns Xd Xi Xf Mu0 (λb=>Mu b\/b=E (U wr)) H K co cc cs X nm I 0 [] 0 (wr.alloc (Ob #[.string nm,J I 0 0] 67)) k a next fk fa:=by
 obtain⟨e,j⟩:=al1 wr (Ob #[.string nm,J I 0 0] 67);have o:E (U (wr.alloc (Ob #[.string nm,J I 0 0] 67)))=E (U wr)+1:=sQ;have l:=q.s.mlt;have i:∀b,b<E (U wr)->(Mu b\/b=E (U wr))->Mu b:=λb c d=>by rcases d with d|d;exact d;omega
 exact⟨q.step (Y:=λ_=>False) (KX.aq e) (λ_ h=>h.elim) (λ_ h=>h.elim) (q.s.grow e (λb c=>.inl c) (λb c=>by rcases c with c|c;(have:=l b c;omega);omega) i) (lR _) (q.cv.below e) (λb c=>.inl c) i (λ_=>rfl),j,.inr Q,λf=>oH (q.row.lt _ f).2,q.kx.size,World.ownsRow_nil _ _ _ _,λb f=>by simp[Value.ownBlock] at f,λp m=>by simp at m,λr=>by simp⟩
theorem DP.push (q:DP w mb cb kb M trs ims fns Xd Xi Xf Mu0 Mu H K co cc cs X nm po pc ps Xp wr k a next fk fa) {p:Pt} (F:eo (λb=>¬Mu b) (O M.ds) H wr p.c) {x:Nat} (ab:∀f,aU f wr p.ty<=x) {cl:Array Value} (ac:cl.toList=p.c) (ae:cl.size=6) (one:∀u∈cl.toList,u.oneCell'=true) (G:O ps<=20000) (L:TypeId) {ad:Nat} (af:ad=E (U wr)):
 ∃y w',(Builtin.append_ #[65,65] L #[J po (O ps) pc,J (aS ad) 1 1]).run Tryz.prog (wr.alloc (Ob cl 69))=.ok y w'/\∃d e Mu2,y=J d (O ps+1) e/\w'.heap[kb]? =some (Ob #[.string nm,J po (O ps) pc] 67 (0,0))/\KT (λj=>j≠69) wr w'/\KX Mu (E (U wr)) wr w'/\KX Mu (E (U wr)) wr (w'.setCell ⟨kb,1,I⟩ (J d (O ps+1) e))/\KT (λj=>j≠69/\j≠67) wr (w'.setCell ⟨kb,1,I⟩ (J d (O ps+1) e))/\(∀b,Mu b->Mu2 b)/\(∀b,b<E (U wr)->Mu2 b->Mu b)/\DP w mb cb kb M trs ims fns Xd Xi Xf Mu0 Mu2 H K co cc cs X nm d e (ps++[p]) (Xp+x) (w'.setCell ⟨kb,1,I⟩ (J d (O ps+1) e)) k a next fk fa:=by
 have ag:=q.c.kx.size;obtain⟨y,w',ai,i⟩:=fg (W:=wr) Tryz.underlying65 yi Q dC q.jV ag cl ae one (by unfold maxLen;omega) oM L af;obtain⟨d,e,rfl⟩:=i.shape;have z:=App.kt q.jV i;have A:=au z q.ik dC;have N:=KT.set A 1 (J d (O ps+1) e);have t:KT (λj=>j≠69/\j≠67) wr (w'.setCell ⟨kb,1,I⟩ (J d (O ps+1) e)):=(z.mono (λj B=>B.1)).trans (N.mono (λj B=>B.2));have aj:E (U wr)<=E (U w'):=lT sQ i.grown.size;have P:KX (λb=>(Value.slice po (O ps) pc).ownBlock=some b\/b=kb) (E (U wr)) wr w':=⟨i.grown.os,i.grown.tape,i.grown.output,aj,λb c G=>(i.grown.block b (by simp;omega) (λl=>G (.inl l.symm))).trans (Below.heap_alloc _ _ _ c)⟩;have R:KX (λb=>(Value.slice po (O ps) pc).ownBlock=some b\/b=kb) (E (U wr)) wr (w'.setCell ⟨kb,1,I⟩ (J d (O ps+1) e)):=P.setCell (p:=⟨kb,1,I⟩) (.inr (.inr Q)) _;have C:∀b,((Value.slice po (O ps) pc).ownBlock=some b\/b=kb)->Mu b:=λb c=>by rcases c with c|c;exact q.ve b c;rw[c];exact q.rC
 have ak:KX Mu (E (U wr)) wr w':=P.mono (λb _ c=>C b c) (lR _);have m:KX Mu (E (U wr)) wr (w'.setCell ⟨kb,1,I⟩ (J d (O ps+1) e)):=R.mono (λb _ c=>C b c) (lR _)
 have ao:∀b,(Value.slice d (O ps+1) e).ownBlock=some b->b<E (U wr)->Mu b:=λb c o=>by
  rcases i.own with l|l
  ·exact q.ve b (by rw[<-l];exact c)
  ·rw[l] at c;simp at c;omega
 have v:∀b,b<E (U wr)->(Mu b\/(Value.slice d (O ps+1) e).ownBlock=some b)->Mu b:=λb o c=>by rcases c with c|c;exact c;exact ao b c o
 have ap:E (U (w'.setCell ⟨kb,1,I⟩ (J d (O ps+1) e)))=E (U w'):=sQ
 have aq:∀b,(Mu b\/(Value.slice d (O ps+1) e).ownBlock=some b)->b<E (U (w'.setCell ⟨kb,1,I⟩ (J d (O ps+1) e))):=λb c=>by
  rw[ap];rcases c with c|c
  ·have:=q.c.s.mlt b c;omega
  ·exact(i.row.lt b c).2
 have ar:MS (w'.setCell ⟨kb,1,I⟩ (J d (O ps+1) e)) mb (M.bt k a) trs ims fns Xd Xi Xf (λb=>Mu b\/(Value.slice d (O ps+1) e).ownBlock=some b) H:=q.c.s.move (k:=k) (a:=a) m t dC (au t q.c.s.mk' dC) (λb c=>.inl c) aq v;have av:al (λb=>¬Mu b/\b<E (U wr)) wr (w'.setCell ⟨kb,1,I⟩ (J d (O ps+1) e)):=λb c o=>m.block b o c.1;have S:al (λb=>¬Mu b) wr (w'.setCell ⟨kb,1,I⟩ (J d (O ps+1) e)):=λb c o=>m.block b o c;have D:O (ps++[p])=O ps+1:=sQ;have T:∀r:Pt,eo (λb=>¬Mu b) (O M.ds) H wr r.c->eo (λb=>¬(Mu b\/(Value.slice d (O ps+1) e).ownBlock=some b)) (O M.ds) H (w'.setCell ⟨kb,1,I⟩ (J d (O ps+1) e)) r.c:=λr h=>((((h.weaken (λb V Z=>(⟨V,Z⟩:¬Mu b/\b<E (U wr)))).frame av m.size).1).weaken (λb c _ aw=>c.1 (v b c.2 aw)));refine⟨_,w',ai,d,e,λb=>Mu b\/(Value.slice d (O ps+1) e).ownBlock=some b,Q,A,z,ak,m,t,λb c=>.inl c,v,⟨q.c.step R C (λb c=>?_) ar (lR _) (au t q.c.cv dC) (λb c=>.inl c) v (λ_=>rfl),?_,.inl q.rC,q.yT,q.rD,?_,λb c=>?_,λr s=>?_,λf=>?_⟩⟩
 ·rcases c with c|c
  ·obtain⟨az,ax⟩:=aX q.jV c;exact cW q.c.row ax dC
  ·rw[c];exact q.yT
 ·have:=heap_setCell_same w' kb 1 _ 67 (J d (O ps+1) e) A;rw[D];exact this
 ·rw[D,List.map_append,List.flatten_append];have aa:=ah i.row N dC;rw[ac] at aa;simpa using aa
 ·rw[D] at c;exact .inr c
 ·rcases List.mem_append.1 s with s|s
  ·exact T r (q.pt r s)
  ·rw[List.mem_singleton.1 s];exact T _ F
 ·rw[List.map_append,List.sum_append,ie q.pt S m.size f];have V:=q.yQ f
  have Z:aU f (w'.setCell ⟨kb,1,I⟩ (J d (O ps+1) e)) p.ty<=x:=by
   have l:=(F.frame S m.size).2 f;have ay:aU f (w'.setCell ⟨kb,1,I⟩ (J d (O ps+1) e)) p.ty=aU f wr p.ty:=l;rw[ay];exact ab f
  simp;omega
end
end
section
variable{x:List Value} {D H ad:Nat} {S:Nat->Prop} {w:World}
theorem zu:(Tryz.prog.info? 64).map (λa=>(a.zero,a.size,a.bytes))=some (some (.agg #[.string ⟨#[]⟩,zI,zI,.bool false,.bool false,.bool false,zI,zI,zS,zI]),10,88):=by kernel_rfl
theorem yh:(Tryz.prog.info? 93).map (λa=>(a.zero,a.size,a.bytes))=some (some (.agg (js ⟨#[]⟩ 0 0 false I 0 0)),5,64):=by kernel_rfl
theorem yj:(Tryz.prog.info? 115).map (λa=>(a.zero,a.size,a.bytes))=some (some (.agg #[.string ⟨#[]⟩,zS,zI]),3,48):=by kernel_rfl
theorem af.imp {G c:Int->Int->Nat->Nat->Prop} (d:∀k n a b,G k n a b->c k n a b):(h:Nat)->(cs:List Value)->af S G h w cs->af S c h w cs
 |0,_,hn=>absurd hn (λx=>x)
 |h+1,_,⟨kind,n,lv,av,ls,vs,h1,h2,h3,h4,h5,h6,h7⟩=>⟨kind,n,lv,av,ls,vs,h1,h2,h3,h4,h5,d _ _ _ _ h6,λx e=>af.imp d h x (h7 x e)⟩
theorem Gd.up (k n:Int) (a b:Nat) (h:Gd D k n a b):Gd (D+1) k n a b:=⟨h.1,λc=>⟨(h.2.1 c).1,oH (h.2.1 c).2⟩,h.2.2⟩
theorem eo.up (h:eo S D H w x):eo S (D+1) H w x:=by
 obtain⟨a,b,c,d,e,f,i,j,k,l,m,n⟩:=h;exact⟨a,b,c,d,e,f,i,j,k,l,m,af.imp Gd.up _ _ n⟩
theorem fT.up (h:fT S D H w x):fT S (D+1) H w x:=by
 obtain⟨a,b,c,d,e,f,i,j,k,l,m,n,o,p,q,r,s,t,u,v,y,z,A,B⟩:=h;exact⟨a,b,c,d,e,f,i,j,k,l,m,n,o,p,q,r,s,t,u,v,y,λC F=>af.imp Gd.up _ _ (z C F),af.imp Gd.up _ _ A,B⟩
theorem ja.up (h:ja S D H w x):ja S (D+1) H w x:=by
 obtain⟨a,b,c,d,e,f,i,j,k,l,m⟩:=h;exact⟨a,b,c,d,e,f,i,j,k,λn o=>(l n o).up,m⟩
theorem eB.up {X:Nat} {d:Dd} (h:eB S D H X w d):eB S (D+1) H X w d:=⟨h.row,λa b=>⟨(h.parts a b).1,(h.parts a b).2.1,λc e=>((h.parts a b).2.2 c e).up⟩,h.len,h.sz⟩
section
variable{w w':World} {mb:Nat} {M:MK} {trs:VV} {Xd Xi Xf:Nat} {Mu Mu':Nat->Prop} {H H':Nat}
theorem MS.yN (h:MS w mb M trs [] [] Xd Xi Xf Mu H) {d:Dd} (ak:d.ao=I) (t:d.cs=[]) (N:d.ak=0/\d.cL=0) (ao:d.cp=0) {cl:Array Value} (ap:cl.toList=d.c) (aq:cl.size=10) (one:∀u∈cl.toList,u.oneCell'=true) (P:O M.ds<=199999) (R:TypeId) (ar:ad=E (U w)):
 ∃A w',(Builtin.append_ #[24,24] R #[J M.cV (O M.ds) M.dN,J (aS ad) 1 1]).run Tryz.prog (w.alloc (Ob cl 64))=.ok A w'/\∃c e Mu',A=J c (O M.ds+1) e/\cF w' mb M/\KT (λi=>i≠64) w w'/\KX Mu (E (U w)) w w'/\KX Mu (E (U w)) w (w'.setCell ⟨mb,1,I⟩ (J c (O M.ds+1) e))/\(∀a,Mu a->Mu' a)/\(∀a,a<E (U w)->Mu' a->Mu a)/\KT (λi=>i≠64/\i≠88) w (w'.setCell ⟨mb,1,I⟩ (J c (O M.ds+1) e))/\MS (w'.setCell ⟨mb,1,I⟩ (J c (O M.ds+1) e)) mb {M with cV:=c,dN:=e,ds:=M.ds++[d]} trs [] [] Xd Xi Xf Mu' H:=by
 have m:=h.pi;have aF:=h.mk'.lt;obtain⟨A,w',av,j⟩:=fg (W:=w) Tryz.underlying24 zu Q dC m.cu (zL _) cl aq one (by unfold maxLen;omega) oM R ar;obtain⟨c,e,rfl⟩:=j.shape;have B:=App.kt m.cu j;have C:=au B h.mk' dC;have T:=KT.set C 1 (J c (O M.ds+1) e);have q:KT (λi=>i≠64/\i≠88) w (w'.setCell ⟨mb,1,I⟩ (J c (O M.ds+1) e)):=(B.mono (λi F=>F.1)).trans (T.mono (λi F=>F.2));have V:E (U w)<=E (U w'):=lT sQ j.grown.size;have X:E (U w)<=E (U (w'.setCell ⟨mb,1,I⟩ (J c (O M.ds+1) e))):=sU V;have Y:=j.row;have Z:KX Mu (E (U w)) w w':=⟨j.grown.os,j.grown.tape,j.grown.output,V,λa b P=>(j.grown.block a (by simp;omega) (λf=>P (h.jt a f.symm))).trans (Below.heap_alloc _ _ _ b)⟩;have aa:KX Mu (E (U w)) w (w'.setCell ⟨mb,1,I⟩ (J c (O M.ds+1) e)):=Z.setCell (p:=⟨mb,1,I⟩) (.inr h.dT) _;have ab:al (λa=>¬Mu a/\a<E (U w)) w (w'.setCell ⟨mb,1,I⟩ (J c (O M.ds+1) e)):=λa b v=>aa.block a v b.1
 have ac:∀a,(Value.slice c (O M.ds+1) e).ownBlock=some a->a<E (U w)->Mu a:=λa b v=>by
  rcases j.own with f|f
  ·exact h.jt a (by rw[<-f];exact b)
  ·rw[f] at b;simp at b;omega
 have ae:∀a,¬Mu a->a<E (U w)->(¬Mu a/\a<E (U w)):=λa r aw=>⟨r,aw⟩
 have af:∀a,(¬Mu a/\a<E (U w))->a<E (U (w'.setCell ⟨mb,1,I⟩ (J c (O M.ds+1) e)))->¬(Mu a\/(Value.slice c (O M.ds+1) e).ownBlock=some a):=λa b _ k=>by
  rcases k with k|k
  ·exact b.1 k
  ·exact b.1 (ac a k b.2)
 have l:O (M.ds++[d])=O M.ds+1:=sQ;obtain⟨ax,ay,az,aA⟩:=h.jF;refine⟨_,w',av,c,e,λa=>Mu a\/(Value.slice c (O M.ds+1) e).ownBlock=some a,Q,C,B,Z,aa,λa b=>.inl b,λa v b=>by rcases b with b|b;exact b;exact ac a b v,q,⟨⟨?_,m.cK.kt q dC dC,?_,?_,?_,?_⟩,ah h.tr q dC,ah h.im q dC,ah h.fn q dC,.inl h.dT,?_,λa f=>.inl (h.lF a f),λG k a f=>.inl (h.jN G k a f),?_,λa f=>.inl (h.jX a f),λa f=>.inl (h.lL a f),λa f=>.inl (h.lY a f),⟨ax++[0],?_,?_,?_⟩,?_,?_,?_⟩⟩
 ·have:=heap_setCell_same w' mb 1 _ 88 (J c (O M.ds+1) e) C;unfold cF at*;rw[this];simp[l]
 ·intro G k s y;have K:=m.q G k s y;show NQ (O (M.ds++[d])) (O trs) s;rw[l];exact⟨K.1,λf=>oH (K.2.1 f),K.2.2⟩
 ·show(w'.setCell _ _).ownsRow 0 64 10 (J c (O (M.ds++[d])) e) (O (M.ds++[d])) ((M.ds++[d]).map Dd.c).flatten;rw[l,List.map_append,List.flatten_append];have ag:=ah Y T dC;rw[ap] at ag;simpa using ag
 ·have:=m.bB;show 1<=O (M.ds++[d])/\O (M.ds++[d])<=200000/\4<=O trs;rw[l];omega
 ·intro n L;rcases List.mem_append.1 L with r|r
  ·exact m.lg n r
  ·rw[List.mem_singleton.1 r,N.1,N.2];omega
 ·intro a b;rcases b with b|b
  ·have:=h.mlt a b;omega
  ·have:=(Y.lt a b).2;simpa using this
 ·intro a b;have ai:(Value.slice c (O (M.ds++[d])) e).ownBlock=some a:=b;rw[l] at ai;exact .inr ai
 ·rw[List.length_append,ay];show _=O (M.ds++[d]);rw[l];rfl
 ·rw[List.sum_append];simpa using az
 ·intro z n s L y;have o:(M.ds++[d])[z]? =some n:=L;show eB _ (O (M.ds++[d])) H s _ n;rw[l];by_cases aB:z<O M.ds
  ·rw[List.getElem?_append_left aB] at o;rw[List.getElem?_append_left oM] at y;exact((((aA z n s o y).weaken ae).frame ab X).weaken af).up
  ·rw[List.getElem?_append_right oM] at o;obtain⟨aC,-⟩:=gS o;have aD:z=O M.ds:=by simp at aC;omega
   subst aD;rw[Nat.sub_self] at o;obtain rfl:d=n:=sU o;refine⟨?_,λaG aj=>?_,?_,λaH=>?_⟩
   ·rw[ak,t,ao];exact ro.bJ (World.ownsRow_nil _ 0 0 2) (λa f=>by simp[Value.ownBlock] at f)
   ·rw[t] at aj;simp at aj
   ·rw[t];simp
   ·rw[t];simp
 ·intro x aE;show ja _ (O (M.ds++[d])) H _ x;rw[l];exact((((h.jq x aE).weaken ae).frame ab X).weaken af).up
 ·exact Sm.nil.mono (zL _)
 ·exact Sm.nil.mono (zL _)
theorem MS.um (h:MS w mb M trs [] [] Xd Xi Xf Mu H) {L:OA} {N:Nat} (v:M.tv=J L (O trs) N) (l:ByteArray) (mod m:Int) (n:Bool) (P:O trs<=199999) (R:TypeId) (ag:ad=E (U w)):
 ∃y w',(Builtin.append_ #[25,25] R #[J L (O trs) N,J (aS ad) 1 1]).run Tryz.prog (w.alloc (Ob (js l mod m n I 0 0) 93))=.ok y w'/\∃d e Mu',y=J d (O trs+1) e/\cF w' mb M/\KT (λf=>f≠93) w w'/\KX Mu (E (U w)) w w'/\KX Mu (E (U w)) w (w'.setCell ⟨mb,2,I⟩ (J d (O trs+1) e))/\(∀a,Mu a->Mu' a)/\(∀a,a<E (U w)->Mu' a->Mu a)/\KT (λf=>f≠93/\f≠88) w (w'.setCell ⟨mb,2,I⟩ (J d (O trs+1) e))/\MS (w'.setCell ⟨mb,2,I⟩ (J d (O trs+1) e)) mb {M with tv:=J d (O trs+1) e} (trs++[(js l mod m n I 0 0).toList]) [] [] Xd Xi Xf Mu' H:=by
 have o:=h.pi;have aA:=h.mk'.lt;have z:=h.tr;rw[v] at z;obtain⟨y,w',ai,i⟩:=fg (W:=w) Tryz.underlying25 yh Q dC z (zL _) (js l mod m n I 0 0) Q (by intro aB k;simp at k;repeat(first|(subst k;rfl)|(rcases k with k|k;(subst k;rfl)))) (by unfold maxLen;omega) oM R ag;obtain⟨d,e,rfl⟩:=i.shape;have A:=App.kt z i;have B:=au A h.mk' dC;have T:=KT.set B 2 (J d (O trs+1) e);have q:KT (λf=>f≠93/\f≠88) w (w'.setCell ⟨mb,2,I⟩ (J d (O trs+1) e)):=(A.mono (λf C=>C.1)).trans (T.mono (λf C=>C.2));have V:E (U w)<=E (U w'):=lT sQ i.grown.size;have X:E (U w)<=E (U (w'.setCell ⟨mb,2,I⟩ (J d (O trs+1) e))):=sU V;have Y:=i.row;have Z:KX Mu (E (U w)) w w':=⟨i.grown.os,i.grown.tape,i.grown.output,V,λa b P=>(i.grown.block a (by simp;omega) (λc=>P (h.jX a (by rw[v];exact c.symm)))).trans (Below.heap_alloc _ _ _ b)⟩;have aa:KX Mu (E (U w)) w (w'.setCell ⟨mb,2,I⟩ (J d (O trs+1) e)):=Z.setCell (p:=⟨mb,2,I⟩) (.inr h.dT) _;have ab:al (λa=>¬Mu a/\a<E (U w)) w (w'.setCell ⟨mb,2,I⟩ (J d (O trs+1) e)):=λa b t=>aa.block a t b.1
 have ac:∀a,(Value.slice d (O trs+1) e).ownBlock=some a->a<E (U w)->Mu a:=λa b t=>by
  rcases i.own with c|c
  ·exact h.jX a (by rw[v,<-c];exact b)
  ·rw[c] at b;simp at b;omega
 have ae:∀a,¬Mu a->a<E (U w)->(¬Mu a/\a<E (U w)):=λa aj ak=>⟨aj,ak⟩
 have af:∀a,(¬Mu a/\a<E (U w))->a<E (U (w'.setCell ⟨mb,2,I⟩ (J d (O trs+1) e)))->¬(Mu a\/(Value.slice d (O trs+1) e).ownBlock=some a):=λa b _ j=>by
  rcases j with j|j
  ·exact b.1 j
  ·exact b.1 (ac a j b.2)
 have ao:∀a,(Mu a\/(Value.slice d (O trs+1) e).ownBlock=some a)->a<E (U (w'.setCell ⟨mb,2,I⟩ (J d (O trs+1) e))):=λa b=>by
  rcases b with b|b
  ·have:=h.mlt a b;omega
  ·have:=(Y.lt a b).2;simpa using this
 obtain⟨ap,aq,ar,av⟩:=h.jF;have F:O (trs++[(js l mod m n I 0 0).toList])=O trs+1:=sQ;refine⟨_,w',ai,d,e,λa=>Mu a\/(Value.slice d (O trs+1) e).ownBlock=some a,Q,B,A,Z,aa,λa b=>.inl b,λa t b=>by rcases b with b|b;exact b;exact ac a b t,q,⟨⟨?_,o.cK.kt q dC dC,?_,ah o.cu q dC,?_,o.lg⟩,?_,ah h.im q dC,ah h.fn q dC,.inl h.dT,ao,λa c=>.inl (h.lF a c),λG j a c=>.inl (h.jN G j a c),λa c=>.inl (h.jt a c),λa c=>.inr c,λa c=>.inl (h.lL a c),λa c=>.inl (h.lY a c),⟨ap,aq,ar,λaw ax u ay r=>(((av aw ax u ay r).weaken ae).frame ab X).weaken af⟩,?_,Sm.nil.mono (zL _),Sm.nil.mono (zL _)⟩⟩
 ·have:=heap_setCell_same w' mb 2 _ 88 (J d (O trs+1) e) B;simpa using this
 ·intro G j u r;have K:=o.q G j u r;rw[F];exact⟨K.1,K.2.1,λc=>oH (K.2.2 c)⟩
 ·have:=o.bB;rw[F];exact⟨this.1,this.2.1,oM⟩
 ·rw[F,List.flatten_append];have az:=ah Y T dC;simpa using az
 ·intro x s;rcases List.mem_append.1 s with s|s
  ·exact(((h.jq x s).weaken ae).frame ab X).weaken af
  ·rw[List.mem_singleton.1 s];exact⟨l,mod,m,n,I,0,[],Q,ro.bJ (World.ownsRow_nil _ 0 0 9) (λa c=>by simp[Value.ownBlock] at c),λu r=>by simp at r,zL _⟩
theorem MS.yL (h:MS w mb M trs [] [] Xd Xi Xf Mu H) {md:Md} (Y:w.ownsRow 0 117 4 (J md.ao (O md.ns) md.cp) (O md.ns) (md.ns.map Nm.c).flatten) (Z:∀b,(Value.slice md.ao (O md.ns) md.cp).ownBlock=some b->Mu b) (aa:md.own<=O md.ns/\O md.ns<=30000) (ab:∀n∈md.ns,NQ (O M.ds) (O trs) n) (s:O M.ms<=19999) (B:TypeId) (ac:ad=E (U w)):
 ∃v w',(Builtin.append_ #[23,23] B #[J M.mo (O M.ms) M.mc,J (aS ad) 1 1]).run Tryz.prog (w.alloc (Ob #[.string md.name,J md.ao (O md.ns) md.cp,vN md.own] 115))=.ok v w'/\∃c d Mu',v=J c (O M.ms+1) d/\cF w' mb M/\KT (λk=>k≠115) w w'/\KX Mu (E (U w)) w w'/\KX Mu (E (U w)) w (w'.setCell ⟨mb,0,I⟩ (J c (O M.ms+1) d))/\(∀b,Mu b->Mu' b)/\(∀b,b<E (U w)->Mu' b->Mu b)/\KT (λk=>k≠115/\k≠88) w (w'.setCell ⟨mb,0,I⟩ (J c (O M.ms+1) d))/\MS (w'.setCell ⟨mb,0,I⟩ (J c (O M.ms+1) d)) mb {M with mo:=c,mc:=d,ms:=M.ms++[md]} trs [] [] Xd Xi Xf Mu' H/\(∀b,b<E (U w)->(Value.slice M.mo (O M.ms) M.mc).ownBlock≠some b->w'.heap[b]? =w.heap[b]?):=by
 have l:=h.pi;have ax:=h.mk'.lt;obtain⟨v,w',ae,j⟩:=fg (W:=w) Tryz.underlying23 yj Q dC l.cK.row (zL _) #[.string md.name,J md.ao (O md.ns) md.cp,vN md.own] rfl (by intro ay o;simp at o;repeat(first|(subst o;rfl)|(rcases o with o|o;(subst o;rfl)))) (by unfold maxLen;omega) oM B ac;obtain⟨c,d,rfl⟩:=j.shape;have y:=App.kt l.cK.row j;have z:=au y h.mk' dC;have C:=KT.set z 0 (J c (O M.ms+1) d);have m:KT (λk=>k≠115/\k≠88) w (w'.setCell ⟨mb,0,I⟩ (J c (O M.ms+1) d)):=(y.mono (λk A=>A.1)).trans (C.mono (λk A=>A.2));have F:E (U w)<=E (U w'):=lT sQ j.grown.size;have G:E (U w)<=E (U (w'.setCell ⟨mb,0,I⟩ (J c (O M.ms+1) d))):=sU F;have K:=j.row;have L:KX Mu (E (U w)) w w':=⟨j.grown.os,j.grown.tape,j.grown.output,F,λb a s=>(j.grown.block b (by simp;omega) (λe=>s (h.lF b (id e.symm)))).trans (Below.heap_alloc _ _ _ a)⟩;have N:KX Mu (E (U w)) w (w'.setCell ⟨mb,0,I⟩ (J c (O M.ms+1) d)):=L.setCell (p:=⟨mb,0,I⟩) (.inr h.dT) _;have P:al (λb=>¬Mu b/\b<E (U w)) w (w'.setCell ⟨mb,0,I⟩ (J c (O M.ms+1) d)):=λb a t=>N.block b t a.1
 have R:∀b,(Value.slice c (O M.ms+1) d).ownBlock=some b->b<E (U w)->Mu b:=λb a t=>by
  rcases j.own with e|e
  ·exact h.lF b (id (by rw[<-e];exact a))
  ·rw[e] at a;simp at a;omega
 have T:∀b,¬Mu b->b<E (U w)->(¬Mu b/\b<E (U w)):=λb f af=>⟨f,af⟩
 have V:∀b,(¬Mu b/\b<E (U w))->b<E (U (w'.setCell ⟨mb,0,I⟩ (J c (O M.ms+1) d)))->¬(Mu b\/(Value.slice c (O M.ms+1) d).ownBlock=some b):=λb a _ i=>by
  rcases i with i|i
  ·exact a.1 i
  ·exact a.1 (R b i a.2)
 have ag:∀b,(Mu b\/(Value.slice c (O M.ms+1) d).ownBlock=some b)->b<E (U (w'.setCell ⟨mb,0,I⟩ (J c (O M.ms+1) d))):=λb a=>by
  rcases a with a|a
  ·have:=h.mlt b a;omega
  ·have:=(K.lt b a).2;simpa using this
 obtain⟨ai,aj,ak,ao⟩:=h.jF;have u:O (M.ms++[md])=O M.ms+1:=sQ;refine⟨_,w',ae,c,d,λb=>Mu b\/(Value.slice c (O M.ms+1) d).ownBlock=some b,Q,z,y,L,N,λb a=>.inl a,λb t a=>by rcases a with a|a;exact a;exact R b a t,m,⟨⟨?_,⟨?_,?_,?_⟩,?_,ah l.cu m dC,l.bB,l.lg⟩,ah h.tr m dC,ah h.im m dC,ah h.fn m dC,.inl h.dT,ag,?_,?_,λb e=>.inl (h.jt b e),λb e=>.inl (h.jX b e),λb e=>.inl (h.lL b e),λb e=>.inl (h.lY b e),⟨ai,aj,ak,λap aq n ar r=>(((ao ap aq n ar r).weaken T).frame P G).weaken V⟩,λx av=>(((h.jq x av).weaken T).frame P G).weaken V,Sm.nil.mono (zL _),Sm.nil.mono (zL _)⟩,λb a s=>(j.grown.block b (by simp;omega) (λe=>s e.symm)).trans (Below.heap_alloc _ _ _ a)⟩
 ·have:=heap_setCell_same w' mb 0 _ 88 (J c (O M.ms+1) d) z;unfold cF at*;rw[this];simp[u]
 ·show(w'.setCell _ _).ownsRow 0 115 3 (J c (O (M.ms++[md])) d) (O (M.ms++[md])) ((M.ms++[md]).map Md.c).flatten;rw[u,List.map_append,List.flatten_append];have aw:=ah K C dC;simpa[Md.c] using aw
 ·show(M.ms++[md]).length<=20000;rw[u];omega
 ·intro q i;rcases List.mem_append.1 i with f|f
  ·exact⟨ah (l.cK.names q f).1 m dC,(l.cK.names q f).2⟩
  ·rw[List.mem_singleton.1 f];exact⟨ah Y m dC,aa⟩
 ·intro q i n r;rcases List.mem_append.1 i with f|f
  ·exact l.q q f n r
  ·rw[List.mem_singleton.1 f] at r;exact ab n r
 ·intro b a;have X:(Value.slice c (O (M.ms++[md])) d).ownBlock=some b:=a;rw[u] at X;exact .inr X
 ·intro q i b a;rcases List.mem_append.1 i with f|f
  ·exact .inl (h.jN q f b a)
  ·rw[List.mem_singleton.1 f] at a;exact .inl (Z b a)
end
end
section
variable{X2:Nat}
section
variable{w w0 wr w':World} {mb cb kb:Nat} {M:MK} {trs ims fns trs0 ims0 fns0:VV} {Xd Xi Xf Xd0 Xi0 Xf0:Nat} {Mu0 Mu Mu2:Nat->Prop} {H H0 H2:Nat} {K:CK} {co:OA} {cc:Nat} {cs:List Cs} {X:Nat} {nm:ByteArray} {po:OA} {pc:Nat} {ps:List Pt} {Xp:Nat} {k a next fk fa k' a' next' fk' fa':Int}
theorem DP.done (q:DP w mb cb kb M trs ims fns Xd Xi Xf Mu0 Mu H K co cc cs X nm po pc ps Xp wr k a next fk fa) (S:MS w0 mb M trs0 ims0 fns0 Xd0 Xi0 Xf0 Mu0 H0) (T:∀b,Mu0 b->b<E (U w)) (V:O ps<=30000) (G:O cs<=20000) (L:TypeId) {ad:Nat} (Y:ad=E (U wr)):
 ∃u w',(Builtin.append_ #[62,62] L #[J co (O cs) cc,J (aS ad) 1 1]).run Tryz.prog (wr.alloc (Ob #[.string nm,J po (O ps) pc] 67))=.ok u w'/\∃i j Mu2,u=J i (O (cs++[(⟨nm,po,pc,ps⟩:Cs)])) j/\DC w mb cb M trs ims fns Xd Xi Xf Mu0 Mu2 H K i j (cs++[(⟨nm,po,pc,ps⟩:Cs)]) (X+Xp) w' k a next fk fa:=by
 have N:=q.c.kx.size;obtain⟨u,w',Z,d⟩:=fg (W:=wr) Tryz.underlying62 ym Q dC q.c.row N #[.string nm,J po (O ps) pc] rfl (by intro ak n;simp at n;rcases n with n|n<;>(subst n;rfl)) (by unfold maxLen;omega) oM L Y;obtain⟨i,j,rfl⟩:=d.shape;have o:=App.kt q.c.row d;have m:E (U wr)<=E (U w'):=lT sQ d.grown.size;have t:KX Mu (E (U wr)) wr w':=⟨d.grown.os,d.grown.tape,d.grown.output,m,λb c G=>(d.grown.block b (by simp;omega) (λe=>G (q.c.own b e.symm))).trans (Below.heap_alloc _ _ _ c)⟩
 have aa:∀b,(Value.slice i (O cs+1) j).ownBlock=some b->b<E (U wr)->Mu b:=λb c f=>by
  rcases d.own with e|e
  ·exact q.c.own b (by rw[<-e];exact c)
  ·rw[e] at c;simp at c;omega
 have v:∀b,b<E (U wr)->(Mu b\/(Value.slice i (O cs+1) j).ownBlock=some b)->Mu b:=λb f c=>by rcases c with c|c;exact c;exact aa b c f
 have ab:MS w' mb (M.bt k a) trs ims fns Xd Xi Xf (λb=>Mu b\/(Value.slice i (O cs+1) j).ownBlock=some b) H:=q.c.s.move (k:=k) (a:=a) t o dC (au o q.c.s.mk' dC) (λb c=>.inl c) (λb c=>by
  rcases c with c|c
  ·have:=q.c.s.mlt b c;omega
  ·exact(d.row.lt b c).2) v
 have P:∀b,Mu0 b->(Value.slice po (O ps) pc).ownBlock≠some b:=λb c e=>by
  have x:=(q.jV.lt b e).1;have y:=T b c;omega
 have ac:MS w' mb (M.bt k a) trs ims fns Xd Xi Xf (λb=>(Mu b\/(Value.slice i (O cs+1) j).ownBlock=some b)/\(Value.slice po (O ps) pc).ownBlock≠some b) H:=ab.shrink S (λb c=>⟨.inl (q.c.m1 b c),P b c⟩) (λb c=>c.1);have z:al (λb=>¬Mu b/\b<E (U wr)) wr w':=λb c f=>t.block b f c.1;have R:al (λb=>¬Mu b) wr w':=λb c f=>t.block b f c;have A:∀b,¬Mu b->b<E (U wr)->(¬Mu b/\b<E (U wr)):=λb x y=>⟨x,y⟩;have B:∀b,(¬Mu b/\b<E (U wr))->b<E (U w')->¬((Mu b\/(Value.slice i (O cs+1) j).ownBlock=some b)/\(Value.slice po (O ps) pc).ownBlock≠some b):=λb c _ C=>c.1 (v b c.2 C.1);have D:O (cs++[(⟨nm,po,pc,ps⟩:Cs)])=O cs+1:=sQ;refine⟨_,w',Z,i,j,_,by rw[D],⟨ac,au o q.c.cv dC,⟨.inl q.c.ni,cW q.jV q.c.cv dC⟩,?_,λb c=>?_,λp l=>?_,λr=>?_,?_,q.c.m0,λb c=>⟨.inl (q.c.m1 b c),P b c⟩,λb f c=>q.c.m2 b f (v b oM c.1),q.c.hf⟩⟩
 ·rw[D,List.map_append,List.flatten_append];have ae:=d.row;simpa[Cs.c] using ae
 ·rw[D] at c;refine⟨.inr c,λe=>?_⟩;obtain⟨ao,af⟩:=aX (ah q.jV o dC) e;exact cW d.row af dC c
 ·rcases List.mem_append.1 l with l|l
  ·obtain⟨ag,ai,aj⟩:=q.c.ct p l;exact⟨((ag.weaken A).frame z m).weaken B,ai,λs F=>((((aj s F).weaken A).frame z m).1).weaken B⟩
  ·obtain rfl:=List.mem_singleton.1 l;exact⟨ro.bJ (ah q.jV o dC) (λb e C=>C.2 e),V,λs F=>((((q.pt s F).weaken A).frame z m).1).weaken B⟩
 ·rw[List.map_append,List.sum_append,List.map_congr_left (g:=λp=>(p.ps.map (λs=>aU r wr s.ty)).sum) (λp l=>ie (q.c.ct p l).2.2 R m r)];have x:=q.c.sz r;have y:=q.yQ r;have ap:=ie q.pt R m r;simp only[List.map_cons,List.map_nil,List.sum_cons,List.sum_nil];omega
 ·exact q.c.kx.trans (t.mono (λb f c=>q.c.m2 b f c) N)
theorem DC.fin (q:DC w mb cb M trs ims fns Xd Xi Xf Mu0 Mu H K co cc cs X wr k a next fk fa) (f:MS w0 mb M trs0 ims0 fns0 Xd0 Xi0 Xf0 Mu0 H0) (i:∀b,Mu0 b->b<E (U w)) (j:O cs<=30000) (d:Dd):MS wr mb (M.bt k a) trs ims fns Xd Xi Xf Mu0 H/\eB (λb=>¬Mu0 b) (O M.ds) H X wr (d.put co cc cs):=by
 refine⟨q.s.shrink f (λ_ h=>h) q.m1,⟨ro.bJ q.row (λb l c=>?_),λm n=>?_,j,q.sz⟩⟩
 ·have u:=(q.row.lt b l).1;have v:=i b c;omega
 ·obtain⟨o,p,r⟩:=q.ct m n;exact⟨o.weaken (λb e _ c=>e (q.m1 b c)),p,λs t=>(r s t).weaken (λb e _ c=>e (q.m1 b c))⟩
theorem DC.more (q:DC w mb cb M trs ims fns Xd Xi Xf Mu0 Mu H K co cc cs X wr k a next fk fa) (h:X<=X2):DC w mb cb M trs ims fns Xd Xi Xf Mu0 Mu H K co cc cs X2 wr k a next fk fa:=
 ⟨q.s,q.cv,q.ni,q.row,q.own,q.ct,λb=>lT (q.sz b) h,q.kx,q.m0,q.m1,q.m2,q.hf⟩
theorem DP.more (q:DP w mb cb kb M trs ims fns Xd Xi Xf Mu0 Mu H K co cc cs X nm po pc ps Xp wr k a next fk fa) (h:Xp<=X2):DP w mb cb kb M trs ims fns Xd Xi Xf Mu0 Mu H K co cc cs X nm po pc ps X2 wr k a next fk fa:=
 ⟨q.c,q.ik,q.rC,q.yT,q.rD,q.jV,q.ve,q.pt,λb=>lT (q.yQ b) h⟩
def uE (w:World) (mb:Nat) (M:MK) (trs ims fns:VV) (Xd Xi Xf:Nat) (Mu:Nat->Prop) (H F:Nat) (e:Ending) (w':World):Prop:=
 ∃(k a:Int) (ds:List Dd) (H' Xd':Nat),e=.returned (.tuple #[])/\O ds=O M.ds/\MS w' mb ({M with ds:=ds}.bt k a) trs ims fns Xd' Xi Xf Mu H'/\KX Mu (E (U w)) w w'/\H<=H'/\(M.fk≠0->k=M.fk)/\Xd'<=Xd+F
end
end
section
section
variable{w w':World} {mb:Nat} {M:MK} {trs ims fns:VV} {Xd Xi Xf:Nat} {Mu Mu':Nat->Prop} {H H':Nat}
theorem MS.yM (h:MS w mb M trs ims fns Xd Xi Xf Mu H) {fo:OA} {fc:Nat} (s:M.iv=J fo (O ims) fc) {cs:Array Value} {Y:Nat} (j:iI (λb=>¬Mu b) (O M.ds) H Y w cs.toList) (R:cs.size=10) (one:∀u∈cs.toList,u.oneCell'=true) (t:O ims<=200000) (D:TypeId) {ad:Nat} (S:ad=E (U w)):
 ∃x w',(Builtin.append_ #[26,26] D #[J fo (O ims) fc,J (aS ad) 1 1]).run Tryz.prog (w.alloc (Ob cs 71))=.ok x w'/\∃d e Mu',x=J d (O ims+1) e/\cF w' mb M/\KT (λi=>i≠71) w w'/\KX Mu (E (U w)) w w'/\KX Mu (E (U w)) w (w'.setCell ⟨mb,3,I⟩ (J d (O ims+1) e))/\(∀b,Mu b->Mu' b)/\(∀b,b<E (U w)->Mu' b->Mu b)/\KT (λi=>i≠71/\i≠88) w (w'.setCell ⟨mb,3,I⟩ (J d (O ims+1) e))/\MS (w'.setCell ⟨mb,3,I⟩ (J d (O ims+1) e)) mb {M with iv:=J d (O ims+1) e} trs (ims++[cs.toList]) fns Xd (Xi+Y) Xf Mu' H/\(∀b,b<E (U w)->M.iv.ownBlock≠some b->w'.heap[b]? =w.heap[b]?):=by
 have y:=h.im;rw[s] at y;have aq:=h.mk'.lt;obtain⟨x,w',T,f⟩:=fg (W:=w) Tryz.underlying26 yk Q dC y (zL _) cs R one (by unfold maxLen;omega) oM D S;obtain⟨d,e,rfl⟩:=f.shape;have z:=App.kt y f;have A:=au z h.mk' dC;have F:=KT.set A 3 (J d (O ims+1) e);have l:KT (λi=>i≠71/\i≠88) w (w'.setCell ⟨mb,3,I⟩ (J d (O ims+1) e)):=(z.mono (λi B=>B.1)).trans (F.mono (λi B=>B.2));have G:E (U w)<=E (U w'):=lT sQ f.grown.size;have m:E (U w)<=E (U (w'.setCell ⟨mb,3,I⟩ (J d (O ims+1) e))):=sU G;have K:=f.row;have L:KX Mu (E (U w)) w w':=⟨f.grown.os,f.grown.tape,f.grown.output,G,λb a t=>(f.grown.block b (by simp;omega) (λc=>t (h.lL b (by rw[s];exact c.symm)))).trans (Below.heap_alloc _ _ _ a)⟩;have N:KX Mu (E (U w)) w (w'.setCell ⟨mb,3,I⟩ (J d (O ims+1) e)):=L.setCell (p:=⟨mb,3,I⟩) (.inr h.dT) _;have n:al (λb=>¬Mu b/\b<E (U w)) w (w'.setCell ⟨mb,3,I⟩ (J d (O ims+1) e)):=λb a v=>N.block b v a.1
 have P:∀b,(Value.slice d (O ims+1) e).ownBlock=some b->b<E (U w)->Mu b:=λb a v=>by
  rcases f.own with c|c
  ·exact h.lL b (by rw[s,<-c];exact a)
  ·rw[c] at a;simp at a;omega
 have o:∀b,¬Mu b->b<E (U w)->(¬Mu b/\b<E (U w)):=λb V X=>⟨V,X⟩
 have q:∀b,(¬Mu b/\b<E (U w))->b<E (U (w'.setCell ⟨mb,3,I⟩ (J d (O ims+1) e)))->¬(Mu b\/(Value.slice d (O ims+1) e).ownBlock=some b):=λb a _ k=>by
  rcases k with k|k
  ·exact a.1 k
  ·exact a.1 (P b k a.2)
 obtain⟨Z,aa,ab,ac⟩:=h.jF;have r:=h.pi;refine⟨_,w',T,d,e,λb=>Mu b\/(Value.slice d (O ims+1) e).ownBlock=some b,Q,A,z,L,N,λb a=>.inl a,λb v a=>by rcases a with a|a;exact a;exact P b a v,l,⟨⟨?_,r.cK.kt l dC dC,r.q,ah r.cu l dC,r.bB,r.lg⟩,ah h.tr l dC,?_,ah h.fn l dC,.inl h.dT,?_,λb c=>.inl (h.lF b c),λae k b c=>.inl (h.jN ae k b c),λb c=>.inl (h.jt b c),λb c=>.inl (h.jX b c),λb c=>.inr c,λb c=>.inl (h.lY b c),⟨Z,aa,ab,λaf ag ai aj ak=>(((ac af ag ai aj ak).weaken o).frame n m).weaken q⟩,λC j=>(((h.jq C j).weaken o).frame n m).weaken q,?_,h.lp.imp (λY C j=>((j.weaken o).frame n m).weaken q)⟩,λb a t=>(f.grown.block b (by simp;omega) (λc=>t (by rw[s];exact c.symm))).trans (Below.heap_alloc _ _ _ a)⟩
 ·have:=heap_setCell_same w' mb 3 _ 88 (J d (O ims+1) e) A;simpa using this
 ·have ao:O (ims++[cs.toList])=O ims+1:=sQ;have ap:(ims++[cs.toList]).flatten=ims.flatten++cs.toList:=sQ;rw[ao,ap];exact ah K F dC
 ·intro b a;rcases a with a|a
  ·have:=h.mlt b a;omega
  ·have:=(K.lt b a).2;simpa using this
 ·exact(h.lO.imp (λY C j=>((j.weaken o).frame n m).weaken q)).snoc (((j.weaken o).frame n m).weaken q)
theorem MS.write (h:MS w mb M trs ims fns Xd Xi Xf Mu H) {b:Nat} {c0:Array Value} {t0:TypeId} (e:w.heap[b]? =some (Ob c0 t0 (0,0))) (r:Mu b) (c:t0≠93/\t0≠58/\t0≠115/\t0≠117/\t0≠64/\t0≠88) (s:M.iv.ownBlock≠some b) (o:Nat) (u:Value):MS (w.setCell ⟨b,o,I⟩ u) mb M trs ims fns Xd Xi Xf Mu H:=by
 have f:KT (λt=>t≠t0) w (w.setCell ⟨b,o,I⟩ u):=KT.set e _ _;have n:KX Mu (E (U w)) w (w.setCell ⟨b,o,I⟩ u):=(KX.refl _ _ _).setCell (p:=⟨b,o,I⟩) (.inr r) _;have l:al (λd=>¬Mu d) w (w.setCell ⟨b,o,I⟩ u):=λd e q=>n.block d q e;have i:=n.size;obtain⟨v,x,y,z⟩:=h.jF;have j:=h.pi;exact⟨⟨au f h.mk' (λa=>c.2.2.2.2.2 a.symm),j.cK.kt f (λa=>c.2.2.1 a.symm) (λa=>c.2.2.2.1 a.symm),j.q,ah j.cu f (λa=>c.2.2.2.2.1 a.symm),j.bB,j.lg⟩,ah h.tr f (λa=>c.1 a.symm),ag h.im (λd A q=>Below.heap_setCell _ ⟨b,o,I⟩ _ _ (λa=>s (by rw[A,a]))),ah h.fn f (λa=>c.2.1 a.symm),h.dT,λd e=>Nat.lt_of_lt_of_le (h.mlt d e) i,h.lF,h.jN,h.jt,h.jX,h.lL,h.lY,⟨v,x,y,λB C D F G=>(z B C D F G).frame l i⟩,λm k=>(h.jq m k).frame l i,h.lO.imp (λK m k=>k.frame l i),h.lp.imp (λK m k=>k.frame l i)⟩
end
end
section
variable{e:Ending} {l:List Nat} {xs:List Value} {M:MK} {B0 H Xd Xf Xi Y cb i mb n x:Nat} {Mu:Nat->Prop} {ko:OA} {fns ims ks trs:VV} {w w':World}
theorem bM (l:List Nat) (i:Nat):(l.take i).sum<=l.sum:=by
 induction l generalizing i with
 |nil=>simp
 |cons x c b=>
  cases i with
  |zero=>simp
  |succ i=>
   rw[List.take_succ_cons,List.sum_cons,List.sum_cons];have:=b i;omega
theorem aT (h:l[i]? =some x):(l.take (i+1)).sum=(l.take i).sum+x:=by
 rw[List.take_add_one,h,List.sum_append];simp
theorem oa (h:l[i]? =some x):x<=(l.take (i+1)).sum:=by
 rw[aT h];omega
theorem qp (Y e:Nat):4*(Y*(Y+e))<=(Y+(Y+e))*(Y+(Y+e)):=by
 have b:(Y+(Y+e))*(Y+(Y+e))=4*(Y*Y)+4*(Y*e)+e*e:=by
  simp only[Nat.mul_add,Nat.add_mul,Nat.mul_comm e Y];omega
 rw[b,Nat.mul_add];omega
theorem rB {b:Nat} (h:Y+b<=96100):6100*(Y*b)<=17592186044416:=by
 have d:4*(Y*b)<=96100*96100:=by
  rcases Nat.le_total Y b with c|c
  ·obtain⟨e,rfl⟩:∃e,b=Y+e:=⟨b - Y,oM⟩;exact lT (qp Y e) (Nat.mul_le_mul h h)
  ·obtain⟨e,rfl⟩:∃e,Y=b+e:=⟨Y - b,oM⟩;rw[Nat.mul_comm (b+e) b];exact lT (qp b e) (Nat.mul_le_mul oM oM)
 omega
theorem FK.zf {h:Nat} {kc:Nat} {j:VV} (f:FK B0 h w ko kc ks j Y):∀x∈j,isNode (λu=>u<B0) True (h+1) w x:=by
 intro x v;obtain⟨b,o,y⟩:=List.getElem_of_mem v;have z :j[b]? =some x:=by rw[gG o,y]
 obtain⟨g,aa,ab,ac,ad,af,ag,ah,ai,aj,ak,al,ao,ap,aq,e,ar,-,p,A,-⟩:=f.par b o;have au:=f.len;obtain⟨m,q⟩:∃m,ks[b+1]? =some m:=⟨_,gG oM⟩;have r:=f.node m (mG q);obtain⟨B,C,d,-,D⟩:=f.row.nth q;have F:=r;obtain⟨G,L,N,P,R,S,T,V,rfl,-⟩:=isNode.cells r;rw[e] at d;obtain⟨rfl,rfl⟩:g=B/\C=0:=by simp at d;exact⟨d.1,d.2.symm⟩
 have W:x=(ae G L N P R (J S T V)).toList:=by
  rw[z] at p;have X:=Option.some.inj p;rw[X];refine List.ext_getElem? (λc=>?_);by_cases s:c<11
  ·have Z:=A c s;have t:=D c s;rw[show 0+(b+1)*11+c=11+b*11+c by omega] at t;exact Z.symm.trans t
  ·rw[List.getElem?_eq_none (by simp;omega),List.getElem?_eq_none (by simp;omega)]
 rw[W];exact F
theorem jH.kx (h:jH w mb cb M trs ims fns Xd Xi Xf Mu H Y e w'):KX Mu (E (U w)) w w':=by
 obtain⟨_,_,_,_,_,_,_,_,_,_,b,_⟩:=h;exact b
theorem vr (h:n∈l):n<=l.sum:=by
 induction l with
 |nil=>simp at h
 |cons x c b=>
  rw[List.sum_cons];rcases List.mem_cons.1 h with rfl|h
  ·omega
  ·have:=b h;omega
structure IE (w2:World) (mb cb:Nat) (M:MK) (trs ims fns:VV) (Xd Xi Xf:Nat) (Mu:Nat->Prop) (H:Nat) (wr:World) (k a:Int) (K:CK) (how next one fk fa:Int):Prop where
 s:MS wr mb (M.bt k a) trs ims fns Xd Xi Xf Mu H
 kx:KX Mu (E (U w2)) w2 wr
 cv:bP wr cb K how next one fk fa
 ni:Mu cb
 hf:M.fk≠0->k=M.fk
section
variable{w2 wr w':World} {mb cb:Nat} {M:MK} {trs ims fns:VV} {Xd Xi Xf:Nat} {Mu:Nat->Prop} {H:Nat} {k a k' a':Int} {K K':CK} {how next one fk fa how' next' one' fk' fa':Int}
theorem IE.below (q:IE w2 mb cb M trs ims fns Xd Xi Xf Mu H wr k a K how next one fk fa) (b:Below (E (U wr)) wr w'):IE w2 mb cb M trs ims fns Xd Xi Xf Mu H w' k a K how next one fk fa:=
 ⟨q.s.below b,q.kx.trans ((KX.aq b).mono (λ_ _ h=>h) q.kx.size),(b.block _ (gE q.cv).1).trans q.cv,q.ni,q.hf⟩
theorem IE.no (q:IE w2 mb cb M trs ims fns Xd Xi Xf Mu H wr k a K how next one fk fa) (b:Kp (E (U wr)) mb wr w') (c:cF w' mb ((M.bt k a).bt k' a')) (d:(M.bt k a).fk≠0->k'=(M.bt k a).fk):IE w2 mb cb M trs ims fns Xd Xi Xf Mu H w' k' a' K how next one fk fa:=
 ⟨q.s.no c b,q.kx.trans ((KX.cN b q.s.dT).mono (λ_ _ h=>h) q.kx.size),(b.block _ (gE q.cv).1 (aI q.cv q.s.mk' dC)).trans q.cv,q.ni,λh=>by have e:=q.hf h;have:=d (by show k≠0;rw[e];exact h);rw[this];exact e⟩
theorem IE.oe (q:IE w2 mb cb M trs ims fns Xd Xi Xf Mu H wr k a K how next one fk fa) (c:KX (λb=>b=cb\/b=mb) (E (U wr)) wr w') (f:bP w' cb K' how' next' one' fk' fa') (j:cF w' mb ((M.bt k a).bt k' a')) (m:(M.bt k a).fk≠0->k'=(M.bt k a).fk):IE w2 mb cb M trs ims fns Xd Xi Xf Mu H w' k' a' K' how' next' one' fk' fa':=by
 have d:KX Mu (E (U wr)) wr w':=c.mono (λb _ e=>by rcases e with rfl|rfl;exact q.ni;exact q.s.dT) (lR _);exact⟨q.s.step d (KT.kx q.cv q.s.mk' c) j,q.kx.trans (d.mono (λ_ _ h=>h) q.kx.size),f,q.ni,λh=>by have e:=q.hf h;have:=m (by show k≠0;rw[e];exact h);rw[this];exact e⟩
theorem IE.kp (q:IE w2 mb cb M trs ims fns Xd Xi Xf Mu H wr k a K how next one fk fa) (b:Kp (E (U wr)) cb wr w') (c:bP w' cb K' how' next' one' fk' fa'):IE w2 mb cb M trs ims fns Xd Xi Xf Mu H w' k a K' how' next' one' fk' fa':=
 ⟨q.s.step (KX.cN b q.ni) ((KT.kp q.cv b).mono (λf d=>d.1)) ((b.block _ q.s.mk'.lt (aI q.s.mk' q.cv dC)).trans q.s.mk'),q.kx.trans ((KX.cN b q.ni).mono (λ_ _ h=>h) q.kx.size),c,q.ni,q.hf⟩
end
theorem gy {base e size:Nat} {v:Value} (h:w.ownsRow base e size v n xs):w.ownsRow 0 e size v n xs:=⟨h.1,h.2.imp id (λ⟨g,b,c,d,_,f⟩=>⟨g,b,c,d,zL _,f⟩)⟩
theorem GK.frame (q:GK B0 w ko ks) (o:al (λb=>b<B0) w w') (ad:B0<=E (U w)):GK B0 w' ko ks:=by
 have cl:∀{g c:Nat},g<B0->w'.cell? ⟨g,c,I⟩=w.cell? ⟨g,c,I⟩:=λ{g c} d=>World.cell?_of_block (w:=w) (a:=⟨g,c,I⟩) (o g d oM);refine⟨q.len,λp r=>?_⟩;obtain⟨g,s,t,u,v,y,z,A,B,e,d,C,D,F,G⟩:=q.eH p r;refine⟨g,s,t,u,v,y,z,A,B,e,d,C,D,λf j=>(cl d).trans (F f j),λf j=>?_⟩;obtain⟨L,N,P,R,S,T,V,W,X,Z,m,aa,ab⟩:=G f j;exact⟨L,N,P,R,S,T,V,W,X,Z,m,aa,λi ac=>(cl m).trans (ab i ac)⟩
structure IL (wl:World) (mb cb ib:Nat) (M:MK) (trs ims fns:VV) (Xd Xi Xf:Nat) (Mu0:Nat->Prop) (H0:Nat) (cv:Array Value) (im:Value->Array Value) (i Y:Nat) (Mu:Nat->Prop) (H:Nat) (fo:OA) (fc:Nat) (fns':VV) (Xf':Nat) (io:OA) (ic:Nat) (xs:List Value) (wr:World) (k a:Int):Prop where
 s:MS wr mb ({M with fv:=J fo (O fns') fc}.bt k a) trs ims fns' Xd Xi Xf' Mu H
 kx:KX Mu0 (E (U wl)) wl wr
 yW:wr.heap[cb]? =some (Ob cv 126 (0,0))
 wX:wr.heap[ib]? =some (Ob (im (J io (O xs) ic)) 71 (0,0))
 row:wr.ownsRow (E (U wl)) 3 1 (J io (O xs) ic) (O xs) xs
 own:∀b,(Value.slice io (O xs) ic).ownBlock=some b->Mu b
 xZ:Mu0 ib
 ni:Mu0 cb
 m0:Mu0 mb
 m1:∀b,Mu0 b->Mu b
 m2:∀b,b<E (U wl)->Mu b->Mu0 b
 hf:M.fk≠0->k=M.fk
 fl:O fns'<=O fns+i
 fe:k=0->O fns'=O fns+i
 xf:Xf'<=Xf+Y
 hH:H0<=H
section
variable{wl wr w':World} {mb cb ib:Nat} {M:MK} {trs ims fns:VV} {Xd Xi Xf:Nat} {Mu0:Nat->Prop} {H0:Nat} {cv:Array Value} {im:Value->Array Value} {i Y:Nat} {Mu:Nat->Prop} {H:Nat} {fo:OA} {fc:Nat} {fns':VV} {Xf':Nat} {io:OA} {ic:Nat} {xs:List Value} {k a:Int}
theorem IL.below (q:IL wl mb cb ib M trs ims fns Xd Xi Xf Mu0 H0 cv im i Y Mu H fo fc fns' Xf' io ic xs wr k a) (c:Below (E (U wr)) wr w'):IL wl mb cb ib M trs ims fns Xd Xi Xf Mu0 H0 cv im i Y Mu H fo fc fns' Xf' io ic xs w' k a:=by
 have f:∀{b:Nat} {d:Obj},wr.heap[b]? =some d->w'.heap[b]? =some d:=λ{b d} h=>(c.block b (gE h).1).trans h;exact⟨q.s.below c,q.kx.trans ((KX.aq c).mono (λ_ _ h=>h) q.kx.size),f q.yW,f q.wX,ag q.row (λb _ h=>c.block b h),q.own,q.xZ,q.ni,q.m0,q.m1,q.m2,q.hf,q.fl,q.fe,q.xf,q.hH⟩
theorem IL.same (q:IL wl mb cb ib M trs ims fns Xd Xi Xf Mu0 H0 cv im i Y Mu H fo fc fns' Xf' io ic xs wr k a):al (λb=>¬Mu b) wl wr:=λb c d=>q.kx.block b d (λh=>c (q.m1 b h))
theorem IL.wk (q:IL wl mb cb ib M trs ims fns Xd Xi Xf Mu0 H0 cv im i Y Mu H fo fc fns' Xf' io ic xs wr k a):∀b,¬Mu0 b->b<E (U wl)->¬Mu b:=λb c d f=>c (q.m2 b d f)
theorem IL.method (q:IL wl mb cb ib M trs ims fns Xd Xi Xf Mu0 H0 cv im i Y Mu H fo fc fns' Xf' io ic xs wr k a) {s:Nat} (y:jH wr mb cb ({M with fv:=J fo (O fns') fc}.bt k a) trs ims fns' Xd Xi Xf' Mu H s e w') (t:k=0):
 ∃(k' a':Int) (f:VV) (j:OA) (m:Nat) (o:Nat->Prop) (p r:Nat),e=.returned (.tuple #[])/\IL wl mb cb ib M trs ims fns Xd Xi Xf Mu0 H0 cv im (i+1) (Y+s) o r j m f p io ic xs w' k' a':=by
 obtain⟨k',a',f,j,m,o,p,r,z,A,B,C,u,D,F,P,R,d,G,v⟩:=y;have S:=q.fl;have L:=q.fe t;have T:=q.xf;have N:=q.kx.size;refine⟨k',a',f,j,m,o,p,r,z,⟨A,?_,C.trans q.yW,au v q.wX dC,ah q.row v dC,λb e=>u b (q.own b e),q.xZ,q.ni,q.m0,λb c=>u b (q.m1 b c),λb d c=>q.m2 b d (D b oM c),λh=>absurd (q.hf h) (by rw[t];exact λe=>h e.symm),oM,λe=>by rw[G e,L];omega,oM,lT q.hH F⟩⟩;exact q.kx.trans (B.mono (λb d c=>q.m2 b d c) N)
theorem IL.push (q:IL wl mb cb ib M trs ims fns Xd Xi Xf Mu0 H0 cv im i Y Mu H fo fc fns' Xf' io ic xs wr k a) (F:∀v u,(im v).setIfInBounds 9 u=im u) (X:ib<E (U wl)) (G:M.iv.ownBlock≠some ib) (x:Int) (y:O xs<=20000) (z:TypeId) {ad:Nat} (L:ad=E (U wr)):
 ∃s w',(Builtin.append_ #[22,22] z #[J io (O xs) ic,J (aS ad) 1 1]).run Tryz.prog (wr.alloc (Ob #[vN x] 3))=.ok s w'/\∃d f N,s=J d (O xs+1) f/\w'.heap[ib]? =some (Ob (im (J io (O xs) ic)) 71 (0,0))/\IL wl mb cb ib M trs ims fns Xd Xi Xf Mu0 H0 cv im i Y N H fo fc fns' Xf' d f (xs++[vN x]) (w'.setCell ⟨ib,9,I⟩ (J d (O xs+1) f)) k a:=by
 have A:=q.kx.size;obtain⟨s,w',P,j⟩:=fg (W:=wr) Tryz.underlying22 rF Q dC q.row A #[vN x] rfl (mE x) (by unfold maxLen;omega) oM z L;obtain⟨d,f,rfl⟩:=j.shape;have o:=App.kt q.row j;have R:E (U wr)<=E (U w'):=lT sQ j.grown.size;have B:KX Mu (E (U wr)) wr w':=⟨j.grown.os,j.grown.tape,j.grown.output,R,λb c y=>(j.grown.block b (by simp;omega) (λe=>y (q.own b e.symm))).trans (Below.heap_alloc _ _ _ c)⟩
 have S:∀b,(Value.slice d (O xs+1) f).ownBlock=some b->b<E (U wr)->Mu b:=λb c m=>by
  rcases j.own with e|e
  ·exact q.own b (by rw[<-e];exact c)
  ·rw[e] at c;simp at c;omega
 have t:O (xs++[Value.int .i64 x])=O xs+1:=sQ;have C:∀b,b<E (U wr)->(Mu b\/(Value.slice d (O xs+1) f).ownBlock=some b)->Mu b:=λb m c=>by rcases c with c|c;exact c;exact S b c m
 have r:=au o q.wX dC;have T:MS w' mb ({M with fv:=J fo (O fns') fc}.bt k a) trs ims fns' Xd Xi Xf' (λb=>Mu b\/(Value.slice d (O xs+1) f).ownBlock=some b) H:=q.s.move (k:=k) (a:=a) B o dC (au o q.s.mk' dC) (λb c=>.inl c) (λb c=>by rcases c with c|c;(have:=q.s.mlt b c;omega);exact(j.row.lt b c).2) C;have D:=KT.set r 9 (J d (O xs+1) f);refine⟨_,w',P,d,f,λb=>Mu b\/(Value.slice d (O xs+1) f).ownBlock=some b,Q,r,⟨?_,?_,au D (au o q.yW dC) dC,?_,?_,?_,q.xZ,q.ni,q.m0,λb c=>.inl (q.m1 b c),λb m c=>q.m2 b m (C b oM c),q.hf,q.fl,q.fe,q.xf,q.hH⟩⟩
 ·exact T.write r (.inl (q.m1 _ q.xZ)) dC G 9 _
 ·have V:KX Mu0 (E (U wl)) wl w':=q.kx.trans (B.mono (λb m c=>q.m2 b m c) A);exact V.setCell (p:=⟨ib,9,I⟩) (.inr q.xZ) _
 ·have:=heap_setCell_same w' ib 9 _ 71 (J d (O xs+1) f) r;rw[F] at this;rw[t];exact this
 ·rw[t];exact ah j.row D dC
 ·intro b c;rw[t] at c;exact .inr c
end
end
section
variable{bs xs:List Value} {b base e j n:Nat} {v:Value} {W:World}
theorem zv:(Tryz.prog.info? 4).map (λi=>(i.zero,i.size,i.bytes))=some (some (.bool false),1,1):=by kernel_rfl
theorem yq:(Tryz.prog.info? 131).map (λi=>(i.zero,i.size,i.bytes))=some (some (J I 0 0),1,24):=by kernel_rfl
theorem tJ {z:Value} (h:v∈(madeCells #[z] n).toList):v=z:=by
 unfold madeCells at h;simp at h;obtain⟨c,-,a⟩:=h;rw[<-a,Nat.mod_one];rfl
structure RG (w W:World) (g n:Nat) (xs:List Value) (i:Nat):Prop where
 below:Below (E (U w)) w W
 row:W.ownsRow (E (U w)) 131 1 (J (aS g) n n) n xs
 rows:∀j,j<i->∃b bs,xs[j]? =some (J (aS b) n n)/\W.ownsRow (E (U w)) 4 1 (J (aS b) n n) n bs/\∀v∈bs,∃t,v=Value.bool t
section
variable{w W W':World} {g n i:Nat} {xs:List Value}
theorem RG.le {i':Nat} (q:RG w W g n xs i) (h:i'<=i):RG w W g n xs i':=⟨q.below,q.row,λj a=>q.rows j oM⟩
theorem RG.grow (q:RG w W g n xs i) (a:Below (E (U W)) W W'):RG w W' g n xs i:=
 ⟨q.below.trans (a.mono q.below.size),ag q.row (λb _ c=>a.block b c),λj d=>by
  obtain⟨b,bs,f,k,l⟩:=q.rows j d;exact⟨b,bs,f,ag k (λb _ c=>a.block b c),l⟩⟩
theorem dE {c:Nat}:(Value.slice (aS b) n c).ownBlock=some b:=rfl
theorem RG.gl (q:RG w W g n xs i):E (U w)<=g/\g<E (U W):=q.row.lt g dE
theorem wC (w:World) (n:Nat) (q:n<=200000):∃c xs,(Instr.makeSlice 130 (vN (n:Int)) (vN (n:Int))).run Tryz.prog w=.ok (J (aS (E (U w))) n n) c/\RG w c (E (U w)) n xs 0:=by
 obtain⟨i,f,k,l,m⟩:=info_parts yq;obtain⟨c,o,p,a⟩:=run_make_full (P:=Tryz.prog) (w:=w) (E (U w)) 130 131 i (J I 0 0) 1 Tryz.underlying130 f k l .i64 .i64 n (by rw[m];omega) (by unfold maxLen;omega) (lR _);exact⟨c,_,o,⟨⟨a.os,a.tape,a.output,a.size,λj d=>a.block j d (λe=>by simp at e)⟩,p,λj d=>by omega⟩⟩
theorem zT (W:World) (base n:Nat) (t:n<=200000) (d:base<=E (U W)):∃a bs,(Instr.makeSlice 131 (vN (n:Int)) (vN (n:Int))).run Tryz.prog W=.ok (J (aS (E (U W))) n n) a/\a.ownsRow base 4 1 (J (aS (E (U W))) n n) n bs/\(∀v∈bs,∃f,v=Value.bool f)/\Below (E (U W)) W a:=by
 obtain⟨i,k,l,m,o⟩:=info_parts zv;obtain⟨a,p,q,c⟩:=run_make_full (P:=Tryz.prog) (w:=W) base 131 4 i (.bool false) 1 Tryz.underlying131 k l m .i64 .i64 n (by rw[o];omega) (by unfold maxLen;omega) d;refine⟨a,_,p,q,λv r=>⟨false,tJ (z:=.bool false) (n:=n*1) r⟩,⟨c.os,c.tape,c.output,c.size,λj s=>c.block j s (λe=>by simp at e)⟩⟩
theorem j1 (h:W.ownsRow base e 1 v n xs):O xs=n:=oH h.1
theorem RG.add (q:RG w W g n xs i) (y:i<n) (l:W.ownsRow (E (U w)) 4 1 (J (aS b) n n) n bs) (m:∀v∈bs,∃t,v=Value.bool t):RG w (W.setCell ⟨g,i,I⟩ (J (aS b) n n)) g n (xs.set i (J (aS b) n n)) (i+1):=by
 have z:=q.gl;obtain⟨A,o⟩:=aX q.row dE;have B:=j1 q.row
 have d:∀{a:Nat} {c:List Value},W.ownsRow (E (U w)) 4 1 (J (aS a) n n) n c->(W.setCell ⟨g,i,I⟩ (J (aS b) n n)).ownsRow (E (U w)) 4 1 (J (aS a) n n) n c:=λ{a c} h=>ag h (λC p _=>Below.heap_setCell _ ⟨g,i,I⟩ _ _ (by
  obtain⟨D,r⟩:=aX h p;exact aI r o dC))
 refine⟨⟨q.below.os,q.below.tape,q.below.output,lT q.below.size sQ,λj f=>(Below.heap_setCell _ ⟨g,i,I⟩ _ _ (by show j≠g;omega)).trans (q.below.block j f)⟩,dq q.row dE i _,λj f=>?_⟩;by_cases k:j=i
 ·subst k;exact⟨b,bs,List.getElem?_set_self oM,d l,m⟩
 ·obtain⟨a,c,s,u,x⟩:=q.rows j oM;exact⟨a,c,by rw[List.getElem?_set_ne (λe=>k e.symm)];exact s,d u,x⟩
theorem RG.put (q:RG w W g n xs i) (m:W.ownsRow (E (U w)) 4 1 (J (aS b) n n) n bs) (j:Nat) (t:Bool):RG w (W.setCell ⟨b,j,I⟩ (.bool t)) g n xs i:=by
 have z:=m.lt b dE;obtain⟨A,x⟩:=aX m dE;obtain⟨B,y⟩:=aX q.row dE
 refine⟨⟨q.below.os,q.below.tape,q.below.output,lT q.below.size sQ,λc f=>(Below.heap_setCell _ ⟨b,j,I⟩ _ _ (by show c≠b;omega)).trans (q.below.block c f)⟩,ag q.row (λk l _=>Below.heap_setCell _ ⟨b,j,I⟩ _ _ (by
  obtain rfl:g=k:=by simpa[Value.ownBlock] using l
  exact aI y x dC)),λc f=>?_⟩
 obtain⟨d,o,p,r,s⟩:=q.rows c f;by_cases u:d=b
 ·subst u;refine⟨d,o.set j (.bool t),p,dq r dE j _,λv a=>?_⟩;rcases List.mem_or_eq_of_mem_set a with a|a
  ·exact s v a
  ·exact⟨t,a⟩
 ·exact⟨d,o,p,ag r (λk l _=>Below.heap_setCell _ ⟨b,j,I⟩ _ _ (by
   obtain rfl:d=k:=by simpa[Value.ownBlock] using l
   exact u)),s⟩
theorem kG (h:W.ownsRow base e 1 (J (aS b) n n) n xs) {x:Value} (a:xs[j]? =some x):W.cell? ⟨b,j,I⟩=some x:=by
 have c:=j1 h;have d:=(gS a).1
 obtain⟨g,f,k,-,-,l⟩:=aL (vs:=xs.map (λv=>[v])) (by
  have:(xs.map (λv=>[v])).flatten=xs:=by
   clear h a c d;induction xs with
   |nil=>rfl
   |cons p q m=>simpa using m
  rw[this];exact h) (by simp[c]) (λr o=>by obtain⟨s,-,rfl⟩:=List.mem_map.1 o;rfl) (i:=j) (x:=[x]) (by rw[List.getElem?_map,a];rfl)
 obtain⟨rfl,-⟩:b=g/\n=f:=sU k;have:=l 0 dC;simpa using this
theorem sK (h:W.ownsRow base e 1 (J (aS b) n n) n xs) (j:Nat):W.frozen? ⟨b,j,I⟩=false:=by
 obtain⟨c,a⟩:=aX h dE;exact frozen_of_row W b j _ e a
theorem RG.get (q:RG w W g n xs i) {k:Nat} (f:j<i) (o:k<n):∃b bs c,W.cell? ⟨g,j,I⟩=some (J (aS b) n n)/\W.cell? ⟨b,k,I⟩=some (.bool c)/\W.frozen? ⟨b,k,I⟩=false/\b<E (U W)/\W.ownsRow (E (U w)) 4 1 (J (aS b) n n) n bs:=by
 obtain⟨b,bs,l,a,m⟩:=q.rows j f;have p:=j1 a;obtain⟨v,d⟩:∃v,bs[k]? =some v:=⟨_,gG oM⟩;obtain⟨c,rfl⟩:=m v (mG d);exact⟨b,bs,c,kG q.row l,kG a d,sK a k,(a.lt b dE).2,a⟩
end
end
theorem mP {n:Nat} {l:List Nat} (h:n∈l):n<=l.sum:=by
 induction l with
 |nil=>simp at h
 |cons b c a=>
  rw[List.sum_cons];rcases List.mem_cons.1 h with rfl|h
  ·omega
  ·have:=a h;omega
theorem uU {w:World} {au:Nat} {M:MK} {aV aW aY:VV} {ay aZ a0:Nat} {B:Nat->Prop} {H:Nat} (h:MS w au M aV aW aY ay aZ a0 B H) (cs:ay<=17592186044416):
 Calls Tryz.prog 30 #[.pointer (aS au)] w (uz w au M aV aW aY ay aZ a0 B H):=by
 have ct:=MF.refl h;have bP:=h.pi.bB.2.1;have dF:=h.pi.bB.1;have a1:Hid (MS w au M aV aW aY ay aZ a0 B H):=h
 have cu:Hid (∀(c:Nat) (d:Dd),M.ds[c]? =some d->∃aF,aF<=ay/\eB (λl=>¬B l) (O M.ds) H aF w d):=λc d C=>by
  obtain⟨bQ,cv,cw,cx⟩:=h.jF;have aG:c<O bQ:=by rw[cv];exact(gS C).1
  exact⟨bQ[c],lT (mP (List.getElem_mem aG)) cw,cx c d _ C (gG aG)⟩
 have a2:Hid (∀{bn:World},Below (E (U w)) w bn->al (λl=>¬B l) w bn):=λ{bn} cy l _ cz=>cy.block l cz;have cA:=h.mk'.cell;have cB:=h.mk'.lt;obtain⟨a3,bR⟩:∃a3,M.cV=a3:=⟨_,Q⟩;go_enter Tryz.func30,Tryz.ntmps30
 by_cases cC:M.fk=0
 ·obtain⟨dG,cD,bS,aH⟩:=wC w (O M.ds) bP;obtain⟨q,bT⟩:∃q,q=E (U w):=⟨_,Q⟩;rw[<-bT] at aH bS;clear bT;have bo:=(h.mk'.below aH.below).cell;have bp:=(h.mk'.below aH.below).lt;clear h;go_wp2_with (go_at_call 35;refine(bN a1.out.mk').mono ?_;rintro a4 av ⟨rfl,aw⟩;replace aw:=aw.symm;subst aw)
  clear bo bp cA cB bS;go_loopg [4,5,7,9,11,34] (O M.ds) (λu _ _ _ _ _ D wr=>∃(c:Nat) (n:List Value),u=O M.ds - c/\D=vN c/\c<=O M.ds/\RG w wr q (O M.ds) n c)
  case atStart=>exact⟨0,cD,Q,Q,zL _,aH⟩
  case round=>
   clear aH;obtain⟨c,n,m,rfl,dH,b⟩:=hrel;have cE:Hid (gk=O M.ds - c):=m;clear m;by_cases a5:c<O M.ds
   ·have cF:(c:Int)<(O M.ds:Int):=oM;obtain⟨d,C⟩:∃d,M.ds[c]? =some d:=⟨_,gG a5⟩;obtain⟨g,aK,bU,e⟩:=(a1.out.below b.below).pi.data (i:=c) (d:=d) C;obtain rfl:a3=some ⟨g,0,I⟩:=by rw[<-bR];exact aK
    obtain⟨aF,cG,bq⟩:=cu.out c d C;obtain⟨Y,Z,aa,ab,ac,ad,ae,ah,F,G,r,aj⟩:=d;have a6:Hid (aF<=17592186044416/\eB (λl=>¬B l) (O M.ds) H aF w ⟨Y,Z,aa,ab,ac,ad,ae,ah,F,G,r,aj⟩):=⟨lT cG cs,bq⟩;have dI:O r<=30000:=bq.len;have az:wr.cell? ⟨g,c*10,I⟩=some (.string Y):=e 0 dC;have ak:wr.cell? ⟨g,c*10+1,I⟩=some (vN Z):=e 1 dC;have a7:wr.cell? ⟨g,c*10+2,I⟩=some (vN aa):=e 2 dC;have a8:wr.cell? ⟨g,c*10+3,I⟩=some (.bool ab):=e 3 dC;have a9:wr.cell? ⟨g,c*10+4,I⟩=some (.bool ac):=e 4 dC;have a':wr.cell? ⟨g,c*10+5,I⟩=some (.bool ad):=e 5 dC;have bV:wr.cell? ⟨g,c*10+6,I⟩=some (vN ae):=e 6 dC;have a4:wr.cell? ⟨g,c*10+7,I⟩=some (vN ah):=e 7 dC;have bW:wr.cell? ⟨g,c*10+8,I⟩=some (J F (O r) G):=e 8 dC;have bX:wr.cell? ⟨g,c*10+9,I⟩=some (vN aj):=e 9 dC;obtain⟨K,aA⟩:=al1 wr (Ob #[.string Y,vN Z,vN aa,.bool ab,.bool ac,.bool ad,vN ae,vN ah,J F (O r) G,vN aj] 64);have v:=b.grow K;obtain⟨ba,cH,bZ,b0,b1,z⟩:=zT (wr.alloc (Ob #[.string Y,vN Z,vN aa,.bool ab,.bool ac,.bool ad,vN ae,vN ah,J F (O r) G,vN aj] 64)) (E (U w)) (O M.ds) bP v.below.size;have aL:=v.grow z;obtain⟨dJ,b2⟩:∃cI,n[c]? =some cI:=⟨_,gG (by rw[j1 b.row];exact a5)⟩;have cJ:=kG aL.row b2;have cK:=sK aL.row c;have cL:=aL.gl.2;have bb:=aL.add a5 b0 b1;have cM:q≠E (U wr):=oH b.gl;have aM:=(z.block _ (gE aA).1).trans aA;have cN:=λcO=>cell_of_row ba _ cO _ 64 (0,0) aM;have cP:E (U wr)<E (U ba):=(gE aM).1;obtain⟨br,b3⟩:∃br,br=E (U (wr.alloc (Ob #[.string Y,vN Z,vN aa,.bool ab,.bool ac,.bool ad,vN ae,vN ah,J F (O r) G,vN aj] 64))):=⟨_,Q⟩;rw[<-b3] at bZ bb;clear b3;clear bq e C aK K b b0 b1 z v b2 aL aA aM;go_wp2_with fail;generalize hq:World.setCell ba _ _=cQ;have b4:ba.setCell ⟨q,c,I⟩ (J (aS br) (O M.ds) (O M.ds))=cQ:=hq;rw[b4] at bb;clear hq b4 bZ cJ cK cL cN cP az ak a7 a8 a9 a' bV a4 bW bX bU cM;go_loopg [7,9,11,47] (O r) (λu _ _ _ D av=>∃(j:Nat) (n:List Value),u=O r - j/\D=vN j/\j<=O r/\RG w av q (O M.ds) n (c+1))
    case atStart=>exact⟨0,_,Q,Q,zL _,bb⟩
    case round=>
     clear bb;obtain⟨j,n,m,rfl,bc,b⟩:=hrel;have cR:Hid (gk=O r - j):=m;clear m;by_cases ao:j<O r
     ·have bs:(j:Int)<(O r:Int):=oM;obtain⟨ap,bt⟩:∃ap,r[j]? =some ap:=⟨_,gG ao⟩;obtain⟨bu,b5,aN,cS,e⟩:=(a6.out.2.row.frame (a2.out b.below) b.below.size).iH sQ (λx bv=>by obtain⟨aq,_,rfl⟩:=List.mem_map.1 bv;rfl) (i:=j) (x:=ap.c) (by rw[List.getElem?_map,bt];rfl);obtain⟨rfl,rfl⟩:F=some ⟨bu,0,I⟩/\G=b5:=sU aN;have bw:=mG bt;have bd:=a6.out.2.parts ap bw
      have b6:Hid (∀p∈ap.ps,∀f,aU f w p.ty<=17592186044416):=λp aO f=>by
       have cT:=a6.out.2.sz f;have cU:=mP (List.mem_map_of_mem (f:=λp:Pt=>aU f w p.ty) aO);have cV:=mP (List.mem_map_of_mem (f:=λap:Cs=>(ap.ps.map (λp=>aU f w p.ty)).sum) bw);have cW:=a6.out.1;exact lT cU (lT cV (lT cT cW))
      obtain⟨b7,bf,bg,s⟩:=ap;have bh:Hid (ro w (λl=>¬B l) 6 (J bf (O s) bg) (O s) (s.map Pt.c).flatten/\(∀p∈s,eo (λl=>¬B l) (O M.ds) H w p.c)/\∀p∈s,∀f,aU f w p.ty<=17592186044416):=⟨bd.1,bd.2.2,b6.out⟩;have dK:O s<=30000:=bd.2.1;have az:wr.cell? ⟨bu,j*2,I⟩=some (.string b7):=e 0 dC;have ak:wr.cell? ⟨bu,j*2+1,I⟩=some (J bf (O s) bg):=e 1 dC;obtain⟨z,-⟩:=al1 wr (Ob #[.string b7,J bf (O s) bg] 67);have v:=b.grow z;clear e aN bt bd z b bw b6;go_wp2_with fail;clear az ak cS;go_loopg [9,11,54] (O s) (λu _ _ D bx=>∃(i:Nat) (n:List Value),u=O s - i/\D=vN i/\i<=O s/\RG w bx q (O M.ds) n (c+1))
      case atStart=>exact⟨0,_,Q,Q,zL _,v⟩
      case round=>
       clear v;obtain⟨i,n,m,rfl,aG,b⟩:=hrel;have cX:Hid (gk=O s - i):=m;clear m;by_cases A:i<O s
       ·have aP:(i:Int)<(O s:Int):=oM;obtain⟨p,aO⟩:∃p,s[i]? =some p:=⟨_,gG A⟩;obtain⟨ax,cY,aN,cZ,e⟩:=(bh.out.1.frame (a2.out b.below) b.below.size).iH sQ (λx bv=>by obtain⟨aq,aQ,rfl⟩:=List.mem_map.1 bv;obtain⟨dL,dM,dN,c0,dO,dP,dQ,dR,dS,dT,bz,-⟩:=bh.out.2.1 aq aQ;rw[bz];rfl) (i:=i) (x:=p.c) (by rw[List.getElem?_map,aO];rfl);obtain⟨rfl,rfl⟩:bf=some ⟨ax,0,I⟩/\bg=cY:=sU aN;have bA:=mG aO;obtain⟨aB,aD,L,N,P,R,T,y,V,W,bB,bC⟩:=bh.out.2.1 p bA;have bi:=bh.out.2.2 p bA H
        have b8:p.ty=(ai L N (J P R T) (J y V W)).toList:=by
         have ak:p.c.drop 2=p.ty:=rfl;rw[<-ak,bB];rfl
        rw[b8] at bi;rw[bB] at e;have az:wr.cell? ⟨ax,i*6,I⟩=some (.string aB):=e 0 dC;have ak:wr.cell? ⟨ax,i*6+1,I⟩=some (.bool aD):=e 1 dC;have a7:wr.cell? ⟨ax,i*6+2,I⟩=some (vN L):=e 2 dC;have a8:wr.cell? ⟨ax,i*6+3,I⟩=some (vN N):=e 3 dC;have a9:wr.cell? ⟨ax,i*6+4,I⟩=some (J P R T):=e 4 dC;have a':wr.cell? ⟨ax,i*6+5,I⟩=some (J y V W):=e 5 dC;obtain⟨z,-⟩:=al1 wr (Ob (gO aB aD L N (J P R T) (J y V W)) 69);have v:=b.grow z
        have b9:Hid (∃bj,Calls Tryz.prog 52 #[.agg (ai L N (J P R T) (J y V W))] (wr.alloc (Ob (gO aB aD L N (J P R T) (J y V W)) 69)) (lD (wr.alloc (Ob (gO aB aD L N (J P R T) (J y V W)) 69)) (O M.ds) bj)/\bj<=17592186044416):=by
         have aR:=af.frame (a2.out v.below) v.below.size _ _ bC;have b':=aJ (a2.out v.below) v.below.size _ _ bC H;refine⟨_,tW H aR (by rw[b'];exact bi),?_⟩;rw[b'];exact bi
        obtain⟨bj,ca,dU⟩:=b9.out;have cb:Hid (Calls Tryz.prog 52 #[.agg (ai L N (J P R T) (J y V W))] (wr.alloc (Ob (gO aB aD L N (J P R T) (J y V W)) 69)) (lD (wr.alloc (Ob (gO aB aD L N (J P R T) (J y V W)) 69)) (O M.ds) bj)):=ca;clear e aN aO bB bC z bi b8 bA b9 ca b;go_wp2_with (go_at_call 52;refine cb.out.mono ?_;rintro bz dV ⟨cc,bD,t,rfl,cd,dW,c1,c2⟩)
        have ce:=v.grow c2;clear az ak a7 a8 a9 a' cZ v cb;have dX:O t<=17592186044416:=oM;go_loopg [11,62] (O t) (λu _ D cf=>∃(o:Nat) (n:List Value),u=O t - o/\D=vN o/\o<=O t/\RG w cf q (O M.ds) n (c+1)/\cf.ownsRow 0 3 1 (J cc (O t) bD) (O t) (aC t))
        case atStart=>exact⟨0,_,Q,Q,zL _,ce,⟨cd.1,cd.2.imp id (λ⟨g,c3,c4,c5,_,c6⟩=>⟨g,c3,c4,c5,zL _,c6⟩)⟩⟩
        case round=>
         clear ce;obtain⟨o,n,m,rfl,dY,b,bk⟩:=hrel;have c7:Hid (gk=O t - o):=m;clear m;by_cases bE:o<O t
         ·have c8:(o:Int)<(O t:Int):=oM;obtain⟨cg,c9,ch,-,dZ,c'⟩:=(ro.bJ (S:=λ_=>True) bk (λ_ _=>trivial)).int bE;obtain⟨rfl,rfl⟩:cc=some ⟨cg,0,I⟩/\bD=c9:=sU ch;obtain⟨aq,aQ⟩:∃aq,aq=t[o]:=⟨_,Q⟩;rw[<-aQ] at c';have bF:=c1 aq (by rw[aQ];exact List.getElem_mem bE);obtain⟨ar,rfl⟩:∃ar:Nat,aq=(ar:Int):=⟨aq.toNat,oH bF.1⟩;have da:ar<O M.ds:=oH bF.2;have d0:(ar:Int)<(O M.ds:Int):=oM;have d1:(c:Int)<(O M.ds:Int):=oM;obtain⟨l,d2,aT,bG,bl,d3,ci,bH⟩:=b.get (j:=c) (k:=ar) (Nat.lt_succ_self _) da;have db:=b.gl.2;have bI:=b.put bH ar true
          have dc:(wr.setCell ⟨l,ar,I⟩ (.bool true)).ownsRow 0 3 1 (J (aS cg) (O t) bD) (O t) (aC t):=ag bk (λaA aM _=>Below.heap_setCell _ ⟨l,ar,I⟩ _ _ (by
           obtain⟨d4,dd⟩:=aX bk aM;obtain⟨b5,de⟩:=aX bH dE;exact aI dd de dC))
          clear aQ bF ch bH b bk;go_wp2_with fail;go_roundg (O t - (o+1))
          case measure=>rw[c7.out];omega
          case rel=>exact⟨o+1,_,Q,by go_num,bE,bI,dc⟩
         ·have c8:¬(o:Int)<(O t:Int):=oM;go_wp2_with fail;go_roundg (O s - (i+1))
          case measure=>rw[cX.out];omega
          case rel=>exact⟨i+1,_,Q,by go_num,A,b⟩
       ·have aP:¬(i:Int)<(O s:Int):=oM;go_wp2_with fail;go_roundg (O r - (j+1))
        case measure=>rw[cR.out];omega
        case rel=>exact⟨j+1,_,Q,by go_num,ao,b⟩
     ·have bs:¬(j:Int)<(O r:Int):=oM;go_wp2_with fail;go_roundg (O M.ds - (c+1))
      case measure=>rw[cE.out];omega
      case rel=>exact⟨c+1,_,Q,by go_num,a5,b⟩
   ·have cF:¬(c:Int)<(O M.ds:Int):=oM;have df:c=O M.ds:=oM;have cj:RG w wr q (O M.ds) n (O M.ds):=b.le oM;clear df;go_wp2_with fail;go_loopg [12,13,14] (O M.ds) (λu dg _ _ wr=>∃(k:Nat) (n:List Value),u=O M.ds - k/\dg=vN k/\k<=O M.ds/\RG w wr q (O M.ds) n (O M.ds))
    case atStart=>exact⟨0,_,Q,Q,zL _,cj⟩
    case round=>
     clear cj b;obtain⟨k,n,m,rfl,d5,b⟩:=hrel;have dh:Hid (gk=O M.ds - k):=m;clear m;by_cases bJ:k<O M.ds
     ·have di:(k:Int)<(O M.ds:Int):=oM;go_wp2_with fail;go_loopg [13,14] (O M.ds) (λu dj _ av=>∃(i:Nat) (n:List Value),u=O M.ds - i/\dj=vN i/\i<=O M.ds/\RG w av q (O M.ds) n (O M.ds))
      case atStart=>exact⟨0,_,Q,Q,zL _,b⟩
      case round=>
       clear b;obtain⟨i,n,m,rfl,aG,b⟩:=hrel;have dk:Hid (gk=O M.ds - i):=m;clear m;by_cases A:i<O M.ds
       ·have aP:(i:Int)<(O M.ds:Int):=oM;go_wp2_with fail;go_loopg [14] (O M.ds) (λu dl bx=>∃(j:Nat) (n:List Value),u=O M.ds - j/\dl=vN j/\j<=O M.ds/\RG w bx q (O M.ds) n (O M.ds))
        case atStart=>exact⟨0,_,Q,Q,zL _,b⟩
        case round=>
         clear b;obtain⟨j,n,m,rfl,bc,b⟩:=hrel;have bK:Hid (gk=O M.ds - j):=m;clear m;by_cases ao:j<O M.ds
         ·have bs:(j:Int)<(O M.ds:Int):=oM;obtain⟨K,dm,aR,bL,ck,cl,cm,bm⟩:=b.get (j:=i) (k:=k) A bJ;obtain⟨aA,cH,dn,d6,d7,dp,d8,dq⟩:=b.get (j:=k) (k:=j) bJ ao;obtain⟨z,d9,d',cn,ea,eb,dr,ds⟩:=b.get (j:=i) (k:=j) A ao
          obtain rfl:K=z:=by
           have:=bL.symm.trans cn;simpa using this
          have db:=b.gl.2;have bI:=b.put bm j true;clear cn dr bm dq ds cl dp
          cases aR
          ·go_wp2_with fail;go_roundg (O M.ds - (j+1))
           case measure=>rw[bK.out];omega
           case rel=>exact⟨j+1,_,Q,by go_num,ao,b⟩
          ·cases dn
           ·go_wp2_with fail;go_roundg (O M.ds - (j+1))
            case measure=>rw[bK.out];omega
            case rel=>exact⟨j+1,_,Q,by go_num,ao,b⟩
           ·go_wp2_with fail;go_roundg (O M.ds - (j+1))
            case measure=>rw[bK.out];omega
            case rel=>exact⟨j+1,_,Q,by go_num,ao,bI⟩
         ·have bs:¬(j:Int)<(O M.ds:Int):=oM;go_wp2_with fail;go_roundg (O M.ds - (i+1))
          case measure=>rw[dk.out];omega
          case rel=>exact⟨i+1,_,Q,by go_num,A,b⟩
       ·have aP:¬(i:Int)<(O M.ds:Int):=oM;go_wp2_with fail;go_roundg (O M.ds - (k+1))
        case measure=>rw[dh.out];omega
        case rel=>exact⟨k+1,_,Q,by go_num,bJ,b⟩
     ·have di:¬(k:Int)<(O M.ds:Int):=oM;have aE:=a1.out.below b.below;have bo:=aE.mk'.cell;have bp:=aE.mk'.lt;go_wp2_with fail;clear bo bp;obtain⟨X,dt⟩:∃X,X=wr:=⟨_,Q⟩;subst dt;have co:=MF.refl aE;obtain⟨ec,cp⟩:=aX b.row dE;have du:q≠au:=aI cp aE.mk' dC;have dv:=b.gl.2
      have dw:Hid (∀j,j<O M.ds->∃l aT,l<E (U X)/\l≠au/\X.cell? ⟨q,j,I⟩=some (J (aS l) (O M.ds) (O M.ds))/\X.cell? ⟨l,j,I⟩=some (.bool aT)):=λj bc=>by
       obtain⟨K,dm,aR,bL,ck,cl,cm,bm⟩:=b.get (j:=j) (k:=j) bc bc;obtain⟨bl,dx⟩:=aX bm dE;exact⟨K,aR,cm,aI dx aE.mk' dC,bL,ck⟩
      have cq:Hid (Below (E (U w)) w X):=b.below;clear cp aE b;go_loopg [15,16,119] (O M.ds) (λu _ _ D av=>∃(i:Nat) (bM y:Int),u=O M.ds - i/\D=vN i/\i<=O M.ds/\MF X au M aV aW aY ay aZ a0 B H av bM y)
      case atStart=>exact⟨0,_,_,Q,Q,zL _,co⟩
      case round=>
       clear co;obtain⟨i,bM,y,m,rfl,aG,o⟩:=hrel;have cr:Hid (gk=O M.ds - i):=m;clear m;by_cases A:i<O M.ds
       ·have aP:(i:Int)<(O M.ds:Int):=oM;obtain⟨d,C⟩:∃d,M.ds[i]? =some d:=⟨_,gG A⟩;obtain⟨g,aK,bU,e⟩:=o.s.pi.data (i:=i) (d:=d) C;obtain rfl:a3=some ⟨g,0,I⟩:=by rw[<-bR];exact aK
        obtain⟨Y,Z,aa,ab,ac,ad,ae,ah,F,G,r,aj⟩:=d;have az:wr.cell? ⟨g,i*10,I⟩=some (.string Y):=e 0 dC;have ak:wr.cell? ⟨g,i*10+1,I⟩=some (vN Z):=e 1 dC;have a7:wr.cell? ⟨g,i*10+2,I⟩=some (vN aa):=e 2 dC;have a8:wr.cell? ⟨g,i*10+3,I⟩=some (.bool ab):=e 3 dC;have a9:wr.cell? ⟨g,i*10+4,I⟩=some (.bool ac):=e 4 dC;have a':wr.cell? ⟨g,i*10+5,I⟩=some (.bool ad):=e 5 dC;have bV:wr.cell? ⟨g,i*10+6,I⟩=some (vN ae):=e 6 dC;have a4:wr.cell? ⟨g,i*10+7,I⟩=some (vN ah):=e 7 dC;have bW:wr.cell? ⟨g,i*10+8,I⟩=some (J F (O r) G):=e 8 dC;have bX:wr.cell? ⟨g,i*10+9,I⟩=some (vN aj):=e 9 dC;obtain⟨l,aT,ci,dy,bG,bl⟩:=dw.out i A;have ed:=o.kp.size;have ee:wr.cell? ⟨q,i,I⟩=some (J (aS l) (O M.ds) (O M.ds)):=(World.cell?_of_block (w:=X) (a:=⟨q,i,I⟩) (o.kp.block q dv du)).trans bG;have ef:wr.cell? ⟨l,i,I⟩=some (.bool aT):=(World.cell?_of_block (w:=X) (a:=⟨l,i,I⟩) (o.kp.block l ci dy)).trans bl;have eg:l<E (U wr):=oM;have eh:q<E (U wr):=oM;obtain⟨K,aA⟩:=al1 wr (Ob #[.string Y,vN Z,vN aa,.bool ab,.bool ac,.bool ad,vN ae,vN ah,J F (O r) G,vN aj] 64);have bO:=o.below K;clear e C aK K bG bl
        cases aT
        ·go_wp2_with fail;go_roundg (O M.ds - (i+1))
         case measure=>rw[cr.out];omega
         case rel=>exact⟨i+1,_,_,Q,by go_num,A,bO⟩
        ·go_wp2_with (go_at_call 45;refine(bY bO.s.mk' _ _).mono ?_;rintro bz ei ⟨⟨ej,c0,rfl,dz,dA,dB⟩,-⟩;have dD:=bO.no dA dz dB)
         go_roundg (O M.ds - (i+1))
         case measure=>rw[cr.out];omega
         case rel=>exact⟨i+1,_,_,Q,by go_num,A,dD⟩
       ·have aP:¬(i:Int)<(O M.ds:Int):=oM;go_wp2_with fail;go_end0;exact⟨bM,y,Q,⟨o.s,(Kp.aq cq.out).trans (o.kp.mono cq.out.size),o.hf⟩⟩
 ·have ek:(M.fk==0)=false:=sU cC;go_wp2_with (go_at_call 35;refine(bN a1.out.mk').mono ?_;rintro a4 av ⟨rfl,aw⟩;replace aw:=aw.symm;subst aw)
  go_end0;exact⟨_,_,Q,ct⟩
end Go.Proofs.YtcnnibahjmekdaaGreat
