import Derived.Test.YtdghkacbpebcoaaGreatS42
namespace Go.Proofs.YtdghkacbpebcoaaGreat
open Go.RowKit
open Value renaming slice→J
open List renaming length→O
open Option renaming none→I
open World renaming heap→U
open _root_.Array renaming size→E
open Obj renaming cells→Ob
set_option linter.all false
set_option maxRecDepth 100000
set_option maxHeartbeats 0
section
variable{mc n:Nat} {mo:OA} {ms:VV}
section
variable{w w0 w':World} {mb:Nat} {M:MK} {k a:Int} {trs au fns trs0 ims0 fns0:VV} {Xd Xi Xf Xd0 Xi0 Xf0:Nat} {Mu Mu0 Mu':Nat->Prop} {H H0:Nat}
theorem MS.shrink (h:MS w mb (M.bu k a) trs au fns Xd Xi Xf Mu H) (d:MS w0 mb M trs0 ims0 fns0 Xd0 Xi0 Xf0 Mu0 H0) (e:∀b,Mu0 b->Mu' b) (o:∀b,Mu' b->Mu b):MS w mb (M.bu k a) trs au fns Xd Xi Xf Mu' H:=by
 have i:∀b,¬Mu b->b<E (U w)->¬Mu' b:=λb j _ l=>j (o b l);obtain⟨p,q,r,s⟩:=h.jR;exact⟨h.pi,h.tr,h.im,h.fn,e _ d.dG,λb j=>h.mlt b (o b j),λb c=>e _ (d.ly b c),λt l b c=>e _ (d.jL t l b c),λb c=>e _ (d.js b c),λb c=>e _ (d.jW b c),λb c=>e _ (d.lK b c),λb c=>e _ (d.lV b c),⟨p,q,r,λu v x y z=>(s u v x y z).weaken i⟩,λm f=>(h.jo m f).weaken i,h.lN.imp (λA m f=>f.weaken i),h.lD.imp (λA m f=>f.weaken i)⟩
theorem MS.move (h:MS w mb M trs au fns Xd Xi Xf Mu H) (u:KX Mu (E (U w)) w w') {P:Nat->Prop} (f:KT P w w') (e:P 74/\P 43/\P 129/\P 102/\P 104/\P 69) (i:cz w' mb (M.bu k a)) (d:∀b,Mu b->Mu' b) (s:∀b,Mu' b->b<E (U w')) (v:∀b,b<E (U w)->Mu' b->Mu b):MS w' mb (M.bu k a) trs au fns Xd Xi Xf Mu' H:=by
 have m:aq (λb=>¬Mu b/\b<E (U w)) w w':=λb o x=>u.block b x o.1;have p:=u.size;have q:∀b,¬Mu b->b<E (U w)->(¬Mu b/\b<E (U w)):=λb d s=>⟨d,s⟩;have r:∀b,(¬Mu b/\b<E (U w))->b<E (U w')->¬Mu' b:=λb o _ i=>o.1 (v b o.2 i);obtain⟨y,z,A,B⟩:=h.jR;have j:=h.pi;exact⟨⟨i,j.cE.kt f e.2.2.2.1 e.2.2.2.2.1,j.q,ag j.cd f e.2.2.2.2.2,j.bj,j.lg⟩,ag h.tr f e.1,ag h.im f e.2.1,ag h.fn f e.2.2.1,d _ h.dG,s,λb c=>d _ (h.ly b c),λC i b c=>d _ (h.jL C i b c),λb c=>d _ (h.js b c),λb c=>d _ (h.jW b c),λb c=>d _ (h.lK b c),λb c=>d _ (h.lV b c),⟨y,z,A,λD F G K L=>(((B D F G K L).weaken q).frame m p).weaken r⟩,λt l=>(((h.jo t l).weaken q).frame m p).weaken r,h.lN.imp (λN t l=>((l.weaken q).frame m p).weaken r),h.lD.imp (λN t l=>((l.weaken q).frame m p).weaken r)⟩
theorem MS.vl (h:MS w mb M trs au fns Xd Xi Xf Mu H) {i:Nat} {r:ByteArray} {md s:Int} {t:Bool} {D:OA} {F G:Nat} (K:trs[i]? =some (jr r md s t D F G).toList) {g c:Nat} (L:M.tv=J (aS g) n c) (N:ro w (λb=>¬Mu b) 9 (J mo (O ms) mc) (O ms) ms.flatten) (P:∀l∈ms,fT (λb=>¬Mu b) (O M.ds) H w l) (hl:O ms<=30000):
 MS (w.setCell ⟨g,i*5+4,I⟩ (J mo (O ms) mc)) mb M (trs.set i (jr r md s t mo (O ms) mc).toList) au fns Xd Xi Xf Mu H/\KX Mu (E (U w)) w (w.setCell ⟨g,i*5+4,I⟩ (J mo (O ms) mc))/\KT (λu=>u≠74) w (w.setCell ⟨g,i*5+4,I⟩ (J mo (O ms) mc)):=by
 have v:M.tv.ownBlock=some g:=by rw[L];rfl
 obtain⟨ac,R⟩:=aY h.tr v;have f:KT (λu=>u≠74) w (w.setCell ⟨g,i*5+4,I⟩ (J mo (O ms) mc)):=KT.set R _ _;have x:KX Mu (E (U w)) w (w.setCell ⟨g,i*5+4,I⟩ (J mo (O ms) mc)):=(KX.refl _ _ _).setCell (p:=⟨g,i*5+4,I⟩) (.inr (h.jW g v)) _;have j:aq (λb=>¬Mu b) w (w.setCell ⟨g,i*5+4,I⟩ (J mo (O ms) mc)):=λb y hl=>x.block b hl y;have d:=x.size;have C:=cW h.tr v (i*5+4) (J mo (O ms) mc);have S:=gp (size:=5) (us:=trs) (λm e=>by obtain⟨ad,ae,af,ah,ai,aj,ak,T,-⟩:=h.jo m e;rw[T];rfl) K (o:=4) dC (J mo (O ms) mc);rw[S] at C;have z:O (trs.set i (jr r md s t mo (O ms) mc).toList)=O trs:=List.length_set;have q:=h.pi;obtain⟨V,W,X,Y⟩:=h.jR;refine⟨⟨⟨aw f h.mk' dC,q.cE.kt f dC dC,?_,ag q.cd f dC,?_,q.lg⟩,?_,ag h.im f dC,ag h.fn f dC,h.dG,λb y=>Nat.lt_of_lt_of_le (h.mlt b y) d,h.ly,h.jL,h.js,h.jW,h.lK,h.lV,⟨V,W,X,λi Z l aa A=>(Y i Z l aa A).frame j d⟩,?_,h.lN.imp (λab m e=>e.frame j d),h.lD.imp (λab m e=>e.frame j d)⟩,x,f⟩
 ·rw[z];exact q.q
 ·rw[z];exact q.bj
 ·rw[z];exact C
 ·intro m e;rcases List.mem_or_eq_of_mem_set e with B|B
  ·exact(h.jo m B).frame j d
  ·rw[B];exact⟨r,md,s,t,mo,mc,ms,Q,N.frame j d,λl A=>(P l A).frame j d,hl⟩
end
structure lE (w:World) (mb:Nat) (M:MK) (trs au fns:VV) (Xd Xi Xf:Nat) (Mu0 Mu:Nat->Prop) (H:Nat) (mo:OA) (mc:Nat) (ms:VV) (wr:World) (k a:Int):Prop where
 s:MS wr mb (M.bu k a) trs au fns Xd Xi Xf Mu H
 row:wr.ownsRow (E (U w)) 81 9 (J mo (O ms) mc) (O ms) ms.flatten
 own:∀b,(Value.slice mo (O ms) mc).ownBlock=some b->Mu b
 mt:∀y∈ms,fT (λb=>¬Mu b) (O M.ds) H wr y
 kx:KX Mu0 (E (U w)) w wr
 m0:Mu0 mb
 m1:∀b,Mu0 b->Mu b
 m2:∀b,b<E (U w)->Mu b->Mu0 b
 hf:M.fk≠0->k=M.fk
section
variable{w wr w' w0:World} {mb:Nat} {M:MK} {trs au fns trs0 ims0 fns0:VV} {Xd Xi Xf Xd0 Xi0 Xf0:Nat} {Mu0 Mu Mu':Nat->Prop} {H H0:Nat} {mo:OA} {mc:Nat} {ms:VV} {k a k' a':Int}
theorem lE.below (q:lE w mb M trs au fns Xd Xi Xf Mu0 Mu H mo mc ms wr k a) (b:Below (E (U wr)) wr w'):lE w mb M trs au fns Xd Xi Xf Mu0 Mu H mo mc ms w' k a:=by
 have c:KT (λ_=>True) wr w':=KT.below b;exact⟨q.s.below b,ag q.row c trivial,q.own,λd e=>(q.mt d e).frame (λf _ i=>b.block f i) b.size,q.kx.trans ((KX.al b).mono (λ_ _ h=>h) q.kx.size),q.m0,q.m1,q.m2,q.hf⟩
theorem lE.grow (q:lE w mb M trs au fns Xd Xi Xf Mu0 Mu H mo mc ms wr k a) (c:Below (E (U wr)) wr w') (e:∀b,Mu b->Mu' b) (i:∀b,Mu' b->b<E (U w')) (f:∀b,b<E (U wr)->Mu' b->Mu b):lE w mb M trs au fns Xd Xi Xf Mu0 Mu' H mo mc ms w' k a:=by
 have j:KT (λ_=>True) wr w':=KT.below c;have r:=q.kx.size;exact⟨q.s.grow c e i f,ag q.row j trivial,λb l=>e b (q.own b l),λm o=>((q.mt m o).weaken (λb c d p=>c (f b d p))).frame (λb _ d=>c.block b d) c.size,q.kx.trans ((KX.al c).mono (λ_ _ h=>h) q.kx.size),q.m0,λb c=>e b (q.m1 b c),λb d c=>q.m2 b d (f b oM c),q.hf⟩
theorem lE.shrink (q:lE w mb M trs au fns Xd Xi Xf Mu0 Mu H mo mc ms wr k a) (f:MS w0 mb M trs0 ims0 fns0 Xd0 Xi0 Xf0 Mu0 H0) (e:∀b,Mu0 b->Mu' b) (c:∀b,Mu' b->Mu b) (i:∀b,(Value.slice mo (O ms) mc).ownBlock=some b->Mu' b):lE w mb M trs au fns Xd Xi Xf Mu0 Mu' H mo mc ms wr k a:=
 ⟨q.s.shrink f e c,q.row,i,λj l=>(q.mt j l).weaken (λb d _ m=>d (c b m)),q.kx,q.m0,e,λb o d=>q.m2 b o (c b d),q.hf⟩
theorem lE.no (q:lE w mb M trs au fns Xd Xi Xf Mu0 Mu H mo mc ms wr k a) (b:Kp (E (U wr)) mb wr w') (d:cz w' mb ((M.bu k a).bu k' a')) (e:(M.bu k a).fk≠0->k'=(M.bu k a).fk):lE w mb M trs au fns Xd Xi Xf Mu0 Mu H mo mc ms w' k' a':=
 ⟨q.s.no d b,ag q.row (KT.mb q.s.mk' b) dC,q.own,λf i=>(q.mt f i).frame (λj l m=>b.block j m (λc=>l (c▸q.s.dG))) b.size,q.kx.trans ((KX.cI b q.m0).mono (λ_ _ h=>h) q.kx.size),q.m0,q.m1,q.m2,λh=>by have c:=q.hf h;have:=e (by show k≠0;rw[c];exact h);rw[this];exact c⟩
theorem lE.sig {kb:Nat} {K:CK} {how next one fk fa:Int} {A:Nat->Prop} {X:Nat} {e:Ending} (q:lE w mb M trs au fns Xd Xi Xf Mu0 Mu H mo mc ms wr k a) (B:bJ wr kb K how next one fk fa) (C:Mu kb) (Z:E (U w)<=kb) (hS:∀b,A b->¬Mu b) (G:fU wr mb kb (M.bu k a) K A X n e w'):
 ∃(z:Int) (i:OA) (j:Nat) (c:VV) (l:OA) (m:Nat) (o:VV) (p r:Int) (s:OA) (t u:Nat) (v:OA) (x y:Nat) (k' a':Int) (d:Nat),e=.returned (.tuple #[.agg (eO z aH aH i (O c) j (vN p) (vN r) (J s t u) (J v x y)),J l (O o) m])/\lE w mb M trs au fns Xd Xi Xf Mu0 Mu d mo mc ms w' k' a'/\H<=d/\KX (λb=>b=kb\/b=mb) (E (U wr)) wr w'/\ot (λb=>¬Mu b) (O M.ds) d w' i j c l m o (ak p r (J s t u) (J v x y)).toList X/\(k'=0->O c=n):=by
 obtain⟨z,i,j,c,l,m,o,p,r,s,t,u,v,x,y,k',a',d,L,N,D,P,f,R,S⟩:=q.s.sig B C hS G;have T:=q.m0;refine⟨z,i,j,c,l,m,o,p,r,s,t,u,v,x,y,k',a',d,L,⟨N,ag q.row (KT.kx B q.s.mk' f) dC,q.own,λV W=>((q.mt V W).frame (λb Y F=>f.block b F (λe=>Y (by rcases e with rfl|rfl;exact C;exact q.s.dG))) f.size).le D,q.kx.trans (f.mono (λb F e=>by rcases e with rfl|rfl;omega;exact T) q.kx.size),q.m0,q.m1,q.m2,λh=>by have e:=q.hf h;have:=P (by show k≠0;rw[e];exact h);rw[this];exact e⟩,D,f,R,S⟩
theorem lE.push (q:lE w mb M trs au fns Xd Xi Xf Mu0 Mu H mo mc ms wr k a) {cs:Array Value} (B:fT (λb=>¬Mu b) (O M.ds) H wr cs.toList) (C:cs.size=9) (one:∀u∈cs.toList,u.oneCell'=true) (p:O ms<=20000) (y:TypeId) {ad:Nat} (D:ad=E (U wr)):
 ∃r w',(Builtin.append_ #[72,72] y #[J mo (O ms) mc,J (aS ad) 1 1]).run Tryz.prog (wr.alloc (Ob cs 81))=.ok r w'/\∃e f Mu',r=J e (O (ms++[cs.toList])) f/\lE w mb M trs au fns Xd Xi Xf Mu0 Mu' H e f (ms++[cs.toList]) w' k a/\KX Mu (E (U wr)) wr w':=by
 have F:=q.kx.size;obtain⟨r,w',G,d⟩:=fj (W:=wr) Tryz.underlying72 yZ Q dC q.row F cs C one (by unfold maxLen;omega) oM y D;obtain⟨e,f,rfl⟩:=d.shape;have z:=App.kt q.row d;have s:E (U wr)<=E (U w'):=lT sQ d.grown.size;have i:KX Mu (E (U wr)) wr w':=⟨d.grown.os,d.grown.tape,d.grown.output,s,λb c p=>(d.grown.block b (by simp;omega) (λm=>p (q.own b m.symm))).trans (Below.heap_alloc _ _ _ c)⟩
 have K:∀b,(Value.slice e (O ms+1) f).ownBlock=some b->b<E (U wr)->Mu b:=λb c j=>by
  rcases d.own with m|m
  ·exact q.own b (by rw[<-m];exact c)
  ·rw[m] at c;simp at c;omega
 have t:O (ms++[cs.toList])=O ms+1:=sQ;have v:∀b,b<E (U wr)->(Mu b\/(Value.slice e (O ms+1) f).ownBlock=some b)->Mu b:=λb j c=>by rcases c with c|c;exact c;exact K b c j
 have L:aq (λb=>¬Mu b/\b<E (U wr)) wr w':=λb c j=>i.block b j c.1;refine⟨_,w',G,e,f,λb=>Mu b\/(Value.slice e (O ms+1) f).ownBlock=some b,by rw[t],⟨?_,?_,?_,?_,?_,q.m0,λb c=>.inl (q.m1 b c),λb j c=>q.m2 b j (v b oM c),q.hf⟩,i⟩
 ·exact q.s.move (k:=k) (a:=a) i z dC (aw z q.s.mk' dC) (λb c=>.inl c) (λb c=>by rcases c with c|c;(have:=q.s.mlt b c;omega);exact(d.row.lt b c).2) v
 ·have N:(ms++[cs.toList]).flatten=ms.flatten++cs.toList:=sQ;rw[t,N];exact d.row
 ·intro b c;rw[t] at c;exact .inr c
 ·intro l o;have A:∀l,fT (λb=>¬Mu b) (O M.ds) H wr l->fT (λb=>¬(Mu b\/(Value.slice e (O ms+1) f).ownBlock=some b)) (O M.ds) H w' l:=λl h=>((h.weaken (λb P R=>(⟨P,R⟩:¬Mu b/\b<E (U wr)))).frame L s).weaken (λb c _ x=>c.1 (v b c.2 x));rcases List.mem_append.1 o with o|o
  ·exact A l (q.mt l o)
  ·rw[List.mem_singleton.1 o];exact A _ B
 ·refine q.kx.trans ⟨i.os,i.tape,i.output,s,λb c p=>i.block b oM (λx=>p (q.m2 b c x))⟩
def ud (w:World) (mb:Nat) (M:MK) (trs au fns:VV) (Xd Xi Xf:Nat) (Mu:Nat->Prop) (H:Nat) (e:Ending) (w':World):Prop:=
 ∃(k a:Int) (trs':VV) (H':Nat),e=.returned (.tuple #[])/\MS w' mb (M.bu k a) trs' au fns Xd Xi Xf Mu H'/\KX Mu (E (U w)) w w'/\O trs'=O trs/\H<=H'/\(M.fk≠0->k=M.fk)
end
end
section
variable{cs:List Cs} {H cc n:Nat} {Y:Nat->Prop} {co:OA} {w w':World}
theorem xM:(Tryz.prog.info? 97).map (λb=>(b.zero,b.size,b.bytes))=some (some (.agg #[.string ⟨#[]⟩,.bool false,vN 0,vN 0,J I 0 0,J I 0 0]),6,88):=by kernel_rfl
theorem xP:(Tryz.prog.info? 95).map (λb=>(b.zero,b.size,b.bytes))=some (some (.agg #[.string ⟨#[]⟩,J I 0 0]),2,40):=by kernel_rfl
theorem kr:∀(c:List Nat) (n b:Nat),(c.set n b).sum<=c.sum+b
 |[],n,b=>sQ
 |x::r,0,b=>by
  rw[List.set_cons_zero,List.sum_cons,List.sum_cons];omega
 |x::r,n+1,b=>by
  rw[List.set_cons_succ,List.sum_cons,List.sum_cons];have:=kr r n b;omega
abbrev Dd.put (d:Dd) (co:OA) (cc:Nat) (cs:List Cs):Dd:={d with ao:=co,cp:=cc,cs:=cs}
abbrev MK.put (M:MK) (n:Nat) (d:Dd):MK:={M with ds:=M.ds.set n d}
section
variable{w w':World} {mb:Nat} {M:MK} {trs au fns:VV} {Xd Xi Xf:Nat} {Mu Mu':Nat->Prop} {H H':Nat}
theorem MS.xy (h:MS w mb M trs au fns Xd Xi Xf Mu H) {d:Dd} (v:M.ds[n]? =some d) {g:Nat} (F:M.df=some ⟨g,0,I⟩) {Y:Nat} (G:eG (λb=>¬Mu b) (O M.ds) H Y w (d.put co cc cs)):MS (w.setCell ⟨g,n*10+8,I⟩ (J co (O cs) cc)) mb (M.put n (d.put co cc cs)) trs au fns (Xd+Y) Xi Xf Mu H/\KX Mu (E (U w)) w (w.setCell ⟨g,n*10+8,I⟩ (J co (O cs) cc))/\KT (λy=>y≠69) w (w.setCell ⟨g,n*10+8,I⟩ (J co (O cs) cc)):=by
 have z:(Value.slice M.df (O M.ds) M.eo).ownBlock=some g:=by rw[F];rfl
 obtain⟨ad,L⟩:=aY h.pi.cd z;have l:KT (λy=>y≠69) w (w.setCell ⟨g,n*10+8,I⟩ (J co (O cs) cc)):=KT.set L _ _;have A:KX Mu (E (U w)) w (w.setCell ⟨g,n*10+8,I⟩ (J co (O cs) cc)):=(KX.refl _ _ _).setCell (p:=⟨g,n*10+8,I⟩) (.inr (h.js g z)) _;have t:aq (λb=>¬Mu b) w (w.setCell ⟨g,n*10+8,I⟩ (J co (O cs) cc)):=λb m N=>A.block b N m;have q:=A.size;have c:O (M.put n (d.put co cc cs)).ds=O M.ds:=List.length_set;have r:=h.pi;have P:∀e∈(M.put n (d.put co cc cs)).ds,e∈M.ds\/e=d.put co cc cs:=λe f=>List.mem_or_eq_of_mem_set f;have R:=mG v;have S:=(gS v).1;obtain⟨T,V,ae,W⟩:=h.jR;have C:=cW r.cd z (n*10+8) (J co (O cs) cc)
 have Z:(M.ds.map Dd.c).flatten.set (n*10+8) (J co (O cs) cc)=((M.put n (d.put co cc cs)).ds.map Dd.c).flatten:=by
  have:=gp (size:=10) (us:=M.ds.map Dd.c) (λx j=>by obtain⟨u,_,rfl⟩:=List.mem_map.1 j;rfl) (i:=n) (x:=d.c) (by rw[List.getElem?_map,v];rfl) (o:=8) dC (J co (O cs) cc);rw[this];show _=((M.ds.set n (d.put co cc cs)).map Dd.c).flatten;rw[List.map_set];rfl
 rw[Z] at C;refine⟨⟨⟨?_,r.cE.kt l dC dC,?_,?_,?_,?_⟩,ag h.tr l dC,ag h.im l dC,ag h.fn l dC,h.dG,λb m=>Nat.lt_of_lt_of_le (h.mlt b m) q,h.ly,h.jL,?_,h.jW,h.lK,h.lV,⟨T.set n Y,by rw[c,List.length_set];exact V,lT (kr _ _ _) oM,?_⟩,?_,?_,?_⟩,A,l⟩
 ·have:=aw l h.mk' dC;unfold cz at*;rw[this];simp
 ·intro aa ab u s;rw[c];exact r.q aa ab u s
 ·rw[c];exact C
 ·rw[c];exact r.bj
 ·intro e f;rcases P e f with B|B
  ·exact r.lg e B
  ·rw[B];exact r.lg d R
 ·intro b m;rw[c] at m;exact h.js b m
 ·intro i e u f s;rw[c];by_cases D:i=n
  ·subst D;rw[List.getElem?_set_self S] at f;obtain rfl:=Option.some.inj f;rw[List.getElem?_set_self oM] at s;obtain rfl:=Option.some.inj s;exact G.frame t q
  ·rw[List.getElem?_set_ne (λac=>D ac.symm)] at f s;exact(W i e u f s).frame t q
 ·intro x j;rw[c];exact(h.jo x j).frame t q
 ·rw[c];exact h.lN.imp (λY x j=>j.frame t q)
 ·rw[c];exact h.lD.imp (λY x j=>j.frame t q)
end
structure DC (w:World) (mb cb:Nat) (M:MK) (trs au fns:VV) (Xd Xi Xf:Nat) (Mu0 Mu:Nat->Prop) (H:Nat) (K:CK) (co:OA) (cc:Nat) (cs:List Cs) (X:Nat) (wr:World) (k a next fk fa:Int):Prop where
 s:MS wr mb (M.bu k a) trs au fns Xd Xi Xf Mu H
 cv:bJ wr cb K 2 next 0 fk fa
 mY:Mu cb
 row:wr.ownsRow (E (U w)) 95 2 (J co (O cs) cc) (O cs) (cs.map Cs.c).flatten
 own:∀b,(Value.slice co (O cs) cc).ownBlock=some b->Mu b
 ct:∀c∈cs,ro wr (λb=>¬Mu b) 6 (J c.ao (O c.ps) c.cp) (O c.ps) (c.ps.map Pt.c).flatten/\O c.ps<=30000/\∀p∈c.ps,dZ (λb=>¬Mu b) (O M.ds) H wr p.c
 sz:∀f,(cs.map (λc=>(c.ps.map (λp=>bW f wr p.ty)).sum)).sum<=X
 kx:KX Mu0 (E (U w)) w wr
 m0:Mu0 mb
 m1:∀b,Mu0 b->Mu b
 m2:∀b,b<E (U w)->Mu b->Mu0 b
 hf:M.fk≠0->k=M.fk
structure DP (w:World) (mb cb kb:Nat) (M:MK) (trs au fns:VV) (Xd Xi Xf:Nat) (Mu0 Mu:Nat->Prop) (H:Nat) (K:CK) (co:OA) (cc:Nat) (cs:List Cs) (X:Nat) (nm:ByteArray) (po:OA) (pc:Nat) (ps:List Pt) (Xp:Nat) (wr:World) (k a next fk fa:Int):Prop where
 c:DC w mb cb M trs au fns Xd Xi Xf Mu0 Mu H K co cc cs X wr k a next fk fa
 ie:wr.heap[kb]? =some (Ob #[.string nm,J po (O ps) pc] 95 (0,0))
 qY:Mu kb
 yC:(Value.slice co (O cs) cc).ownBlock≠some kb
 qZ:E (U w)<=kb
 jU:wr.ownsRow (E (U w)) 97 6 (J po (O ps) pc) (O ps) (ps.map Pt.c).flatten
 uR:∀b,(Value.slice po (O ps) pc).ownBlock=some b->Mu b
 pt:∀p∈ps,dZ (λb=>¬Mu b) (O M.ds) H wr p.c
 yv:∀f,(ps.map (λp=>bW f wr p.ty)).sum<=Xp
section
variable{w wr w':World} {mb cb kb:Nat} {M:MK} {trs au fns:VV} {Xd Xi Xf:Nat} {Mu0 Mu Mu2:Nat->Prop} {H H2:Nat} {K:CK} {co:OA} {cc:Nat} {cs:List Cs} {X:Nat} {nm:ByteArray} {po:OA} {pc:Nat} {ps:List Pt} {Xp:Nat} {k a next fk fa k' a' next' fk' fa':Int}
theorem gZ {S:Nat->Prop} {D:Nat} {ps:List Pt} (h:∀p∈ps,dZ S D H w p.c) (b:aq S w w') (c:E (U w)<=E (U w')) (f:Nat):(ps.map (λp=>bW f w' p.ty)).sum=(ps.map (λp=>bW f w p.ty)).sum:=congrArg List.sum (List.map_congr_left (f:=λp:Pt=>bW f w' p.ty) (λp d=>((h p d).frame b c).2 f))
theorem DC.step (q:DC w mb cb M trs au fns Xd Xi Xf Mu0 Mu H K co cc cs X wr k a next fk fa) (f:KX Y (E (U wr)) wr w') (l:∀b,Y b->Mu b) (x:∀b,Y b->(Value.slice co (O cs) cc).ownBlock≠some b) (y:MS w' mb (M.bu k' a') trs au fns Xd Xi Xf Mu2 H2) (z:H<=H2) (A:bJ w' cb K 2 next' 0 fk' fa') (j:∀b,Mu b->Mu2 b) (s:∀b,b<E (U wr)->Mu2 b->Mu b) (B:k≠0->k'=k):DC w mb cb M trs au fns Xd Xi Xf Mu0 Mu2 H2 K co cc cs X w' k' a' next' fk' fa':=by
 have m:=f.size;have C:=q.kx.size;have D:aq (λb=>¬Mu b) wr w':=λb c d=>f.block b d (λe=>c (l b e));have t:aq (λb=>¬Mu2 b) wr w':=λb c d=>f.block b d (λe=>c (j b (l b e)));have u:∀b,¬Mu b->b<E (U wr)->¬Mu2 b:=λb c d F=>c (s b d F);refine⟨y,A,j _ q.mY,ah q.row (λb c d=>f.block b d (λe=>x b e c)),λb c=>j b (q.own b c),λi o=>?_,λp=>?_,?_,q.m0,λb c=>j b (q.m1 b c),λb d c=>q.m2 b d (s b oM c),λh=>by have v:=q.hf h;rw[<-v];exact B (by rw[v];exact h)⟩
 ·obtain⟨G,L,N⟩:=q.ct i o;exact⟨(G.weaken u).frame t m,L,λr P=>((((N r P).weaken u).frame t m).1).le z⟩
 ·rw[List.map_congr_left (g:=λi=>(i.ps.map (λr=>bW p wr r.ty)).sum) (λi o=>gZ (q.ct i o).2.2 D m p)];exact q.sz p
 ·exact q.kx.trans (f.mono (λb d e=>q.m2 b d (l b e)) C)
theorem DP.step (q:DP w mb cb kb M trs au fns Xd Xi Xf Mu0 Mu H K co cc cs X nm po pc ps Xp wr k a next fk fa) (e:KX Y (E (U wr)) wr w') (j:∀b,Y b->Mu b) (r:∀b,Y b->(Value.slice co (O cs) cc).ownBlock≠some b) (s:∀b,Y b->(Value.slice po (O ps) pc).ownBlock≠some b) (t:¬Y kb) (u:MS w' mb (M.bu k' a') trs au fns Xd Xi Xf Mu2 H2) (l:H<=H2) (v:bJ w' cb K 2 next' 0 fk' fa') (i:∀b,Mu b->Mu2 b) (m:∀b,b<E (U wr)->Mu2 b->Mu b) (x:k≠0->k'=k):DP w mb cb kb M trs au fns Xd Xi Xf Mu0 Mu2 H2 K co cc cs X nm po pc ps Xp w' k' a' next' fk' fa':=by
 have o:=e.size;have y:aq (λb=>¬Mu b) wr w':=λb c d=>e.block b d (λf=>c (j b f));have z:aq (λb=>¬Mu2 b) wr w':=λb c d=>e.block b d (λf=>c (i b (j b f)));have A:∀b,¬Mu b->b<E (U wr)->¬Mu2 b:=λb c d B=>c (m b d B);exact⟨q.c.step e j r u l v i m x,(e.block _ (gE q.ie).1 t).trans q.ie,i _ q.qY,q.yC,q.qZ,ah q.jU (λb c d=>e.block b d (λf=>s b f c)),λb c=>i b (q.uR b c),λC D=>((((q.pt C D).weaken A).frame z o).1).le l,λp=>by rw[gZ q.pt y o p];exact q.yv p⟩
theorem cQ {base e size:Nat} {v:Value} {xs:List Value} (h:w.ownsRow base e size v n xs) {b:Nat} {c:Array Value} {t:TypeId} {z:Nat × Nat} (d:w.heap[b]? =some (Ob c t z)) (f:t≠e):v.ownBlock≠some b:=λi=>by
 obtain⟨l,j⟩:=aY h i;exact aJ d j f Q
theorem DC.below (q:DC w mb cb M trs au fns Xd Xi Xf Mu0 Mu H K co cc cs X wr k a next fk fa) (b:Below (E (U wr)) wr w'):DC w mb cb M trs au fns Xd Xi Xf Mu0 Mu H K co cc cs X w' k a next fk fa:=
 q.step (Y:=λ_=>False) (KX.al b) (λ_ h=>h.elim) (λ_ h=>h.elim) (q.s.below b) (lR _) (q.cv.below b) (λ_ h=>h) (λ_ _ h=>h) (λ_=>rfl)
theorem DP.below (q:DP w mb cb kb M trs au fns Xd Xi Xf Mu0 Mu H K co cc cs X nm po pc ps Xp wr k a next fk fa) (b:Below (E (U wr)) wr w'):DP w mb cb kb M trs au fns Xd Xi Xf Mu0 Mu H K co cc cs X nm po pc ps Xp w' k a next fk fa:=
 q.step (Y:=λ_=>False) (KX.al b) (λ_ h=>h.elim) (λ_ h=>h.elim) (λ_ h=>h.elim) (λh=>h) (q.c.s.below b) (lR _) (q.c.cv.below b) (λ_ h=>h) (λ_ _ h=>h) (λ_=>rfl)
theorem DC.no (q:DC w mb cb M trs au fns Xd Xi Xf Mu0 Mu H K co cc cs X wr k a next fk fa) (b:Kp (E (U wr)) mb wr w') (e:cz w' mb ((M.bu k a).bu k' a')) (f:(M.bu k a).fk≠0->k'=(M.bu k a).fk):DC w mb cb M trs au fns Xd Xi Xf Mu0 Mu H K co cc cs X w' k' a' next fk fa:=
 q.step (Y:=λc=>c=mb) (KX.cI b Q) (λc d=>d▸q.s.dG) (λc d=>by rw[d];exact cQ q.row q.s.mk' dC) (q.s.no e b) (lR _) ((b.block _ q.cv.lt (aJ q.cv q.s.mk' dC)).trans q.cv) (λ_ h=>h) (λ_ _ h=>h) f
theorem DP.no (q:DP w mb cb kb M trs au fns Xd Xi Xf Mu0 Mu H K co cc cs X nm po pc ps Xp wr k a next fk fa) (d:Kp (E (U wr)) mb wr w') (e:cz w' mb ((M.bu k a).bu k' a')) (f:(M.bu k a).fk≠0->k'=(M.bu k a).fk):DP w mb cb kb M trs au fns Xd Xi Xf Mu0 Mu H K co cc cs X nm po pc ps Xp w' k' a' next fk fa:=
 q.step (Y:=λc=>c=mb) (KX.cI d Q) (λc b=>b▸q.c.s.dG) (λc b=>by rw[b];exact cQ q.c.row q.c.s.mk' dC) (λc b=>by rw[b];exact cQ q.jU q.c.s.mk' dC) (λb=>aJ q.ie q.c.s.mk' dC b) (q.c.s.no e d) (lR _) ((d.block _ q.c.cv.lt (aJ q.c.cv q.c.s.mk' dC)).trans q.c.cv) (λ_ h=>h) (λ_ _ h=>h) f
theorem DP.kp (q:DP w mb cb kb M trs au fns Xd Xi Xf Mu0 Mu H K co cc cs X nm po pc ps Xp wr k a next fk fa) (c:Kp (E (U wr)) cb wr w') (e:bJ w' cb K 2 next' 0 fk' fa'):DP w mb cb kb M trs au fns Xd Xi Xf Mu0 Mu H K co cc cs X nm po pc ps Xp w' k a next' fk' fa':=
 q.step (Y:=λd=>d=cb) (KX.cI c Q) (λd b=>b▸q.c.mY) (λd b=>by rw[b];exact cQ q.c.row q.c.cv dC) (λd b=>by rw[b];exact cQ q.jU q.c.cv dC) (λb=>aJ q.ie q.c.cv dC b) (q.c.s.step (k:=k) (a:=a) (KX.cI c q.c.mY) ((KT.kp q.c.cv c).mono (λi f=>f.1)) ((c.block _ q.c.s.mk'.lt (aJ q.c.s.mk' q.c.cv dC)).trans q.c.s.mk')) (lR _) e (λ_ h=>h) (λ_ _ h=>h) (λ_=>rfl)
theorem DP.le (q:DP w mb cb kb M trs au fns Xd Xi Xf Mu0 Mu H K co cc cs X nm po pc ps Xp wr k a next fk fa) (b:H<=H2):DP w mb cb kb M trs au fns Xd Xi Xf Mu0 Mu H2 K co cc cs X nm po pc ps Xp wr k a next fk fa:=
 q.step (Y:=λ_=>False) (KX.refl _ _ _) (λ_ h=>h.elim) (λ_ h=>h.elim) (λ_ h=>h.elim) (λh=>h) (q.c.s.le b) b q.c.cv (λ_ h=>h) (λ_ _ h=>h) (λ_=>rfl)
theorem DC.var (q:DC w mb cb M trs au fns Xd Xi Xf Mu0 Mu H K co cc cs X wr k a next fk fa) (nm:ByteArray):DP w mb cb (E (U wr)) M trs au fns Xd Xi Xf Mu0 (λb=>Mu b\/b=E (U wr)) H K co cc cs X nm I 0 [] 0 (wr.alloc (Ob #[.string nm,J I 0 0] 95)) k a next fk fa:=by
 obtain⟨e,j⟩:=al1 wr (Ob #[.string nm,J I 0 0] 95);have o:E (U (wr.alloc (Ob #[.string nm,J I 0 0] 95)))=E (U wr)+1:=sQ;have l:=q.s.mlt;have i:∀b,b<E (U wr)->(Mu b\/b=E (U wr))->Mu b:=λb c d=>by rcases d with d|d;exact d;omega
 exact⟨q.step (Y:=λ_=>False) (KX.al e) (λ_ h=>h.elim) (λ_ h=>h.elim) (q.s.grow e (λb c=>.inl c) (λb c=>by rcases c with c|c;(have:=l b c;omega);omega) i) (lR _) (q.cv.below e) (λb c=>.inl c) i (λ_=>rfl),j,.inr Q,λf=>oH (q.row.lt _ f).2,q.kx.size,World.ownsRow_nil _ _ _ _,λb f=>by simp[Value.ownBlock] at f,λp m=>by simp at m,λr=>by simp⟩
theorem DP.push (q:DP w mb cb kb M trs au fns Xd Xi Xf Mu0 Mu H K co cc cs X nm po pc ps Xp wr k a next fk fa) {p:Pt} (F:dZ (λb=>¬Mu b) (O M.ds) H wr p.c) {x:Nat} (ab:∀f,bW f wr p.ty<=x) {cl:Array Value} (ac:cl.toList=p.c) (ae:cl.size=6) (one:∀u∈cl.toList,u.oneCell'=true) (G:O ps<=20000) (L:TypeId) {ad:Nat} (af:ad=E (U wr)):
 ∃y w',(Builtin.append_ #[93,93] L #[J po (O ps) pc,J (aS ad) 1 1]).run Tryz.prog (wr.alloc (Ob cl 97))=.ok y w'/\∃d e Mu2,y=J d (O ps+1) e/\w'.heap[kb]? =some (Ob #[.string nm,J po (O ps) pc] 95 (0,0))/\KT (λj=>j≠97) wr w'/\KX Mu (E (U wr)) wr w'/\KX Mu (E (U wr)) wr (w'.setCell ⟨kb,1,I⟩ (J d (O ps+1) e))/\KT (λj=>j≠97/\j≠95) wr (w'.setCell ⟨kb,1,I⟩ (J d (O ps+1) e))/\(∀b,Mu b->Mu2 b)/\(∀b,b<E (U wr)->Mu2 b->Mu b)/\DP w mb cb kb M trs au fns Xd Xi Xf Mu0 Mu2 H K co cc cs X nm d e (ps++[p]) (Xp+x) (w'.setCell ⟨kb,1,I⟩ (J d (O ps+1) e)) k a next fk fa:=by
 have ah:=q.c.kx.size;obtain⟨y,w',ai,i⟩:=fj (W:=wr) Tryz.underlying93 xM Q dC q.jU ah cl ae one (by unfold maxLen;omega) oM L af;obtain⟨d,e,rfl⟩:=i.shape;have z:=App.kt q.jU i;have A:=aw z q.ie dC;have N:=KT.set A 1 (J d (O ps+1) e);have t:KT (λj=>j≠97/\j≠95) wr (w'.setCell ⟨kb,1,I⟩ (J d (O ps+1) e)):=(z.mono (λj B=>B.1)).trans (N.mono (λj B=>B.2));have aj:E (U wr)<=E (U w'):=lT sQ i.grown.size;have P:KX (λb=>(Value.slice po (O ps) pc).ownBlock=some b\/b=kb) (E (U wr)) wr w':=⟨i.grown.os,i.grown.tape,i.grown.output,aj,λb c G=>(i.grown.block b (by simp;omega) (λl=>G (.inl l.symm))).trans (Below.heap_alloc _ _ _ c)⟩;have R:KX (λb=>(Value.slice po (O ps) pc).ownBlock=some b\/b=kb) (E (U wr)) wr (w'.setCell ⟨kb,1,I⟩ (J d (O ps+1) e)):=P.setCell (p:=⟨kb,1,I⟩) (.inr (.inr Q)) _;have C:∀b,((Value.slice po (O ps) pc).ownBlock=some b\/b=kb)->Mu b:=λb c=>by rcases c with c|c;exact q.uR b c;rw[c];exact q.qY
 have ak:KX Mu (E (U wr)) wr w':=P.mono (λb _ c=>C b c) (lR _);have m:KX Mu (E (U wr)) wr (w'.setCell ⟨kb,1,I⟩ (J d (O ps+1) e)):=R.mono (λb _ c=>C b c) (lR _)
 have al:∀b,(Value.slice d (O ps+1) e).ownBlock=some b->b<E (U wr)->Mu b:=λb c o=>by
  rcases i.own with l|l
  ·exact q.uR b (by rw[<-l];exact c)
  ·rw[l] at c;simp at c;omega
 have v:∀b,b<E (U wr)->(Mu b\/(Value.slice d (O ps+1) e).ownBlock=some b)->Mu b:=λb o c=>by rcases c with c|c;exact c;exact al b c o
 have ao:E (U (w'.setCell ⟨kb,1,I⟩ (J d (O ps+1) e)))=E (U w'):=sQ
 have ap:∀b,(Mu b\/(Value.slice d (O ps+1) e).ownBlock=some b)->b<E (U (w'.setCell ⟨kb,1,I⟩ (J d (O ps+1) e))):=λb c=>by
  rw[ao];rcases c with c|c
  ·have:=q.c.s.mlt b c;omega
  ·exact(i.row.lt b c).2
 have ar:MS (w'.setCell ⟨kb,1,I⟩ (J d (O ps+1) e)) mb (M.bu k a) trs au fns Xd Xi Xf (λb=>Mu b\/(Value.slice d (O ps+1) e).ownBlock=some b) H:=q.c.s.move (k:=k) (a:=a) m t dC (aw t q.c.s.mk' dC) (λb c=>.inl c) ap v;have av:aq (λb=>¬Mu b/\b<E (U wr)) wr (w'.setCell ⟨kb,1,I⟩ (J d (O ps+1) e)):=λb c o=>m.block b o c.1;have S:aq (λb=>¬Mu b) wr (w'.setCell ⟨kb,1,I⟩ (J d (O ps+1) e)):=λb c o=>m.block b o c;have D:O (ps++[p])=O ps+1:=sQ;have T:∀r:Pt,dZ (λb=>¬Mu b) (O M.ds) H wr r.c->dZ (λb=>¬(Mu b\/(Value.slice d (O ps+1) e).ownBlock=some b)) (O M.ds) H (w'.setCell ⟨kb,1,I⟩ (J d (O ps+1) e)) r.c:=λr h=>((((h.weaken (λb V Z=>(⟨V,Z⟩:¬Mu b/\b<E (U wr)))).frame av m.size).1).weaken (λb c _ ax=>c.1 (v b c.2 ax)));refine⟨_,w',ai,d,e,λb=>Mu b\/(Value.slice d (O ps+1) e).ownBlock=some b,Q,A,z,ak,m,t,λb c=>.inl c,v,⟨q.c.step R C (λb c=>?_) ar (lR _) (aw t q.c.cv dC) (λb c=>.inl c) v (λ_=>rfl),?_,.inl q.qY,q.yC,q.qZ,?_,λb c=>?_,λr s=>?_,λf=>?_⟩⟩
 ·rcases c with c|c
  ·obtain⟨aA,ay⟩:=aY q.jU c;exact cQ q.c.row ay dC
  ·rw[c];exact q.yC
 ·have:=heap_setCell_same w' kb 1 _ 95 (J d (O ps+1) e) A;rw[D];exact this
 ·rw[D,List.map_append,List.flatten_append];have aa:=ag i.row N dC;rw[ac] at aa;simpa using aa
 ·rw[D] at c;exact .inr c
 ·rcases List.mem_append.1 s with s|s
  ·exact T r (q.pt r s)
  ·rw[List.mem_singleton.1 s];exact T _ F
 ·rw[List.map_append,List.sum_append,gZ q.pt S m.size f];have V:=q.yv f
  have Z:bW f (w'.setCell ⟨kb,1,I⟩ (J d (O ps+1) e)) p.ty<=x:=by
   have l:=(F.frame S m.size).2 f;have az:bW f (w'.setCell ⟨kb,1,I⟩ (J d (O ps+1) e)) p.ty=bW f wr p.ty:=l;rw[az];exact ab f
  simp;omega
end
end
section
variable{x:List Value} {D H ad:Nat} {S:Nat->Prop} {w:World}
theorem zd:(Tryz.prog.info? 69).map (λa=>(a.zero,a.size,a.bytes))=some (some (.agg #[.string ⟨#[]⟩,zI,zI,.bool false,.bool false,.bool false,zI,zI,zS,zI]),10,88):=by kernel_rfl
theorem xL:(Tryz.prog.info? 74).map (λa=>(a.zero,a.size,a.bytes))=some (some (.agg (jr ⟨#[]⟩ 0 0 false I 0 0)),5,64):=by kernel_rfl
theorem xN:(Tryz.prog.info? 102).map (λa=>(a.zero,a.size,a.bytes))=some (some (.agg #[.string ⟨#[]⟩,zS,zI]),3,48):=by kernel_rfl
theorem af.imp {G c:Int->Int->Nat->Nat->Prop} (d:∀k n a b,G k n a b->c k n a b):(h:Nat)->(cs:List Value)->af S G h w cs->af S c h w cs
 |0,_,hn=>absurd hn (λx=>x)
 |h+1,_,⟨kind,n,lv,av,ls,vs,h1,h2,h3,h4,h5,h6,h7⟩=>⟨kind,n,lv,av,ls,vs,h1,h2,h3,h4,h5,d _ _ _ _ h6,λx e=>af.imp d h x (h7 x e)⟩
theorem Gd.up (k n:Int) (a b:Nat) (h:Gd D k n a b):Gd (D+1) k n a b:=⟨h.1,λc=>⟨(h.2.1 c).1,oH (h.2.1 c).2⟩,h.2.2⟩
theorem dZ.up (h:dZ S D H w x):dZ S (D+1) H w x:=by
 obtain⟨a,b,c,d,e,f,i,j,k,l,m,n⟩:=h;exact⟨a,b,c,d,e,f,i,j,k,l,m,af.imp Gd.up _ _ n⟩
theorem fT.up (h:fT S D H w x):fT S (D+1) H w x:=by
 obtain⟨a,b,c,d,e,f,i,j,k,l,m,n,o,p,q,r,s,t,u,v,y,z,A,B⟩:=h;exact⟨a,b,c,d,e,f,i,j,k,l,m,n,o,p,q,r,s,t,u,v,y,λC F=>af.imp Gd.up _ _ (z C F),af.imp Gd.up _ _ A,B⟩
theorem iZ.up (h:iZ S D H w x):iZ S (D+1) H w x:=by
 obtain⟨a,b,c,d,e,f,i,j,k,l,m⟩:=h;exact⟨a,b,c,d,e,f,i,j,k,λn o=>(l n o).up,m⟩
theorem eG.up {X:Nat} {d:Dd} (h:eG S D H X w d):eG S (D+1) H X w d:=⟨h.row,λa b=>⟨(h.parts a b).1,(h.parts a b).2.1,λc e=>((h.parts a b).2.2 c e).up⟩,h.len,h.sz⟩
section
variable{w w':World} {mb:Nat} {M:MK} {trs:VV} {Xd Xi Xf:Nat} {Mu Mu':Nat->Prop} {H H':Nat}
theorem MS.ym (h:MS w mb M trs [] [] Xd Xi Xf Mu H) {d:Dd} (ak:d.ao=I) (t:d.cs=[]) (N:d.ai=0/\d.cF=0) (al:d.cp=0) {cl:Array Value} (ao:cl.toList=d.c) (ap:cl.size=10) (one:∀u∈cl.toList,u.oneCell'=true) (P:O M.ds<=199999) (R:TypeId) (ar:ad=E (U w)):
 ∃A w',(Builtin.append_ #[23,23] R #[J M.df (O M.ds) M.eo,J (aS ad) 1 1]).run Tryz.prog (w.alloc (Ob cl 69))=.ok A w'/\∃c e Mu',A=J c (O M.ds+1) e/\cz w' mb M/\KT (λi=>i≠69) w w'/\KX Mu (E (U w)) w w'/\KX Mu (E (U w)) w (w'.setCell ⟨mb,1,I⟩ (J c (O M.ds+1) e))/\(∀a,Mu a->Mu' a)/\(∀a,a<E (U w)->Mu' a->Mu a)/\KT (λi=>i≠69/\i≠66) w (w'.setCell ⟨mb,1,I⟩ (J c (O M.ds+1) e))/\MS (w'.setCell ⟨mb,1,I⟩ (J c (O M.ds+1) e)) mb {M with df:=c,eo:=e,ds:=M.ds++[d]} trs [] [] Xd Xi Xf Mu' H:=by
 have m:=h.pi;have aF:=h.mk'.lt;obtain⟨A,w',au,j⟩:=fj (W:=w) Tryz.underlying23 zd Q dC m.cd (zL _) cl ap one (by unfold maxLen;omega) oM R ar;obtain⟨c,e,rfl⟩:=j.shape;have B:=App.kt m.cd j;have C:=aw B h.mk' dC;have T:=KT.set C 1 (J c (O M.ds+1) e);have q:KT (λi=>i≠69/\i≠66) w (w'.setCell ⟨mb,1,I⟩ (J c (O M.ds+1) e)):=(B.mono (λi F=>F.1)).trans (T.mono (λi F=>F.2));have V:E (U w)<=E (U w'):=lT sQ j.grown.size;have X:E (U w)<=E (U (w'.setCell ⟨mb,1,I⟩ (J c (O M.ds+1) e))):=sU V;have Y:=j.row;have Z:KX Mu (E (U w)) w w':=⟨j.grown.os,j.grown.tape,j.grown.output,V,λa b P=>(j.grown.block a (by simp;omega) (λf=>P (h.js a f.symm))).trans (Below.heap_alloc _ _ _ b)⟩;have aa:KX Mu (E (U w)) w (w'.setCell ⟨mb,1,I⟩ (J c (O M.ds+1) e)):=Z.setCell (p:=⟨mb,1,I⟩) (.inr h.dG) _;have ab:aq (λa=>¬Mu a/\a<E (U w)) w (w'.setCell ⟨mb,1,I⟩ (J c (O M.ds+1) e)):=λa b v=>aa.block a v b.1
 have ac:∀a,(Value.slice c (O M.ds+1) e).ownBlock=some a->a<E (U w)->Mu a:=λa b v=>by
  rcases j.own with f|f
  ·exact h.js a (by rw[<-f];exact b)
  ·rw[f] at b;simp at b;omega
 have ae:∀a,¬Mu a->a<E (U w)->(¬Mu a/\a<E (U w)):=λa r av=>⟨r,av⟩
 have af:∀a,(¬Mu a/\a<E (U w))->a<E (U (w'.setCell ⟨mb,1,I⟩ (J c (O M.ds+1) e)))->¬(Mu a\/(Value.slice c (O M.ds+1) e).ownBlock=some a):=λa b _ k=>by
  rcases k with k|k
  ·exact b.1 k
  ·exact b.1 (ac a k b.2)
 have l:O (M.ds++[d])=O M.ds+1:=sQ;obtain⟨ax,ay,az,aA⟩:=h.jR;refine⟨_,w',au,c,e,λa=>Mu a\/(Value.slice c (O M.ds+1) e).ownBlock=some a,Q,C,B,Z,aa,λa b=>.inl b,λa v b=>by rcases b with b|b;exact b;exact ac a b v,q,⟨⟨?_,m.cE.kt q dC dC,?_,?_,?_,?_⟩,ag h.tr q dC,ag h.im q dC,ag h.fn q dC,.inl h.dG,?_,λa f=>.inl (h.ly a f),λG k a f=>.inl (h.jL G k a f),?_,λa f=>.inl (h.jW a f),λa f=>.inl (h.lK a f),λa f=>.inl (h.lV a f),⟨ax++[0],?_,?_,?_⟩,?_,?_,?_⟩⟩
 ·have:=heap_setCell_same w' mb 1 _ 66 (J c (O M.ds+1) e) C;unfold cz at*;rw[this];simp[l]
 ·intro G k s y;have K:=m.q G k s y;show NQ (O (M.ds++[d])) (O trs) s;rw[l];exact⟨K.1,λf=>oH (K.2.1 f),K.2.2⟩
 ·show(w'.setCell _ _).ownsRow 0 69 10 (J c (O (M.ds++[d])) e) (O (M.ds++[d])) ((M.ds++[d]).map Dd.c).flatten;rw[l,List.map_append,List.flatten_append];have ah:=ag Y T dC;rw[ao] at ah;simpa using ah
 ·have:=m.bj;show 1<=O (M.ds++[d])/\O (M.ds++[d])<=200000/\4<=O trs;rw[l];omega
 ·intro n L;rcases List.mem_append.1 L with r|r
  ·exact m.lg n r
  ·rw[List.mem_singleton.1 r,N.1,N.2];omega
 ·intro a b;rcases b with b|b
  ·have:=h.mlt a b;omega
  ·have:=(Y.lt a b).2;simpa using this
 ·intro a b;have ai:(Value.slice c (O (M.ds++[d])) e).ownBlock=some a:=b;rw[l] at ai;exact .inr ai
 ·rw[List.length_append,ay];show _=O (M.ds++[d]);rw[l];rfl
 ·rw[List.sum_append];simpa using az
 ·intro z n s L y;have o:(M.ds++[d])[z]? =some n:=L;show eG _ (O (M.ds++[d])) H s _ n;rw[l];by_cases aB:z<O M.ds
  ·rw[List.getElem?_append_left aB] at o;rw[List.getElem?_append_left oM] at y;exact((((aA z n s o y).weaken ae).frame ab X).weaken af).up
  ·rw[List.getElem?_append_right oM] at o;obtain⟨aC,-⟩:=gS o;have aD:z=O M.ds:=by simp at aC;omega
   subst aD;rw[Nat.sub_self] at o;obtain rfl:d=n:=sU o;refine⟨?_,λaG aj=>?_,?_,λaH=>?_⟩
   ·rw[ak,t,al];exact ro.bH (World.ownsRow_nil _ 0 0 2) (λa f=>by simp[Value.ownBlock] at f)
   ·rw[t] at aj;simp at aj
   ·rw[t];simp
   ·rw[t];simp
 ·intro x aE;show iZ _ (O (M.ds++[d])) H _ x;rw[l];exact((((h.jo x aE).weaken ae).frame ab X).weaken af).up
 ·exact Sm.nil.mono (zL _)
 ·exact Sm.nil.mono (zL _)
theorem MS.ua (h:MS w mb M trs [] [] Xd Xi Xf Mu H) {L:OA} {N:Nat} (v:M.tv=J L (O trs) N) (l:ByteArray) (mod m:Int) (n:Bool) (P:O trs<=199999) (R:TypeId) (ah:ad=E (U w)):
 ∃y w',(Builtin.append_ #[24,24] R #[J L (O trs) N,J (aS ad) 1 1]).run Tryz.prog (w.alloc (Ob (jr l mod m n I 0 0) 74))=.ok y w'/\∃d e Mu',y=J d (O trs+1) e/\cz w' mb M/\KT (λf=>f≠74) w w'/\KX Mu (E (U w)) w w'/\KX Mu (E (U w)) w (w'.setCell ⟨mb,2,I⟩ (J d (O trs+1) e))/\(∀a,Mu a->Mu' a)/\(∀a,a<E (U w)->Mu' a->Mu a)/\KT (λf=>f≠74/\f≠66) w (w'.setCell ⟨mb,2,I⟩ (J d (O trs+1) e))/\MS (w'.setCell ⟨mb,2,I⟩ (J d (O trs+1) e)) mb {M with tv:=J d (O trs+1) e} (trs++[(jr l mod m n I 0 0).toList]) [] [] Xd Xi Xf Mu' H:=by
 have o:=h.pi;have aA:=h.mk'.lt;have z:=h.tr;rw[v] at z;obtain⟨y,w',ai,i⟩:=fj (W:=w) Tryz.underlying24 xL Q dC z (zL _) (jr l mod m n I 0 0) Q (by intro aB k;simp at k;repeat(first|(subst k;rfl)|(rcases k with k|k;(subst k;rfl)))) (by unfold maxLen;omega) oM R ah;obtain⟨d,e,rfl⟩:=i.shape;have A:=App.kt z i;have B:=aw A h.mk' dC;have T:=KT.set B 2 (J d (O trs+1) e);have q:KT (λf=>f≠74/\f≠66) w (w'.setCell ⟨mb,2,I⟩ (J d (O trs+1) e)):=(A.mono (λf C=>C.1)).trans (T.mono (λf C=>C.2));have V:E (U w)<=E (U w'):=lT sQ i.grown.size;have X:E (U w)<=E (U (w'.setCell ⟨mb,2,I⟩ (J d (O trs+1) e))):=sU V;have Y:=i.row;have Z:KX Mu (E (U w)) w w':=⟨i.grown.os,i.grown.tape,i.grown.output,V,λa b P=>(i.grown.block a (by simp;omega) (λc=>P (h.jW a (by rw[v];exact c.symm)))).trans (Below.heap_alloc _ _ _ b)⟩;have aa:KX Mu (E (U w)) w (w'.setCell ⟨mb,2,I⟩ (J d (O trs+1) e)):=Z.setCell (p:=⟨mb,2,I⟩) (.inr h.dG) _;have ab:aq (λa=>¬Mu a/\a<E (U w)) w (w'.setCell ⟨mb,2,I⟩ (J d (O trs+1) e)):=λa b t=>aa.block a t b.1
 have ac:∀a,(Value.slice d (O trs+1) e).ownBlock=some a->a<E (U w)->Mu a:=λa b t=>by
  rcases i.own with c|c
  ·exact h.jW a (by rw[v,<-c];exact b)
  ·rw[c] at b;simp at b;omega
 have ae:∀a,¬Mu a->a<E (U w)->(¬Mu a/\a<E (U w)):=λa aj ak=>⟨aj,ak⟩
 have af:∀a,(¬Mu a/\a<E (U w))->a<E (U (w'.setCell ⟨mb,2,I⟩ (J d (O trs+1) e)))->¬(Mu a\/(Value.slice d (O trs+1) e).ownBlock=some a):=λa b _ j=>by
  rcases j with j|j
  ·exact b.1 j
  ·exact b.1 (ac a j b.2)
 have al:∀a,(Mu a\/(Value.slice d (O trs+1) e).ownBlock=some a)->a<E (U (w'.setCell ⟨mb,2,I⟩ (J d (O trs+1) e))):=λa b=>by
  rcases b with b|b
  ·have:=h.mlt a b;omega
  ·have:=(Y.lt a b).2;simpa using this
 obtain⟨ao,ap,ar,au⟩:=h.jR;have F:O (trs++[(jr l mod m n I 0 0).toList])=O trs+1:=sQ;refine⟨_,w',ai,d,e,λa=>Mu a\/(Value.slice d (O trs+1) e).ownBlock=some a,Q,B,A,Z,aa,λa b=>.inl b,λa t b=>by rcases b with b|b;exact b;exact ac a b t,q,⟨⟨?_,o.cE.kt q dC dC,?_,ag o.cd q dC,?_,o.lg⟩,?_,ag h.im q dC,ag h.fn q dC,.inl h.dG,al,λa c=>.inl (h.ly a c),λG j a c=>.inl (h.jL G j a c),λa c=>.inl (h.js a c),λa c=>.inr c,λa c=>.inl (h.lK a c),λa c=>.inl (h.lV a c),⟨ao,ap,ar,λav ax u ay r=>(((au av ax u ay r).weaken ae).frame ab X).weaken af⟩,?_,Sm.nil.mono (zL _),Sm.nil.mono (zL _)⟩⟩
 ·have:=heap_setCell_same w' mb 2 _ 66 (J d (O trs+1) e) B;simpa using this
 ·intro G j u r;have K:=o.q G j u r;rw[F];exact⟨K.1,K.2.1,λc=>oH (K.2.2 c)⟩
 ·have:=o.bj;rw[F];exact⟨this.1,this.2.1,oM⟩
 ·rw[F,List.flatten_append];have az:=ag Y T dC;simpa using az
 ·intro x s;rcases List.mem_append.1 s with s|s
  ·exact(((h.jo x s).weaken ae).frame ab X).weaken af
  ·rw[List.mem_singleton.1 s];exact⟨l,mod,m,n,I,0,[],Q,ro.bH (World.ownsRow_nil _ 0 0 9) (λa c=>by simp[Value.ownBlock] at c),λu r=>by simp at r,zL _⟩
theorem MS.yj (h:MS w mb M trs [] [] Xd Xi Xf Mu H) {md:Md} (Y:w.ownsRow 0 104 4 (J md.ao (O md.ns) md.cp) (O md.ns) (md.ns.map Nm.c).flatten) (Z:∀b,(Value.slice md.ao (O md.ns) md.cp).ownBlock=some b->Mu b) (aa:md.own<=O md.ns/\O md.ns<=30000) (ab:∀n∈md.ns,NQ (O M.ds) (O trs) n) (s:O M.ms<=19999) (B:TypeId) (ac:ad=E (U w)):
 ∃v w',(Builtin.append_ #[22,22] B #[J M.mo (O M.ms) M.mc,J (aS ad) 1 1]).run Tryz.prog (w.alloc (Ob #[.string md.name,J md.ao (O md.ns) md.cp,vN md.own] 102))=.ok v w'/\∃c d Mu',v=J c (O M.ms+1) d/\cz w' mb M/\KT (λk=>k≠102) w w'/\KX Mu (E (U w)) w w'/\KX Mu (E (U w)) w (w'.setCell ⟨mb,0,I⟩ (J c (O M.ms+1) d))/\(∀b,Mu b->Mu' b)/\(∀b,b<E (U w)->Mu' b->Mu b)/\KT (λk=>k≠102/\k≠66) w (w'.setCell ⟨mb,0,I⟩ (J c (O M.ms+1) d))/\MS (w'.setCell ⟨mb,0,I⟩ (J c (O M.ms+1) d)) mb {M with mo:=c,mc:=d,ms:=M.ms++[md]} trs [] [] Xd Xi Xf Mu' H/\(∀b,b<E (U w)->(Value.slice M.mo (O M.ms) M.mc).ownBlock≠some b->w'.heap[b]? =w.heap[b]?):=by
 have l:=h.pi;have ax:=h.mk'.lt;obtain⟨v,w',ae,j⟩:=fj (W:=w) Tryz.underlying22 xN Q dC l.cE.row (zL _) #[.string md.name,J md.ao (O md.ns) md.cp,vN md.own] rfl (by intro ay o;simp at o;repeat(first|(subst o;rfl)|(rcases o with o|o;(subst o;rfl)))) (by unfold maxLen;omega) oM B ac;obtain⟨c,d,rfl⟩:=j.shape;have y:=App.kt l.cE.row j;have z:=aw y h.mk' dC;have C:=KT.set z 0 (J c (O M.ms+1) d);have m:KT (λk=>k≠102/\k≠66) w (w'.setCell ⟨mb,0,I⟩ (J c (O M.ms+1) d)):=(y.mono (λk A=>A.1)).trans (C.mono (λk A=>A.2));have F:E (U w)<=E (U w'):=lT sQ j.grown.size;have G:E (U w)<=E (U (w'.setCell ⟨mb,0,I⟩ (J c (O M.ms+1) d))):=sU F;have K:=j.row;have L:KX Mu (E (U w)) w w':=⟨j.grown.os,j.grown.tape,j.grown.output,F,λb a s=>(j.grown.block b (by simp;omega) (λe=>s (h.ly b (id e.symm)))).trans (Below.heap_alloc _ _ _ a)⟩;have N:KX Mu (E (U w)) w (w'.setCell ⟨mb,0,I⟩ (J c (O M.ms+1) d)):=L.setCell (p:=⟨mb,0,I⟩) (.inr h.dG) _;have P:aq (λb=>¬Mu b/\b<E (U w)) w (w'.setCell ⟨mb,0,I⟩ (J c (O M.ms+1) d)):=λb a t=>N.block b t a.1
 have R:∀b,(Value.slice c (O M.ms+1) d).ownBlock=some b->b<E (U w)->Mu b:=λb a t=>by
  rcases j.own with e|e
  ·exact h.ly b (id (by rw[<-e];exact a))
  ·rw[e] at a;simp at a;omega
 have T:∀b,¬Mu b->b<E (U w)->(¬Mu b/\b<E (U w)):=λb f af=>⟨f,af⟩
 have V:∀b,(¬Mu b/\b<E (U w))->b<E (U (w'.setCell ⟨mb,0,I⟩ (J c (O M.ms+1) d)))->¬(Mu b\/(Value.slice c (O M.ms+1) d).ownBlock=some b):=λb a _ i=>by
  rcases i with i|i
  ·exact a.1 i
  ·exact a.1 (R b i a.2)
 have ah:∀b,(Mu b\/(Value.slice c (O M.ms+1) d).ownBlock=some b)->b<E (U (w'.setCell ⟨mb,0,I⟩ (J c (O M.ms+1) d))):=λb a=>by
  rcases a with a|a
  ·have:=h.mlt b a;omega
  ·have:=(K.lt b a).2;simpa using this
 obtain⟨ai,aj,ak,al⟩:=h.jR;have u:O (M.ms++[md])=O M.ms+1:=sQ;refine⟨_,w',ae,c,d,λb=>Mu b\/(Value.slice c (O M.ms+1) d).ownBlock=some b,Q,z,y,L,N,λb a=>.inl a,λb t a=>by rcases a with a|a;exact a;exact R b a t,m,⟨⟨?_,⟨?_,?_,?_⟩,?_,ag l.cd m dC,l.bj,l.lg⟩,ag h.tr m dC,ag h.im m dC,ag h.fn m dC,.inl h.dG,ah,?_,?_,λb e=>.inl (h.js b e),λb e=>.inl (h.jW b e),λb e=>.inl (h.lK b e),λb e=>.inl (h.lV b e),⟨ai,aj,ak,λao ap n ar r=>(((al ao ap n ar r).weaken T).frame P G).weaken V⟩,λx au=>(((h.jo x au).weaken T).frame P G).weaken V,Sm.nil.mono (zL _),Sm.nil.mono (zL _)⟩,λb a s=>(j.grown.block b (by simp;omega) (λe=>s e.symm)).trans (Below.heap_alloc _ _ _ a)⟩
 ·have:=heap_setCell_same w' mb 0 _ 66 (J c (O M.ms+1) d) z;unfold cz at*;rw[this];simp[u]
 ·show(w'.setCell _ _).ownsRow 0 102 3 (J c (O (M.ms++[md])) d) (O (M.ms++[md])) ((M.ms++[md]).map Md.c).flatten;rw[u,List.map_append,List.flatten_append];have av:=ag K C dC;simpa[Md.c] using av
 ·show(M.ms++[md]).length<=20000;rw[u];omega
 ·intro q i;rcases List.mem_append.1 i with f|f
  ·exact⟨ag (l.cE.names q f).1 m dC,(l.cE.names q f).2⟩
  ·rw[List.mem_singleton.1 f];exact⟨ag Y m dC,aa⟩
 ·intro q i n r;rcases List.mem_append.1 i with f|f
  ·exact l.q q f n r
  ·rw[List.mem_singleton.1 f] at r;exact ab n r
 ·intro b a;have X:(Value.slice c (O (M.ms++[md])) d).ownBlock=some b:=a;rw[u] at X;exact .inr X
 ·intro q i b a;rcases List.mem_append.1 i with f|f
  ·exact .inl (h.jL q f b a)
  ·rw[List.mem_singleton.1 f] at a;exact .inl (Z b a)
end
end
section
variable{X2:Nat}
section
variable{w w0 wr w':World} {mb cb kb:Nat} {M:MK} {trs au fns trs0 ims0 fns0:VV} {Xd Xi Xf Xd0 Xi0 Xf0:Nat} {Mu0 Mu Mu2:Nat->Prop} {H H0 H2:Nat} {K:CK} {co:OA} {cc:Nat} {cs:List Cs} {X:Nat} {nm:ByteArray} {po:OA} {pc:Nat} {ps:List Pt} {Xp:Nat} {k a next fk fa k' a' next' fk' fa':Int}
theorem DP.done (q:DP w mb cb kb M trs au fns Xd Xi Xf Mu0 Mu H K co cc cs X nm po pc ps Xp wr k a next fk fa) (S:MS w0 mb M trs0 ims0 fns0 Xd0 Xi0 Xf0 Mu0 H0) (T:∀b,Mu0 b->b<E (U w)) (V:O ps<=30000) (G:O cs<=20000) (L:TypeId) {ad:Nat} (Y:ad=E (U wr)):
 ∃u w',(Builtin.append_ #[67,67] L #[J co (O cs) cc,J (aS ad) 1 1]).run Tryz.prog (wr.alloc (Ob #[.string nm,J po (O ps) pc] 95))=.ok u w'/\∃i j Mu2,u=J i (O (cs++[(⟨nm,po,pc,ps⟩:Cs)])) j/\DC w mb cb M trs au fns Xd Xi Xf Mu0 Mu2 H K i j (cs++[(⟨nm,po,pc,ps⟩:Cs)]) (X+Xp) w' k a next fk fa:=by
 have N:=q.c.kx.size;obtain⟨u,w',Z,d⟩:=fj (W:=wr) Tryz.underlying67 xP Q dC q.c.row N #[.string nm,J po (O ps) pc] rfl (by intro ak n;simp at n;rcases n with n|n<;>(subst n;rfl)) (by unfold maxLen;omega) oM L Y;obtain⟨i,j,rfl⟩:=d.shape;have o:=App.kt q.c.row d;have m:E (U wr)<=E (U w'):=lT sQ d.grown.size;have t:KX Mu (E (U wr)) wr w':=⟨d.grown.os,d.grown.tape,d.grown.output,m,λb c G=>(d.grown.block b (by simp;omega) (λe=>G (q.c.own b e.symm))).trans (Below.heap_alloc _ _ _ c)⟩
 have aa:∀b,(Value.slice i (O cs+1) j).ownBlock=some b->b<E (U wr)->Mu b:=λb c f=>by
  rcases d.own with e|e
  ·exact q.c.own b (by rw[<-e];exact c)
  ·rw[e] at c;simp at c;omega
 have v:∀b,b<E (U wr)->(Mu b\/(Value.slice i (O cs+1) j).ownBlock=some b)->Mu b:=λb f c=>by rcases c with c|c;exact c;exact aa b c f
 have ab:MS w' mb (M.bu k a) trs au fns Xd Xi Xf (λb=>Mu b\/(Value.slice i (O cs+1) j).ownBlock=some b) H:=q.c.s.move (k:=k) (a:=a) t o dC (aw o q.c.s.mk' dC) (λb c=>.inl c) (λb c=>by
  rcases c with c|c
  ·have:=q.c.s.mlt b c;omega
  ·exact(d.row.lt b c).2) v
 have P:∀b,Mu0 b->(Value.slice po (O ps) pc).ownBlock≠some b:=λb c e=>by
  have x:=(q.jU.lt b e).1;have y:=T b c;omega
 have ac:MS w' mb (M.bu k a) trs au fns Xd Xi Xf (λb=>(Mu b\/(Value.slice i (O cs+1) j).ownBlock=some b)/\(Value.slice po (O ps) pc).ownBlock≠some b) H:=ab.shrink S (λb c=>⟨.inl (q.c.m1 b c),P b c⟩) (λb c=>c.1);have z:aq (λb=>¬Mu b/\b<E (U wr)) wr w':=λb c f=>t.block b f c.1;have R:aq (λb=>¬Mu b) wr w':=λb c f=>t.block b f c;have A:∀b,¬Mu b->b<E (U wr)->(¬Mu b/\b<E (U wr)):=λb x y=>⟨x,y⟩;have B:∀b,(¬Mu b/\b<E (U wr))->b<E (U w')->¬((Mu b\/(Value.slice i (O cs+1) j).ownBlock=some b)/\(Value.slice po (O ps) pc).ownBlock≠some b):=λb c _ C=>c.1 (v b c.2 C.1);have D:O (cs++[(⟨nm,po,pc,ps⟩:Cs)])=O cs+1:=sQ;refine⟨_,w',Z,i,j,_,by rw[D],⟨ac,aw o q.c.cv dC,⟨.inl q.c.mY,cQ q.jU q.c.cv dC⟩,?_,λb c=>?_,λp l=>?_,λr=>?_,?_,q.c.m0,λb c=>⟨.inl (q.c.m1 b c),P b c⟩,λb f c=>q.c.m2 b f (v b oM c.1),q.c.hf⟩⟩
 ·rw[D,List.map_append,List.flatten_append];have ae:=d.row;simpa[Cs.c] using ae
 ·rw[D] at c;refine⟨.inr c,λe=>?_⟩;obtain⟨al,af⟩:=aY (ag q.jU o dC) e;exact cQ d.row af dC c
 ·rcases List.mem_append.1 l with l|l
  ·obtain⟨ah,ai,aj⟩:=q.c.ct p l;exact⟨((ah.weaken A).frame z m).weaken B,ai,λs F=>((((aj s F).weaken A).frame z m).1).weaken B⟩
  ·obtain rfl:=List.mem_singleton.1 l;exact⟨ro.bH (ag q.jU o dC) (λb e C=>C.2 e),V,λs F=>((((q.pt s F).weaken A).frame z m).1).weaken B⟩
 ·rw[List.map_append,List.sum_append,List.map_congr_left (g:=λp=>(p.ps.map (λs=>bW r wr s.ty)).sum) (λp l=>gZ (q.c.ct p l).2.2 R m r)];have x:=q.c.sz r;have y:=q.yv r;have ao:=gZ q.pt R m r;simp only[List.map_cons,List.map_nil,List.sum_cons,List.sum_nil];omega
 ·exact q.c.kx.trans (t.mono (λb f c=>q.c.m2 b f c) N)
theorem DC.fin (q:DC w mb cb M trs au fns Xd Xi Xf Mu0 Mu H K co cc cs X wr k a next fk fa) (f:MS w0 mb M trs0 ims0 fns0 Xd0 Xi0 Xf0 Mu0 H0) (i:∀b,Mu0 b->b<E (U w)) (j:O cs<=30000) (d:Dd):MS wr mb (M.bu k a) trs au fns Xd Xi Xf Mu0 H/\eG (λb=>¬Mu0 b) (O M.ds) H X wr (d.put co cc cs):=by
 refine⟨q.s.shrink f (λ_ h=>h) q.m1,⟨ro.bH q.row (λb l c=>?_),λm n=>?_,j,q.sz⟩⟩
 ·have u:=(q.row.lt b l).1;have v:=i b c;omega
 ·obtain⟨o,p,r⟩:=q.ct m n;exact⟨o.weaken (λb e _ c=>e (q.m1 b c)),p,λs t=>(r s t).weaken (λb e _ c=>e (q.m1 b c))⟩
theorem DC.more (q:DC w mb cb M trs au fns Xd Xi Xf Mu0 Mu H K co cc cs X wr k a next fk fa) (h:X<=X2):DC w mb cb M trs au fns Xd Xi Xf Mu0 Mu H K co cc cs X2 wr k a next fk fa:=
 ⟨q.s,q.cv,q.mY,q.row,q.own,q.ct,λb=>lT (q.sz b) h,q.kx,q.m0,q.m1,q.m2,q.hf⟩
theorem DP.more (q:DP w mb cb kb M trs au fns Xd Xi Xf Mu0 Mu H K co cc cs X nm po pc ps Xp wr k a next fk fa) (h:Xp<=X2):DP w mb cb kb M trs au fns Xd Xi Xf Mu0 Mu H K co cc cs X nm po pc ps X2 wr k a next fk fa:=
 ⟨q.c,q.ie,q.qY,q.yC,q.qZ,q.jU,q.uR,q.pt,λb=>lT (q.yv b) h⟩
def uo (w:World) (mb:Nat) (M:MK) (trs au fns:VV) (Xd Xi Xf:Nat) (Mu:Nat->Prop) (H F:Nat) (e:Ending) (w':World):Prop:=
 ∃(k a:Int) (ds:List Dd) (H' Xd':Nat),e=.returned (.tuple #[])/\O ds=O M.ds/\MS w' mb ({M with ds:=ds}.bu k a) trs au fns Xd' Xi Xf Mu H'/\KX Mu (E (U w)) w w'/\H<=H'/\(M.fk≠0->k=M.fk)/\Xd'<=Xd+F
end
end
section
variable{M:MK} {H Xd Xf Xi mb:Nat} {Mu:Nat->Prop} {fns au trs:VV} {w:World}
structure TE (w:World) (mb:Nat) (M:MK) (trs au fns:VV) (Xd Xi Xf:Nat) (Mu:Nat->Prop) (H:Nat) (wr:World) (k a:Int) (trs':VV) (H':Nat):Prop where
 s:MS wr mb (M.bu k a) trs' au fns Xd Xi Xf Mu H'
 kx:KX Mu (E (U w)) w wr
 tl:O trs'=O trs
 hH:H<=H'
 hf:M.fk≠0->k=M.fk
theorem lL {n:Nat} {l:List Nat} (h:n∈l):n<=l.sum:=by
 induction l with
 |nil=>simp at h
 |cons b c a=>
  rw[List.sum_cons];rcases List.mem_cons.1 h with rfl|h
  ·omega
  ·have:=a h;omega
theorem TE.below {wr w':World} {k a:Int} {b:VV} {H':Nat} (q:TE w mb M trs au fns Xd Xi Xf Mu H wr k a b H') (c:Below (E (U wr)) wr w'):TE w mb M trs au fns Xd Xi Xf Mu H w' k a b H':=
 ⟨q.s.below c,q.kx.trans ((KX.al c).mono (λ_ _ h=>h) q.kx.size),q.tl,q.hH,q.hf⟩
theorem rY {h:Nat} (hS:MS w mb M trs au fns Xd Xi Xf Mu H) {mod:Nat} {md:Md} (cI:M.ms[mod]? =some md) {B0:Nat} (bc:∀b,Mu b->B0<=b) (ee:B0<=E (U w)) {pos n m:Int} {name:ByteArray} {ko:OA} {kc:Nat} {ks:VV} (b6:cU B0 w (J ko (O ks) kc) ks) (cJ:∀i,i<O ks->∃g,ko=some ⟨g,0,I⟩) (bJ:∀x∈ks,isNode (λb=>b<B0) True (h+3) w x) (cK:∀x∈ks,aG (h+3) w x<=96100) (cL:M.fk=0->∀(p n m:Int) (s:ByteArray) (kv:Value),(ae 6 p n m s kv).toList∈ks->∀r∈md.ns.take md.own,r.name.toList=s.toList->r.sort=2):
 Calls Tryz.prog 26 #[.pointer (aS mb),vN mod,.agg (ae 1 pos n m name (J ko (O ks) kc))] w (ud w mb M trs au fns Xd Xi Xf Mu H):=by
 have ef:B0<=mb:=bc mb hS.dG;have e3:=b6.len.2;obtain⟨bd,bs⟩:=al1 w (Ob (ae 1 pos n m name (J ko (O ks) kc)) 48)
 have eg:Hid (∀{c:World},KX Mu (E (U w)) w c->∀B,B<O ks->∃g V t u l k j Z y,ko=some ⟨g,0,I⟩/\g<B0/\ks[B]? =some (ae V t u l k (J j Z y)).toList/\(∀o,o<11->c.cell? ⟨g,B*11+o,I⟩=(ae V t u l k (J j Z y)).toList[o]?)/\isNode (λb=>b<B0) True (h+3) c (ae V t u l k (J j Z y)).toList/\aG (h+3) c (ae V t u l k (J j Z y)).toList<=96100):=by
  intro c K B a0;obtain⟨x,A⟩:∃x,ks[B]? =some x:=⟨_,gG a0⟩;have aM:=mG A;obtain⟨V,t,u,l,k,j,Z,y,rfl,-⟩:=isNode.cells (bJ x aM);have b7:aq (λb=>b<B0) w c:=λb z ag=>K.block b ag (λW=>oH (bc b W));obtain⟨g,q,d,cM,b8⟩:=(b6.frame b7 ee).nth A;obtain⟨eh,b9⟩:=cJ B a0;obtain rfl:q=0:=by rw[b9] at d;simp at d;exact d.2.symm
  refine⟨g,V,t,u,l,k,j,Z,y,d,cM,A,λo bt=>?_,isNode.frame b7 _ _ (bJ _ aM),?_⟩
  ·have:=b8 o bt;rw[Nat.zero_add] at this;exact this
  ·rw[aT b7 _ _ (bJ _ aM)];exact cK _ aM
 have ah:Hid (MS w mb M trs au fns Xd Xi Xf Mu H/\Below (E (U w)) w (w.alloc (Ob (ae 1 pos n m name (J ko (O ks) kc)) 48))/\(∀b,Mu b->B0<=b)/\(∀b,Mu b->b<E (U w))/\M.ms[mod]? =some md/\(M.fk=0->∀(p n m:Int) (s:ByteArray) (kv:Value),(ae 6 p n m s kv).toList∈ks->∀r∈md.ns.take md.own,r.name.toList=s.toList->r.sort=2)):=⟨hS,bd,bc,hS.mlt,cI,cL⟩
 obtain⟨aa,b',bK⟩:∃g ca,M.tv=J (aS g) (O trs) ca:=by
  have e4:=hS.pi.bj.2.2;obtain⟨x,A⟩:∃x,trs[0]? =some x:=⟨_,gG oM⟩;obtain⟨g,ca,d,-⟩:=aP hS.tr Q (λx A=>by obtain⟨bd,bs,cb,bu,cN,cO,cc,d,-⟩:=hS.jo x A;rw[d];rfl) A;exact⟨g,ca,d⟩
 have cd:TE (w.alloc (Ob (ae 1 pos n m name (J ko (O ks) kc)) 48)) mb M trs au fns Xd Xi Xf Mu H (w.alloc (Ob (ae 1 pos n m name (J ko (O ks) kc)) 48)) M.fk M.fa trs H:=⟨hS.below bd,KX.refl _ _ _,Q,lR _,λ_=>rfl⟩;obtain⟨ai,bv⟩:∃ai,ai=w.alloc (Ob (ae 1 pos n m name (J ko (O ks) kc)) 48):=⟨_,Q⟩;have e5:E (U ai)=E (U w)+1:=by rw[bv];simp
 have aj:Hid (∀{c:World},KX Mu (E (U ai)) ai c->KX Mu (E (U w)) w c/\c.heap[E (U w)]? =some (Ob (ae 1 pos n m name (J ko (O ks) kc)) 48 (0,0))):=λ{c} K=>by
  rw[bv] at K;refine⟨(KX.al ah.out.2.1).trans (K.mono (λ_ _ h=>h) sQ),(K.block _ sQ (λW=>?_)).trans bs⟩;have:=ah.out.2.2.2.1 _ W;omega
 have bL:=λq=>cell_of_row ai _ q _ 48 (0,0) (aj.out (KX.refl _ _ _)).2;have bN:E (U w)<E (U ai):=oM;rw[<-bv] at cd;clear hS bc cK cL b6 cJ bJ cI bd bs;clear bL bN;go_enter Tryz.func26,Tryz.ntmps26
 go_wp2_with fail;rw[<-bv];clear bv;go_loopg [7,8,9,10,12,14,15,16,17,21] (O ks) (λbw _ _ _ _ _ _ _ _ _ bf wr=>∃(B:Nat) (T a:Int) (X:VV) (bg:Nat),bw=O ks - B/\bf=vN B/\B<=O ks/\TE ai mb M trs au fns Xd Xi Xf Mu H wr T a X bg)
 case atStart=>exact⟨0,_,_,_,_,Q,Q,zL _,cd⟩
 case round=>
  clear cd;obtain⟨B,T,a,X,bg,aN,rfl,e6,ab⟩:=hrel;have ce:Hid (gk=O ks - B):=aN;clear aN;have bL:=λq=>cell_of_row wr _ q _ 48 (0,0) (aj.out ab.kx).2;have bN:E (U w)<E (U wr):=(gE (aj.out ab.kx).2).1;by_cases a0:B<O ks
  ·have ei:(B:Int)<(O ks:Int):=oM;obtain⟨g,V,t,u,l,k,j,Z,y,d,cM,cP,bz,cQ,cR⟩:=eg.out (aj.out ab.kx).1 B a0;obtain rfl:ko=some ⟨g,0,I⟩:=d;have cS:g<E (U wr):=oM;have bO:=qh bz;have bP:Hid (ks[B]? =some (ae V t u l k (J j Z y)).toList/\isNode (λb=>b<B0) True (h+3) wr (ae V t u l k (J j Z y)).toList/\aG (h+3) wr (ae V t u l k (J j Z y)).toList<=96100):=⟨cP,cQ,cR⟩;clear bz cP cQ cR;have al:=ab.below (al1 wr (Ob (ae V t u l k (J j Z y)) 48)).1;by_cases cT:V=6
   ·subst cT;by_cases cV:T=0
    ·subst cV;obtain⟨e,rfl,cf,cW,cX,cY,ej,cZ,ek,-⟩:=bP.out.2.1.kids;have e7:=cf.len.2;have c0:=cX.rZ Q;have bh:Hid (cU B0 wr (J j (O e) y) e/\(∀x∈e,isNode (λb=>b<B0) True (h+2) wr x)/\(∀x∈e.map az,x=8)/\(∀i,i<O e->∃g,j=some ⟨g,0,I⟩)/\(e.map (aG (h+2) wr)).sum<=96100):=⟨cf,cW,c0,cZ,by have a1:=lT (Nat.le_of_eq cY.symm) bP.out.2.2;omega⟩;clear cf cW cX cY ej cZ ek c0;go_upto_region 5 with(go_at_call 30;refine(bM al.s.mk').mono ?_;rintro d a2 ⟨rfl,rfl⟩)
     go_cut [8,9] (λel em bQ=>∃(ao:Nat) (c1:Bool) (r:Nm),el=.pointer (aS ao)/\em=.bool c1/\Below (E (U (wr.alloc (Ob (ae 6 t u l k (J j (O e) y)) 48)))) (wr.alloc (Ob (ae 6 t u l k (J j (O e) y)) 48)) bQ/\bx bQ ao (dF r)/\E (U wr)<ao/\(0<=r.n/\r.n<(O X:Int)))
     case first=>
      clear bL bN bO cS;have bA:Hid (∀{c:World},Below (E (U (wr.alloc (Ob (ae 6 t u l k (J j (O e) y)) 48)))) (wr.alloc (Ob (ae 6 t u l k (J j (O e) y)) 48)) c->Below (E (U (wr.alloc (Ob (ae 6 t u l k (J j (O e) y)) 48)))) (wr.alloc (Ob (ae 6 t u l k (J j (O e) y)) 48)) c/\(Ce c mb (jM (M.bu 0 a)))/\(Ce c (E (U wr)) (ae 6 t u l k (J j (O e) y)))):=λ{c} z=>⟨z,(al.s.mk'.below z).cell,λq=>cell_of_row c _ q _ 48 (0,0) ((z.block _ sQ).trans (al1 wr _).2)⟩
      have c2:Hid (∀(r:Nm) (b:Bool),(b=true->r∈md.ns.take md.own/\r.name.toList=k.toList)->(b=false->r=gJ/\∀aO∈md.ns.take md.own,aO.name.toList≠k.toList)->0<=r.n/\r.n<(O X:Int)):=λr b en eo=>by
       have e8:=al.s.pi.bj.2.2
       cases b
       ·rw[(eo Q).1];exact⟨Int.le_refl _,by show(0:Int)<_;omega⟩
       ·have a3:=en Q
        have ep:M.fk=0:=by
         by_cases cg:M.fk=0
         ·exact cg
         ·exact absurd (ab.hf cg).symm cg
        have eq:=ah.out.2.2.2.2.2 ep t u l k _ (mG bP.out.1) r a3.1 a3.2;have c3:=al.s.pi.q md (mG ah.out.2.2.2.2.1) r (List.mem_of_mem_take a3.1);exact⟨c3.1,c3.2.2 eq⟩
      go_region_held3 (λc=>Below (E (U (wr.alloc (Ob (ae 6 t u l k (J j (O e) y)) 48)))) (wr.alloc (Ob (ae 6 t u l k (J j (O e) y)) 48)) c/\(Ce c mb (jM (M.bu 0 a)))/\(Ce c (E (U wr)) (ae 6 t u l k (J j (O e) y))))
       (first|assumption|exact bA.out ((Below.refl _ _).drew)|exact bA.out ((al1 _ _).1.drew)|exact bA.out aQ|exact bA.out (aQ.alloc aQ.size _)|exact bA.out (Below.cM aQ sQ _ _ _ _))
       (first
        |(go_at_call 42;have ch:=(‹Below (E (U (wr.alloc (Ob (ae 6 t u l k (J j (O e) y)) 48)))) (wr.alloc (Ob (ae 6 t u l k (J j (O e) y)) 48)) _/\_›).1;refine(pR (al.s.pi.cE.below ch) _ _ _ _ _ _ (i:=mod) ah.out.2.2.2.2.1 _).mono ?_;rintro d a2 ⟨bR,bS,rfl,c4,c5,c6⟩;have aQ:=ch.trans (c6.mono ch.size);have bi:=aQ.size;first|(have bT:bx a2 (E (U wr)+1) (dF gJ):=(c6.block (E (U wr)+1) sQ).trans (dW wr _ _).2.2;have e9:=bT.cell;have e':=bT.fz;have fa:=bT.lt)|skip))
      all_goals
       go_wp2_with fail;go_meet
       first
        |exact⟨E (U wr)+1,bS,bR,Q,Q,Below.cM aQ sQ _ _ _ _,bx.bQ bT _ _ _ _,oM,c2.out bR bS c4 c5⟩
        |exact⟨E (U a2),bS,bR,Q,Q,aQ.alloc aQ.size _,(al1 _ _).2,by simp at bi;omega,c2.out bR bS c4 c5⟩
     case rest=>
      clear bL bN bO cS;obtain⟨ao,c1,r,rfl,rfl,bV,c7,fb,ci⟩:=hcut;obtain⟨cj,ck,c8,cl⟩:=r;obtain⟨ac,rfl⟩:∃ac:Nat,c8=(ac:Int):=⟨c8.toNat,by have:=ci.1;simp at this;omega⟩;have er:ac<O X:=by have:=ci.2;simp at this;exact this
      clear ci;have Y:=al.below bV;have gj:wc.heap[E (U wr)]? =some (Ob (ae 6 t u l k (J j (O e) y)) 48 (0,0)):=(bV.block _ sQ).trans (al1 wr _).2;have c9:=λq=>cell_of_row wc _ q _ 48 (0,0) gj;have cm:E (U wr)<E (U wc):=(gE gj).1;have es:E (U w)<=E (U wr):=by have:=(aj.out ab.kx).1.size;exact this
      have bW:Hid (∀{c:World},KX Mu (E (U wc)) wc c->aq (λb=>b<B0) wr c):=by
       intro c K;have bc:=ah.out.2.2.1;have et:KX Mu (E (U wr)) wr c:=(KX.al ((al1 wr _).1.trans (bV.mono (al1 wr _).1.size))).trans (K.mono (λ_ _ h=>h) oM);exact λb z ag=>et.block b ag (λW=>oH (bc b W))
      have cn:Hid (∀{c:World},KX Mu (E (U wc)) wc c->c.heap[E (U wr)]? =some (Ob (ae 6 t u l k (J j (O e) y)) 48 (0,0))/\bx c ao (dF ⟨cj,ck,(ac:Int),cl⟩)):=by
       intro c K;have c':=ah.out.2.2.2.1;exact⟨(K.block _ cm (λW=>oH (c' _ W))).trans gj,(K.block _ c7.lt (λW=>oH (c' _ W))).trans c7⟩
      have eu:Hid (∀o,o<O e->∃ap L ad F C N af P,j=some ⟨ap,0,I⟩/\ap<B0/\∀c:World,KX Mu (E (U wc)) wc c->(∀i,i<11->c.cell? ⟨ap,o*11+i,I⟩=(ae 8 L ad F C (J N af P)).toList[i]?)/\isNode (λb=>b<B0) True (h+2) c (ae 8 L ad F C (J N af P)).toList/\aG (h+2) c (ae 8 L ad F C (J N af P)).toList<=96100):=by
       intro o bt;obtain⟨x,A⟩:∃x,e[o]? =some x:=⟨_,gG bt⟩;have aM:=mG A;have co:=bh.out.2.1 x aM;obtain⟨da,L,ad,F,C,N,af,P,rfl,-⟩:=isNode.cells co;have bj:fJ da ad af=8:=bh.out.2.2.1 _ (List.mem_map_of_mem aM)
       have ev:da=8:=by
        unfold fJ at bj;split at bj
        ·exact absurd bj dC
        ·split at bj
         ·exact absurd bj dC
         ·exact bj
       subst ev;obtain⟨ap,q,d,cp,b8⟩:=bh.out.1.nth A;obtain⟨eh,b9⟩:=bh.out.2.2.2.1 o bt;obtain rfl:q=0:=by rw[b9] at d;simp at d;exact d.2.symm
       refine⟨ap,L,ad,F,C,N,af,P,d,cp,λc K=>⟨λi db=>?_,isNode.frame (bW.out K) _ _ co,?_⟩⟩
       ·have:=b8 i db;rw[Nat.zero_add] at this;exact(World.cell?_of_block (w:=wr) (a:=⟨ap,o*11+i,I⟩) (bW.out K ap cp oM)).trans this
       ·rw[aT (bW.out K) _ _ co];exact lT (lL (List.mem_map_of_mem (f:=aG (h+2) wr) aM)) bh.out.2.2.2.2
      clear bW;clear bV al;obtain⟨dc,dd⟩:∃dc,dc=E (U wr):=⟨_,Q⟩;rw[<-dd] at cn c9 cm⊢;clear gj dd bh bP es;go_wp2_with fail;clear c9 cm;go_loopg [10,12,14,15,16,17,47] (O e) (λbw ew _ _ _ _ _ bf bQ=>∃(o:Nat) (T a:Int) (mo:OA) (mc:Nat) (ms:VV) (a4:Nat->Prop) (bX:Nat),bw=O e - o/\bf=vN o/\ew=J mo (O ms) mc/\o<=O e/\O ms<=o/\bg<=bX/\lE wc mb M X au fns Xd Xi Xf Mu a4 bX mo mc ms bQ T a)
      case atStart=>exact⟨0,0,a,I,0,[],Mu,bg,Q,Q,Q,zL _,zL _,lR _,⟨Y.s,World.ownsRow_nil _ _ _ _,λb d=>by simp[Value.ownBlock] at d,λaO a5=>by simp at a5,KX.refl _ _ _,Y.s.dG,λ_ h=>h,λ_ _ h=>h,Y.hf⟩⟩
      case round=>
       obtain⟨o,T,cb,mo,mc,ms,a4,bX,aN,rfl,rfl,bt,fc,de,G⟩:=hrel;have df:Hid (gk=O e - o):=aN;clear aN;by_cases cq:o<O e
       ·have ex:(o:Int)<(O e:Int):=oM;obtain⟨ap,L,ad,F,C,N,af,P,d,cp,cr⟩:=eu.out o cq;obtain rfl:j=some ⟨ap,0,I⟩:=d
        have ey:ap<E (U wr):=by
         have a1:=G.kx.size;have a3:=(aj.out Y.kx).1.size;omega
        have bz:=(cr wr G.kx).1;have bO:=qh bz;have cs:Hid (∀c:World,KX Mu (E (U wc)) wc c->isNode (λb=>b<B0) True (h+2) c (ae 8 L ad F C (J N af P)).toList/\aG (h+2) c (ae 8 L ad F C (J N af P)).toList<=96100):=λc K=>(cr c K).2;clear bz cr;obtain⟨aR,ct⟩:=al1 wr (Ob (ae 8 L ad F C (J N af P)) 48);have t1:=G.below aR;go_wp2_with fail;obtain⟨R,dg⟩:∃R,R=E (U wr):=⟨_,Q⟩;rw[<-dg] at ct⊢;have fd:E (U wc)<=R:=oH G.kx.size;clear bO ey G aR dg;go_loopg [14,53] (O ms) (λbw _ bf dh=>∃(i:Nat) (T a:Int),bw=O ms - i/\bf=vN i/\i<=O ms/\lE wc mb M X au fns Xd Xi Xf Mu a4 bX mo mc ms dh T a/\dh.heap[R]? =some (Ob (ae 8 L ad F C (J N af P)) 48 (0,0)))
        case atStart=>exact⟨0,_,_,Q,Q,zL _,t1,ct⟩
        case round=>
         clear t1 ct;obtain⟨i,di,bu,aN,rfl,db,ax,bB⟩:=hrel;have ez:Hid (gk=O ms - i):=aN;clear aN;have bk:=λq=>cell_of_row wr _ q _ 48 (0,0) bB;have ar:R<E (U wr):=(gE bB).1;have eA:R<E (U wr)+1:=oM;by_cases cu:i<O ms
         ·have eB:(i:Int)<(O ms:Int):=oM;obtain⟨aO,a5⟩:∃aO,ms[i]? =some aO:=⟨_,gG cu⟩;obtain⟨av,eC,dj,fe,-,aw⟩:=aP ax.row Q (λx A=>by obtain⟨ff,bd,bs,cb,bu,cN,cO,cc,dk,fg,fh,fi,fj,fk,fl,fm,fn,fo,fp,d,-⟩:=ax.mt x A;rw[d];rfl) a5;obtain⟨dl,dm,dn,dp,dq,dr,ds,dt,du,dv,dw,dx,dA,dB,dD,dE,dG,dH,dI,rfl,-⟩:=ax.mt aO (mG a5);obtain⟨rfl,rfl⟩:mo=some ⟨av,0,I⟩/\mc=eC:=sU dj;have fq:wr.cell? ⟨av,i*9,I⟩=some (.string dl):=aw 0 dC;have l:wr.cell? ⟨av,i*9+1,I⟩=some (vN dm):=aw 1 dC;have F:wr.cell? ⟨av,i*9+2,I⟩=some (J dn dp dq):=aw 2 dC;have fr:wr.cell? ⟨av,i*9+3,I⟩=some (J dr ds dt):=aw 3 dC;have fs:wr.cell? ⟨av,i*9+4,I⟩=some (J du (O dw) dv):=aw 4 dC;have ft:wr.cell? ⟨av,i*9+5,I⟩=some (vN dx):=aw 5 dC;have fu:wr.cell? ⟨av,i*9+6,I⟩=some (vN dA):=aw 6 dC;have fv:wr.cell? ⟨av,i*9+7,I⟩=some (J dB dD dE):=aw 7 dC;have fw:wr.cell? ⟨av,i*9+8,I⟩=some (J dG dH dI):=aw 8 dC;obtain⟨cv,-⟩:=al1 wr (Ob (eM dl dm (J dn dp dq) (J dr ds dt) du (O dw) dv dx dA (J dB dD dE) (J dG dH dI)) 81);have bY:=ax.below cv;have bZ:=(cv.block R ar).trans bB;clear aw dj a5 cv;go_wp2_with (go_at_call 39;refine(bU bY.s.mk' _ _).mono ?_;rintro d fx ⟨⟨eD,dk,rfl,cw,aU,cx⟩,-⟩;have eE:=bY.no aU cw cx;have eF:=(aU.block R (gE bZ).1 (aJ bZ bY.s.mk' dC)).trans bZ)
          all_goals
           go_roundg (O ms - (i+1))
           case measure=>rw[ez.out];omega
           case rel=>
            first
             |exact⟨i+1,_,_,Q,by go_num,cu,eE,eF⟩
             |exact⟨i+1,_,_,Q,by go_num,cu,bY,bZ⟩
         ·have eB:¬(i:Int)<(O ms:Int):=oM;obtain⟨cy,cz⟩:=al1 wr (Ob (dy ({mb:=mb,mod:=mod,aD:=I,cJ:=0,ba:=[],bZ:=I,tcp:=0,bt:=[],bO:=true,sk:=5,sn:=0,iJ:=I,iK:=0,iL:=0,iM:=I,iN:=0,iO:=0}:CK) 0 0 0 0 0) 114);have eG:E (U (wr.alloc (Ob (dy ({mb:=mb,mod:=mod,aD:=I,cJ:=0,ba:=[],bZ:=I,tcp:=0,bt:=[],bO:=true,sk:=5,sn:=0,iJ:=I,iK:=0,iL:=0,iM:=I,iN:=0,iO:=0}:CK) 0 0 0 0 0) 114)))=E (U wr)+1:=sQ;have eH:=ax.kx.size;have eI:=(aj.out Y.kx).1.size;have a6:=ax.grow cy (Mu':=λb=>a4 b\/b=E (U wr)) (λb z=>.inl z) (λb z=>by rcases z with z|z;(have:=ax.s.mlt b z;omega);omega) (λb ag z=>by rcases z with z|z;exact z;omega);obtain⟨bC,a7,rfl,rfl,cA⟩:=tU (cs.out _ a6.kx).1;have dJ:6100*(aG (h+2) (wr.alloc (Ob (dy ({mb:=mb,mod:=mod,aD:=I,cJ:=0,ba:=[],bZ:=I,tcp:=0,bt:=[],bO:=true,sk:=5,sn:=0,iJ:=I,iK:=0,iL:=0,iM:=I,iN:=0,iO:=0}:CK) 0 0 0 0 0) 114)) (ae 8 L (O a7:Int) F C (J N (O bC) P)).toList*1)<=17592186044416:=lT (Nat.mul_le_mul_left 6100 (by rw[Nat.mul_one];exact(cs.out _ a6.kx).2)) dC;have eJ:mod<O M.ms:=(gS ah.out.2.2.2.2.1).1;have cB:=dz (S:=λ_=>False) (D:=O M.ds) (w:=(wr.alloc (Ob (dy ({mb:=mb,mod:=mod,aD:=I,cJ:=0,ba:=[],bZ:=I,tcp:=0,bt:=[],bO:=true,sk:=5,sn:=0,iJ:=I,iK:=0,iL:=0,iM:=I,iN:=0,iO:=0}:CK) 0 0 0 0 0) 114))) (kind:=5) (n:=0) ⟨λd=>absurd d dC,dC,dC⟩;have dK:Cx (wr.alloc (Ob (dy ({mb:=mb,mod:=mod,aD:=I,cJ:=0,ba:=[],bZ:=I,tcp:=0,bt:=[],bO:=true,sk:=5,sn:=0,iJ:=I,iK:=0,iL:=0,iM:=I,iN:=0,iO:=0}:CK) 0 0 0 0 0) 114)) (E (U wr)) ({mb:=mb,mod:=mod,aD:=I,cJ:=0,ba:=[],bZ:=I,tcp:=0,bt:=[],bO:=true,sk:=5,sn:=0,iJ:=I,iK:=0,iL:=0,iM:=I,iN:=0,iO:=0}:CK) (M.bu di bu) (O X) (λ_=>False) 1 1:=⟨World.ownsRow_nil _ _ _ _,zL _,World.ownsRow_nil _ _ _ _,zL _,a6.s.pi,eJ,cB.1,λ_ A=>A.elim,cB.2,lR _⟩;have dL:mb≠E (U wr):=oH ax.s.mk'.lt;have ay:=(cy.block R ar).trans bB;have dM:Hid (Calls Tryz.prog 47 #[.pointer (some ⟨mb,0,I⟩),.agg (ae 8 L (O a7:Int) F C (J N (O bC) P)),.pointer (some ⟨E (U wr),0,I⟩)] (wr.alloc (Ob (dy ({mb:=mb,mod:=mod,aD:=I,cJ:=0,ba:=[],bZ:=I,tcp:=0,bt:=[],bO:=true,sk:=5,sn:=0,iJ:=I,iK:=0,iL:=0,iM:=I,iN:=0,iO:=0}:CK) 0 0 0 0 0) 114)) (fU (wr.alloc (Ob (dy ({mb:=mb,mod:=mod,aD:=I,cJ:=0,ba:=[],bZ:=I,tcp:=0,bt:=[],bO:=true,sk:=5,sn:=0,iJ:=I,iK:=0,iL:=0,iM:=I,iN:=0,iO:=0}:CK) 0 0 0 0 0) 114)) mb (E (U wr)) (M.bu di bu) ({mb:=mb,mod:=mod,aD:=I,cJ:=0,ba:=[],bZ:=I,tcp:=0,bt:=[],bO:=true,sk:=5,sn:=0,iJ:=I,iK:=0,iL:=0,iM:=I,iN:=0,iO:=0}:CK) (λb=>False/\b<E (U (wr.alloc (Ob (dy ({mb:=mb,mod:=mod,aD:=I,cJ:=0,ba:=[],bZ:=I,tcp:=0,bt:=[],bO:=true,sk:=5,sn:=0,iJ:=I,iK:=0,iL:=0,iM:=I,iN:=0,iO:=0}:CK) 0 0 0 0 0) 114)))) (aG (h+2) (wr.alloc (Ob (dy ({mb:=mb,mod:=mod,aD:=I,cJ:=0,ba:=[],bZ:=I,tcp:=0,bt:=[],bO:=true,sk:=5,sn:=0,iJ:=I,iK:=0,iL:=0,iM:=I,iN:=0,iO:=0}:CK) 0 0 0 0 0) 114)) (ae 8 L (O a7:Int) F C (J N (O bC) P)).toList*1) (O a7))):=sf dK cz a6.s.mk' dL Q oM ef (λ_ A=>A.elim) cA dJ;clear dK cB dJ;go_upto_region 19 with(go_at_call 47;refine dM.out.mono ?_;rintro d bl dN;obtain⟨lv,aV,aW,aX,eK,eL,eN,aA,aB,aC,aD,aE,aF,aI,aK,dO,cc,bm,rfl,dP,dQ,dR,dS,dT⟩:=a6.sig cz (.inr rfl) oM (λb z=>z.1.elim) dN;have cC:=(dR.block R (gE ay).1 (λd=>by rcases d with d|d;omega;exact aJ ay a6.s.mk' dC d)).trans ay)
          obtain⟨aR,bn,-⟩:=dW bl (Ob (eO lv aH (J (aS (E (U bl)+1)) 1 1) aV (O aX) aW (vN aA) (vN aB) (J aC aD aE) (J aF aI aK)) 79) (Ob #[J I 0 0,J I 0 0] 76);have a8:=dP.below aR;have b0:=(aR.block R (gE cC).1).trans cC;have bo:=dS.frame (λb _ ag=>aR.block b ag) aR.size;have fy:=cA.len;have eP:∃cD,cD=aG (h+2) (wr.alloc (Ob (dy ({mb:=mb,mod:=mod,aD:=I,cJ:=0,ba:=[],bZ:=I,tcp:=0,bt:=[],bO:=true,sk:=5,sn:=0,iJ:=I,iK:=0,iL:=0,iM:=I,iN:=0,iO:=0}:CK) 0 0 0 0 0) 114)) (ae 8 L (O a7:Int) F C (J N (O bC) P)).toList*1:=⟨_,Q⟩;obtain⟨cD,dU⟩:=eP;rw[<-dU] at bo;clear dU;have dV:bg<=bm:=lT de dQ;clear ax bB a6 cy cz eG eH eI dL ay dM cA dR cC dS dP aR bk ar eA dN dQ;obtain⟨aL,dX⟩:∃aL,aL=(bl.alloc (Ob (eO lv aH (J (aS (E (U bl)+1)) 1 1) aV (O aX) aW (vN aA) (vN aB) (J aC aD aE) (J aF aI aK)) 79)).alloc (Ob #[J I 0 0,J I 0 0] 76):=⟨_,Q⟩;rw[<-dX] at a8 b0 bo bn⊢;clear dX;obtain⟨a9,dY⟩:∃a9,a9=E (U bl):=⟨_,Q⟩;obtain⟨aZ,dZ⟩:∃aZ,aZ=E (U bl)+1:=⟨_,Q⟩;rw[<-dZ] at bn⊢;rw[<-dY] at bn⊢;clear dY dZ;have b1:=λq=>cell_of_row aL _ q _ 79 (0,0) bn;have bp:a9<E (U aL):=(gE bn).1;have bk:=λq=>cell_of_row aL _ q _ 48 (0,0) b0;have ar:R<E (U aL):=(gE b0).1;have cE:Hid (∀{c:World} {T a:Int},lE wc mb M X au fns Xd Xi Xf Mu (λb=>a4 b\/b=E (U wr)) bm mo mc ms c T a->ot (λb=>¬(a4 b\/b=E (U wr))) (O M.ds) bm c aV aW aX eK eL eN (ak aA aB (J aC aD aE) (J aF aI aK)).toList cD->∀cF,∃bD cG,(Builtin.append_ #[72,72] cF #[J mo (O ms) mc,J (aS (E (U c))) 1 1]).run Tryz.prog (c.alloc (Ob (eM C lv aH (J (aS aZ) 1 1) aV (O aX) aW aA aB (J aC aD aE) (J aF aI aK)) 81))=.ok bD cG/\∃a' ba Mu',bD=J a' (O (ms++[(eM C lv aH (J (aS aZ) 1 1) aV (O aX) aW aA aB (J aC aD aE) (J aF aI aK)).toList])) ba/\lE wc mb M X au fns Xd Xi Xf Mu Mu' bm a' ba (ms++[(eM C lv aH (J (aS aZ) 1 1) aV (O aX) aW aA aB (J aC aD aE) (J aF aI aK)).toList]) cG T a/\KX (λb=>a4 b\/b=E (U wr)) (E (U c)) c cG):=λ{c T a} G b2 cF=>G.push ⟨C,lv,I,0,0,some ⟨aZ,0,I⟩,1,1,aV,aW,aX,aA,aB,aC,aD,aE,aF,aI,aK,Q,b2.ri,b2.ti,b2.l',b2.li⟩ Q (by intro bf bq;simp at bq;repeat(first|(subst bq;rfl)|(rcases bq with bq|bq;(subst bq;rfl)))) oM cF Q;by_cases d0:dO=0
          ·subst d0;have eQ:=dT Q;obtain⟨eR,cH,d1,d2,-,-,-,d3,-,-⟩:=(cs.out aL a8.kx).1.kids
           have eS:Hid (Calls Tryz.prog 48 #[.agg (ae 8 L (O a7:Int) F C (J N (O bC) P)),.agg (eO lv aH (J (aS aZ) 1 1) aV (O aX) aW (vN aA) (vN aB) (J aC aD aE) (J aF aI aK))] aL (iu aL)):=by
            have a1:=qN (kind:=8) (pos:=L) (n:=(O a7:Int)) (m:=F) (name:=C) (ko:=N) (kc:=P) (ks:=eR) (by rw[<-cH];exact d1) d3 (oI a8.kx.size (aj.out Y.kx).1.size) (λx A=>⟨_,d2 x A⟩) (lv:=lv) (ov:=aH) (gv:=(J (aS aZ) 1 1)) (t0:=vN aA) (t1:=vN aB) (t2:=J aC aD aE) (t3:=J aF aI aK) bo.ri bo.ti (λfz=>by omega);rw[<-cH] at a1;exact a1
           clear cH d1 d2 d3 eQ dT
           go_wp2_with (first
            |(go_at_call 30;refine(bM a8.s.mk').mono ?_;rintro d a2 ⟨rfl,rfl⟩)
            |(go_at_call 48;refine eS.out.mono ?_;rintro d bE ⟨fA,rfl,bF⟩;have br:=a8.below bF;have d4:=bo.frame (λb _ ag=>bF.block b ag) bF.size;have bi:=(bF.block a9 bp).trans bn;have ay:=(bF.block R ar).trans b0;clear b1 bp bk ar;have b1:=λq=>cell_of_row bE _ q _ 79 (0,0) bi;have bp:a9<E (U bE):=(gE bi).1;have bk:=λq=>cell_of_row bE _ q _ 48 (0,0) ay;have ar:R<E (U bE):=(gE ay).1)
            |(go_at_call 39;refine(bU br.s.mk' _ _).mono ?_;rintro d bH ⟨⟨eD,dk,rfl,cw,aU,cx⟩,-⟩;have eT:=br.no aU cw cx;have eU:=d4.frame (λb z ag=>aU.block b ag (λd=>z (d▸br.s.dG))) aU.size;have d5:=(aU.block a9 bp (aJ bi br.s.mk' dC)).trans bi;have d6:=(aU.block R ar (aJ ay br.s.mk' dC)).trans ay;clear b1 bp bk ar;have b1:=λq=>cell_of_row bH _ q _ 79 (0,0) d5;have bp:a9<E (U bH):=(gE d5).1;have bk:=λq=>cell_of_row bH _ q _ 48 (0,0) d6;have ar:R<E (U bH):=(gE d6).1)
            |(at_builtin;refine bG 72 (v:=J mo (O ms) mc) (xv:=J (aS (E (U bH))) 1 1) rQ rQ rQ rQ (cE.out eT eU _) ?_;rintro bD d7 ⟨a',ba,b3,rfl,b4,-⟩)
            |(at_builtin;refine bG 72 (v:=J mo (O ms) mc) (xv:=J (aS (E (U bE))) 1 1) rQ rQ rQ rQ (cE.out br d4 _) ?_;rintro bD d7 ⟨a',ba,b3,rfl,b4,-⟩))
           all_goals
            go_roundg (O e - (o+1))
            case measure=>rw[df.out];omega
            case rel=>exact⟨o+1,_,_,a',ba,_,b3,bm,Q,by go_num,sQ,cq,by simp;omega,dV,b4⟩
          ·have fB:(dO==0)=false:=sU d0
           go_wp2_with (first
            |(go_at_call 30;refine(bM a8.s.mk').mono ?_;rintro d a2 ⟨rfl,rfl⟩)
            |(at_builtin;refine bG 72 (v:=J mo (O ms) mc) (xv:=J (aS (E (U a2))) 1 1) rQ rQ rQ rQ (cE.out a8 bo _) ?_;rintro bD d7 ⟨a',ba,b3,rfl,b4,-⟩))
           go_roundg (O e - (o+1))
           case measure=>rw[df.out];omega
           case rel=>exact⟨o+1,_,_,a',ba,_,b3,bm,Q,by go_num,sQ,cq,by simp;omega,dV,b4⟩
       ·have ex:¬(o:Int)<(O e:Int):=oM;have bb:=G.s.shrink ah.out.1 (λ_ h=>h) G.m1;obtain⟨x,A⟩:∃x,X[ac]? =some x:=⟨_,gG er⟩;obtain⟨fC,fD,fE,fF,eV,eW,eX,rfl,-⟩:=bb.jo x (mG A);have fG:(ac:Int)<(O trs:Int):=oH Y.tl;have fH:(0:Int)<=(ac:Int):=oM;obtain⟨d8,d9,d',fI,-,ea⟩:=aP bb.tr Q (λx A=>by obtain⟨bd,bs,cb,bu,cN,cO,cc,d,-⟩:=bb.jo x A;rw[d];rfl) A;have bI:M.tv=J (aS d8) (O X) d9:=d';obtain⟨rfl,rfl⟩:aa=d8/\b'=d9:=by rw[bK] at bI;simp at bI;exact⟨bI.1,bI.2.2⟩
        have fK:wr.cell? ⟨aa,ac*5+4,I⟩=some (J eV (O eX) eW):=ea 4 dC;obtain⟨fL,b5⟩:=aY bb.tr (b:=aa) (by show M.tv.ownBlock=_;rw[bK];rfl);have fM:wr.frozen? ⟨aa,ac*5+4,I⟩=false:=frozen_of_row wr aa _ _ 74 b5;have eY:mb≠aa:=aJ bb.mk' b5 dC;have eZ:ao≠aa:=aJ (cn.out G.kx).2 b5 dC;have eb:Hid (∀{c:World},c.heap[mb]? =wr.heap[mb]? ->c.heap[ao]? =wr.heap[ao]? ->(c.cell? ⟨mb,2,I⟩=some (J (aS aa) (O trs) b'))/\(Ce c ao (dF ⟨cj,ck,(ac:Int),cl⟩))):=λ{c} a1 a3=>⟨by rw[cell_of_row c _ 2 _ 66 (0,0) (a1.trans bb.mk'),<-bK];rfl,λq=>cell_of_row c _ q _ 104 (0,0) (a3.trans (cn.out G.kx).2)⟩;have e0:=bb.below ((Below.refl (E (U wr)) wr).drew);have e1:O ms<=30000:=oM
        have e2:∀b,(Value.slice mo (O ms) mc).ownBlock=some b->¬Mu b:=λb z W=>by
         have a1:=(G.row.lt b z).1;have a3:=ah.out.2.2.2.1 b W;have fN:=(aj.out Y.kx).1.size;omega
        have ec:=e0.vl A bK (mo:=mo) (mc:=mc) (ms:=ms) ((ro.bH G.row e2).frame (λ_ _ _=>rfl) (lR _)) (λaO a5=>((G.mt aO a5).weaken (λb z _ W=>z (G.m1 b W))).frame (λ_ _ _=>rfl) (lR _)) e1;have ed:KX Mu (E (U ai)) ai wr:=Y.kx.trans (G.kx.mono (λ_ _ h=>h) Y.kx.size);clear b5 d' bI ea;go_wp2_with fail;go_region_held3 (λc=>(c.cell? ⟨mb,2,I⟩=some (J (aS aa) (O trs) b'))/\(Ce c ao (dF ⟨cj,ck,(ac:Int),cl⟩))) (first|assumption|exact eb.out Q rfl|exact eb.out (Below.heap_setCell _ ⟨aa,_,I⟩ _ _ eY) (Below.heap_setCell _ ⟨aa,_,I⟩ _ _ eZ)) (fail)
        go_wp2_with fail;go_roundg (O ks - (B+1))
        case measure=>rw[ce.out];omega
        case rel=>exact⟨B+1,_,_,_,_,Q,by go_num,a0,⟨ec.1,ed.drew.trans (ec.2.1.mono (λ_ _ h=>h) ed.size),List.length_set.trans Y.tl,lT Y.hH de,G.hf⟩⟩
    ·have fO:(T==0)=false:=sU cV;go_wp2_with (go_at_call 30;refine(bM al.s.mk').mono ?_;rintro d a2 ⟨rfl,rfl⟩)
     go_roundg (O ks - (B+1))
     case measure=>rw[ce.out];omega
     case rel=>exact⟨B+1,_,_,_,_,Q,by go_num,a0,al⟩
   ·have fP:(V==6)=false:=sU cT;go_wp2_with fail;go_roundg (O ks - (B+1))
    case measure=>rw[ce.out];omega
    case rel=>exact⟨B+1,_,_,_,_,Q,by go_num,a0,al⟩
  ·have ei:¬(B:Int)<(O ks:Int):=oM;go_wp2_with fail;go_end0;exact⟨T,a,X,bg,Q,ab.s,(aj.out ab.kx).1,ab.tl,ab.hH,ab.hf⟩
end
end Go.Proofs.YtdghkacbpebcoaaGreat
