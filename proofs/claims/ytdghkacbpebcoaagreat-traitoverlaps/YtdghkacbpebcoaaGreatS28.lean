import Derived.Test.YtdghkacbpebcoaaGreatS27
namespace Go.Proofs.YtdghkacbpebcoaaGreat
open Go.RowKit
open Value renaming slice→J
open List renaming length→O
open Option renaming none→I
open World renaming heap→U
open _root_.Array renaming size→E
open Obj renaming cells→Ob
set_option linter.all false
set_option maxRecDepth 100000
set_option maxHeartbeats 0
section
variable{fn:Func} {kind n:Int} {es:List Value} {B b f r:Nat} {S:Nat->Prop} {W w:World}
def wW (m:Nat):List Value->Bool
 |.int _ k::.int _ n::_=>k==5&&(decide (0<=n)&&decide (n<(m:Int)))
 |_=>false
def xg:List Value->Nat
 |_::.int _ n::_=>n.toNat
 |_=>0
def eY:Nat->World->List Value->List Value->Value
 |0,_,_,_=>undef
 |h+1,w,es,cs=>if wW (O es) cs then(es[xg cs]?).getD undef else .agg #[.agg (cs.take 2).toArray,.agg (rowAt w 1 (xh cs)).flatten.toArray,.agg ((rowAt w 4 (lF cs)).map (eY h w es)).toArray]
section
variable{S:Nat->Prop} {G:Int->Int->Nat->Nat->Prop} {w w':World}
theorem jX {h:Nat} {lv a:Value} {ls:List Int} {vs:VV} (d:wW (O es) (ak kind n lv a).toList=false) (e:ro w S 1 lv (O ls) (aN ls)) (i:ro w S 4 a (O vs) vs.flatten) (j:∀x∈vs,af S G h w x):eY (f+1) w es (ak kind n lv a).toList=.agg #[.agg #[vN kind,vN n],.agg (aN ls).toArray,.agg (vs.map (eY f w es)).toArray]:=by
 have k:=kH e;have l:=fB i (λx m=>af.four h x (j x m));unfold eY;rw[if_neg (by rw[d];decide)];show Value.agg #[_,.agg (rowAt w 1 lv).flatten.toArray,.agg ((rowAt w 4 a).map (eY f w es)).toArray]=_;rw[k,l,iC];rfl
theorem mh {cs:List Value} (a:wW (O es) cs=true):eY (f+1) w es cs=(es[xg cs]?).getD undef:=by
 unfold eY;rw[if_pos a]
theorem kA (d:aq S w w') (e:E (U w)<=E (U w')) (es:List Value):(h:Nat)->(cs:List Value)->af S G h w cs->∀f,eY f w' es cs=eY f w es cs
 |0,_,hn,_=>absurd hn (λa=>a)
 |_+1,_,_,0=>rfl
 |h+1,_,⟨kind,n,lv,av,ls,vs,h1,h2,h3,h4,h5,h6,h7⟩,f+1=>by
  subst h1
  cases i:wW (O es) (ak kind n lv av).toList
  ·rw[jX i h2 h3 h7,jX (G:=G) i (h2.frame d e) (h3.frame d e) (λa j=>af.frame d e h a (h7 a j))];have:vs.map (eY f w' es)=vs.map (eY f w es):=List.map_congr_left (λa j=>kA d e es h a (h7 a j) f);rw[this]
  ·rw[mh i,mh i]
end
abbrev eJ:Array Value:=ak 0 0 (J I 0 0) (J I 0 0)
theorem pv:(Tryz.prog.info? 41).map (λa=>(a.zero,a.size,a.bytes))=some (some (.agg eJ),4,64):=by kernel_rfl
def bA (w:World) (b:Nat) (c:Array Value):Prop:=w.heap[b]? =some (Ob c 41 (0,0))
section
variable{w w':World} {b:Nat} {c:Array Value}
theorem bA.cell (h:bA w b c) (o:Nat):w.cell? ⟨b,o,I⟩=c[o]? :=cell_of_row w b o c 41 (0,0) h
theorem bA.fz (h:bA w b c) (o:Nat):w.frozen? ⟨b,o,I⟩=false:=frozen_of_row w b o c 41 h
theorem bA.lt (h:bA w b c):b<E (U w):=(gE h).1
theorem bA.at {ad:Nat} (w:World) (c:Array Value) (h:ad=E (U w)):bA (w.alloc (Ob c 41)) ad c:=h▸heap_alloc_new w _
theorem bA.alloc (h:bA w b c) (o:Obj):bA (w.alloc o) b c:=(Below.heap_alloc _ _ _ h.lt).trans h
theorem bA.below (h:bA w b c) (a:Below B w w') (hl:b<B):bA w' b c:=(a.block b hl).trans h
theorem bA.drew (h:bA w b c):bA w.drew b c:=h
theorem bA.grown {a:Option Nat} (h:bA w b c) (d:w.grownBy w' a) (e:some b≠a):bA w' b c:=(d.block b h.lt e).trans h
theorem bA.other (h:bA w b c) {p:Addr} (a:b≠p.block) (u:Value):bA (w.setCell p u) b c:=(Below.heap_setCell _ _ _ _ a).trans h
theorem bA.set (h:bA w b c) (o:Nat) (u:Value):bA (w.setCell ⟨b,o,I⟩ u) b (c.setIfInBounds o u):=heap_setCell_same w b o c 41 u h
end
abbrev bQ (w:World) (b:Nat) (c0 c1 c2 c3:Value):World:=(((w.setCell ⟨b,0,I⟩ c0).setCell ⟨b,1,I⟩ c1).setCell ⟨b,2,I⟩ c2).setCell ⟨b,3,I⟩ c3
theorem bA.bQ {i e d a:Value} (h:bA w b #[i,e,d,a]) (c0 c1 c2 c3:Value):bA (Go.Proofs.YtdghkacbpebcoaaGreat.bQ w b c0 c1 c2 c3) b #[c0,c1,c2,c3]:=by
 have j:bA (w.setCell ⟨b,0,I⟩ c0) b #[c0,e,d,a]:=h.set 0 c0;have k:bA ((w.setCell ⟨b,0,I⟩ c0).setCell ⟨b,1,I⟩ c1) b #[c0,c1,d,a]:=j.set 1 c1;have l:bA (((w.setCell ⟨b,0,I⟩ c0).setCell ⟨b,1,I⟩ c1).setCell ⟨b,2,I⟩ c2) b #[c0,c1,c2,a]:=k.set 2 c2;exact l.set 3 c3
theorem Below.bQ {a:World} (h:Below B a w) (d:B<=b) (c0 c1 c2 c3:Value):Below B a (Go.Proofs.YtdghkacbpebcoaaGreat.bQ w b c0 c1 c2 c3):=
 Below.setCell (p:=⟨b,3,I⟩) (Below.setCell (p:=⟨b,2,I⟩) (Below.setCell (p:=⟨b,1,I⟩) (Below.setCell (p:=⟨b,0,I⟩) h d _) d _) d _) d _
theorem aq.bQ (h:¬S b) (c0 c1 c2 c3:Value):aq S w (Go.Proofs.YtdghkacbpebcoaaGreat.bQ w b c0 c1 c2 c3):=
 ((((aq.setCell w ⟨b,0,I⟩ c0 h).trans (aq.setCell _ ⟨b,1,I⟩ c1 h) sQ).trans (aq.setCell _ ⟨b,2,I⟩ c2 h) sQ).trans (aq.setCell _ ⟨b,3,I⟩ c3 h) sQ)
theorem dX (d:fn.results=#[.cell r 41]) {a:Array Value} (e:a.getD r undef=.pointer (aS b)) {c0 c1 c2 c3:Value} (i:bA W b #[c0,c1,c2,c3]):
 (results fn a).run Tryz.prog W=.ok (.agg #[c0,c1,c2,c3]) W:=by
 have j:=i.cell;have k:a[r]?.getD undef=.pointer (aS b):=sU e;simp[results,d,k,go_sem,j]
def iE (w:World) (S:Nat->Prop) (G:Int->Int->Nat->Nat->Prop) (H:Nat) (Ez:Value) (e:Ending) (w':World):Prop:=
 ∃(kind n:Int) (aD:OA) (ln lc:Nat) (aao:OA) (an ac:Nat),e=.returned (.agg (ak kind n (J aD ln lc) (J aao an ac)))/\af (λb=>S b\/E (U w)<=b) G H w' (ak kind n (J aD ln lc) (J aao an ac)).toList/\enc H w' (ak kind n (J aD ln lc) (J aao an ac)).toList=Ez/\Below (E (U w)) w w'
theorem vQ (t:fn.results=#[.cell r 41]) {l:Act} (u:l.defers=[]) {z:Nat} (v:l.tmps.getD r undef=.pointer (aS z)) (x:bA W z eJ) (y:E (U w)<=z) (m:Below (E (U w)) w W) {G:Int->Int->Nat->Nat->Prop} {H:Nat} {o:Value}
 {a:OA} {d e:Nat} {i:OA} {j k:Nat} (p:af (λb=>(S b\/E (U w)<=b)/\b≠z) G H W (ak kind n (J a d e) (J i j k)).toList) (A:enc H W (ak kind n (J a d e) (J i j k)).toList=o):
  bodyPost Tryz.prog fn (iE w S G H o) .ret l (bQ W z (vN kind) (vN n) (J a d e) (J i j k)):=by
  have q:aq (λb=>(S b\/E (U w)<=b)/\b≠z) W (bQ W z (vN kind) (vN n) (J a d e) (J i j k)):=aq.bQ (λC=>C.2 Q) _ _ _ _;have s:E (U W)<=E (U (bQ W z (vN kind) (vN n) (J a d e) (J i j k))):=sQ;refine bodyPost_ret (dX t v (bA.bQ x _ _ _ _)) u ⟨kind,n,a,d,e,i,j,k,Q,af.weaken (λb m _=>m.1) _ _ (af.frame q s _ _ p),?_,Below.bQ m y _ _ _ _⟩;rw[dO q s _ _ p,A]
end
section
def om (w:World) (S:Nat->Prop) (o z:Nat) (kv:Value) (b:Nat):Prop:=(S b/\b<E (U w)\/E (U w)<=b)/\b≠o/\b≠z/\kv.ownBlock≠some b
structure TL (w:World) (S:Nat->Prop) (G:Int->Int->Nat->Nat->Prop) (H o z:Nat) (c:Array Value) (wr:World) (kv:Value) (vs:VV):Prop where
 below:Below (E (U w)) w wr
 ob:bA wr o c
 zb:bA wr z eJ
 lo:E (U w)<=o
 lz:E (U w)<=z
 ne:o≠z
 row:wr.ownsRow (E (U w)) 41 4 kv (O vs) vs.flatten
 eK:∀b,kv.ownBlock=some b->b≠o/\b≠z
 all:∀x∈vs,af (om w S o z kv) G H wr x
section
variable{w wr w':World} {S:Nat->Prop} {G:Int->Int->Nat->Nat->Prop} {H o z:Nat} {c:Array Value} {kv:Value} {vs:VV}
theorem TL.step (q:TL w S G H o z c wr kv vs) (a:Below (E (U wr)) wr w'):TL w S G H o z c w' kv vs:=
 ⟨q.below.trans (a.mono q.below.size),q.ob.below a q.ob.lt,q.zb.below a q.zb.lt,q.lo,q.lz,q.ne,ah q.row (λb _ d=>a.block b d),q.eK,λe f=>af.frame (aq.below a) a.size _ _ (q.all e f)⟩
theorem TL.yb (q:TL w S G H o z c wr kv vs) (a:Below (E (U wr)) wr w'):vs.map (enc H w')=vs.map (enc H wr):=List.map_congr_left (λb d=>dO (aq.below a) a.size _ _ (q.all b d) H)
theorem TL.put (q:TL w S G H o z c wr kv vs) (i:Nat) (u:Value):TL w S G H o z (c.setIfInBounds i u) (wr.setCell ⟨o,i,I⟩ u) kv vs/\vs.map (enc H (wr.setCell ⟨o,i,I⟩ u))=vs.map (enc H wr):=by
 have e:aq (om w S o z kv) wr (wr.setCell ⟨o,i,I⟩ u):=aq.setCell _ ⟨o,i,I⟩ _ (λa=>a.2.1 Q);have f:E (U wr)<=E (U (wr.setCell ⟨o,i,I⟩ u)):=sQ;exact⟨⟨q.below.setCell (p:=⟨o,i,I⟩) q.lo u,q.ob.set i u,q.zb.other (p:=⟨o,i,I⟩) (λb=>q.ne b.symm) u,q.lo,q.lz,q.ne,ah q.row (λj k _=>Below.heap_setCell _ _ _ _ (λb=>(q.eK j k).1 b)),q.eK,λa d=>af.frame e f _ _ (q.all a d)⟩,List.map_congr_left (λa d=>dO e f _ _ (q.all a d) H)⟩
theorem nZ (w:World) (kind n:Int) (lv b:Value) (t:TypeId):∀a d,(ak kind n lv b).toList[a]? =some d->(w.alloc (Ob (ak kind n lv b) t)).cell? ((⟨E (U w),0,I⟩:Addr).add a)=some d:=by
 intro a d e;have f:(⟨E (U w),0,I⟩:Addr).add a=⟨E (U w),a,I⟩:=by unfold Addr.add;split<;>simp_all
 rw[f,cell_of_row _ (E (U w)) a (ak kind n lv b) t (0,0) (heap_alloc_new w _)];simpa using e
theorem TL.run (q:TL w S G H o z c wr kv vs) {kind n:Int} {a:OA} {b d:Nat} {e:OA} {f i:Nat} (x:af (om w S o z kv) G H wr (ak kind n (J a b d) (J e f i)).toList) (au:O vs<=30000) (D:TypeId) {ad:Nat} (V:ad=E (U wr)):
 ∃A w',(Builtin.append_ #[39,39] D #[kv,J (aS ad) 1 1]).run Tryz.prog (wr.alloc (Ob (ak kind n (J a b d) (J e f i)) 41))=.ok A w'/\∃t u,A=J t (O vs+1) u/\TL w S G H o z c w' (J t (O vs+1) u) (vs++[(ak kind n (J a b d) (J e f i)).toList])/\
  (vs++[(ak kind n (J a b d) (J e f i)).toList]).map (enc H w')=vs.map (enc H wr)++[enc H wr (ak kind n (J a b d) (J e f i)).toList]:=by
 subst V;obtain⟨W,X,Y,Z,aa⟩:=info_parts pv;have v:Below (E (U wr)) wr (wr.alloc (Ob (ak kind n (J a b d) (J e f i)) 41)):=(Below.refl _ _).alloc (lR _) _;have p:=q.step v;have ab:=af.frame (aq.below v) v.size _ _ x
 have one:∀F∈(ak kind n (J a b d) (J e f i)).toList,F.oneCell'=true:=by
  intro F x;simp at x;rcases x with rfl|rfl|rfl|rfl<;>rfl
 obtain⟨A,w',ac,K,r,_,L⟩:=run_append_own_at (P:=Tryz.prog) (wr.alloc (Ob (ak kind n (J a b d) (J e f i)) 41)) (E (U w)) 39 D 41 W _ 4 64 Tryz.underlying39 X Y Z aa Q dC kv (O vs) vs.flatten p.row ⟨E (U wr),0,I⟩ 1 1 (ak kind n (J a b d) (J e f i)).toList Q (nZ _ _ _ _ _ _) one (by unfold maxLen;omega) oM p.below.size
 have ae:∃t u,A=J t (O vs+1) u:=by
  rcases K.2 with⟨M,av⟩|⟨j,y,zz,M,_⟩
  ·omega
  ·exact⟨_,_,M⟩
 obtain⟨t,u,rfl⟩:=ae;have N:∀(h:Nat) (j:List Value) (S:Nat->Prop),af S G h (wr.alloc (Ob (ak kind n (J a b d) (J e f i)) 41)) j->af (λk=>S k/\k<E (U (wr.alloc (Ob (ak kind n (J a b d) (J e f i)) 41)))) G h (wr.alloc (Ob (ak kind n (J a b d) (J e f i)) 41)) j:=λh j S l=>af.weaken (λk s B=>⟨s,B⟩) _ _ l;have R:aq (λk=>om w S o z kv k/\k<E (U (wr.alloc (Ob (ak kind n (J a b d) (J e f i)) 41)))) (wr.alloc (Ob (ak kind n (J a b d) (J e f i)) 41)) w':=aq.grown r (λk m s=>s.1.2.2.2 m)
 have ag:∀k,om w S o z kv k/\k<E (U (wr.alloc (Ob (ak kind n (J a b d) (J e f i)) 41)))->om w S o z (J t (O vs+1) u) k:=by
  rintro k ⟨⟨ah,ai,aj,al⟩,B⟩;refine⟨ah,ai,aj,?_⟩;rcases L with m|m
  ·rw[m];exact al
  ·rw[m];intro ao;simp at ao B;omega
 have T:∀j∈vs++[(ak kind n (J a b d) (J e f i)).toList],af (om w S o z kv) G H (wr.alloc (Ob (ak kind n (J a b d) (J e f i)) 41)) j:=by
  intro j l;rcases List.mem_append.1 l with l|l
  ·exact p.all j l
  ·obtain rfl:j=_:=sU l;exact ab
 refine⟨_,w',ac,t,u,Q,⟨?_,p.ob.grown r (λm=>(q.eK o m.symm).1 Q),p.zb.grown r (λm=>(q.eK z m.symm).2 Q),q.lo,q.lz,q.ne,sU K,?_,λj l=>af.weaken (λk s _=>ag k s) _ _ (af.frame R r.size _ _ (N _ _ _ (T j l)))⟩,?_⟩
 ·exact⟨r.os.trans p.below.os,r.tape.trans p.below.tape,r.output.trans p.below.output,lT p.below.size r.size,λC ap=>(r.block C (oH p.below.size) (λm=>oH (q.row.lt C m.symm).1)).trans (p.below.block C ap)⟩
 ·intro k s;rcases L with m|m
  ·exact q.eK k (by rw[<-m];exact s)
  ·rw[m] at s;have aw:=q.ob.lt;have ax:=q.zb.lt;simp at s;omega
 ·have ar:∀j∈vs++[(ak kind n (J a b d) (J e f i)).toList],enc H w' j=enc H wr j:=λj l=>(dO R r.size _ _ (N _ _ _ (T j l)) H).trans (by
   rcases List.mem_append.1 l with l|l
   ·exact dO (aq.below v) v.size _ _ (q.all j l) H
   ·obtain rfl:j=_:=sU l;exact dO (aq.below v) v.size _ _ x H)
  rw[List.map_congr_left ar,List.map_append];rfl
end
theorem qK {W:World} {e:Array Oper} {o:Oper} {a:Act} {K:Act->World->Prop} {f:Exit->Act->World->Prop} {i:Prop} (j:o.guard=I) {s x:Operand} (k:o.op=.call {callee:=.builtin .append,args:=#[s,x],argTypes:=#[39,39]}) {v xv:Value} (l:a.eval s=v) (m:a.eval x=xv) {R:Value->World->Prop}
 (d:∃b w',(Builtin.append_ #[39,39] o.type #[v,xv]).run Tryz.prog W=.ok b w'/\R b w') (h:∀b w',R b w'->K (a.put o.dst b) w'):if Region.wanted o (yielded e a.tmps)=true then Oper.wp Tryz.prog o a W K f else i:=by
  have n:Region.wanted o (yielded e a.tmps)=true:=by simp[Region.wanted,j]
  rw[if_pos n];obtain⟨b,w',d,p⟩:=d;unfold Oper.wp execOp;simp only[k,resolve,invoke,builtin,Sem.run_bind,Sem.run_pure,Result.andThen_ok,List.map_toArray,List.map_cons,List.map_nil,l,m,d];exact h b w' p
end
section
variable{kind n:Int} {H ac an h lc ln m:Nat} {S:Nat->Prop} {aao aD:OA} {av lv:Value} {W w:World}
def sc (F:Nat) (G:Int->Int->Nat->Nat->Prop) (hw h:Nat):Prop:=∀{S:Nat->Prop} {w:World} {kind n:Int} {aD:OA} {ln lc:Nat} {aao:OA} {an ac:Nat} {wo:OA} {wn wc:Nat} {ws:VV},af S G h w (ak kind n (J aD ln lc) (J aao an ac)).toList->ro w (λ_=>True) 4 (J wo wn wc) (O ws) ws.flatten->(∀x∈ws,af S G hw w x)->
 Calls Tryz.prog F #[.agg (ak kind n (J aD ln lc) (J aao an ac)),J wo wn wc] w (iE w S G (h+hw) (eY h w (ws.map (enc hw w)) (ak kind n (J aD ln lc) (J aao an ac)).toList))
theorem mw {c:Func} {r:Nat} (e:c.results=#[.cell r 41]) {a:Act} (f:a.defers=[]) {z:Nat} (i:a.tmps.getD r undef=.pointer (aS z)) {G:Int->Int->Nat->Nat->Prop} {d:Value}
 (j:bA W z (ak kind n (J aD ln lc) (J aao an ac))) (k:Below (E (U w)) w W) (l:af (λb=>S b\/E (U w)<=b) G H W (ak kind n (J aD ln lc) (J aao an ac)).toList) (o:enc H W (ak kind n (J aD ln lc) (J aao an ac)).toList=d):
  bodyPost Tryz.prog c (iE w S G H d) .ret a W:=
  bodyPost_ret (dX e i j) f ⟨kind,n,aD,ln,lc,aao,an,ac,Q,l,o,k⟩
theorem ph {G:Int->Int->Nat->Nat->Prop} {cs:List Value} (c:af S G h w cs) (a:Below (E (U w)) w W) (d:h<=H):af (λb=>S b\/E (U w)<=b) G H W cs/\enc H W cs=enc h w cs:=by
 have e:=af.frame (aq.below a) a.size _ _ c;refine⟨af.le (af.weaken (λb f _=>.inl f) _ _ e) _ d,?_⟩;rw[nT _ _ e H d,dO (aq.below a) a.size _ _ c]
theorem ve (a:kind=5) (b:0<=n) (c:n<(m:Int)):wW m (ak kind n lv av).toList=true:=by
 show(kind==5&&(decide (0<=n)&&decide (n<(m:Int))))=true;simp[a,b,c]
theorem tM (h:¬(kind=5/\0<=n/\n<(m:Int))):wW m (ak kind n lv av).toList=false:=by
 show(kind==5&&(decide (0<=n)&&decide (n<(m:Int))))=false;by_cases a:kind=5
 ·by_cases b:0<=n
  ·have c:¬n<(m:Int):=λd=>h ⟨a,b,d⟩;simp[c]
  ·simp[b]
 ·simp[a]
theorem oO {G:Int->Int->Nat->Nat->Prop} {hw:Nat} (R:∀k n nl na,G k n nl na->k=5->na=0) {p:OA} {L wc:Nat} {a:VV} (i:af S G (h+1) w (ak 5 n (J aD ln lc) (J aao an ac)).toList) (j:ro w (λ_=>True) 4 (J p L wc) (O a) a.flatten) (c:∀x∈a,af S G hw w x):
 Calls Tryz.prog 89 #[.agg (ak 5 n (J aD ln lc) (J aao an ac)),J p L wc] w (iE w S G (h+1+hw) (eY (h+1) w (a.map (enc hw w)) (ak 5 n (J aD ln lc) (J aao an ac)).toList)):=by
 obtain rfl:=j.len;by_cases T:0<=n/\n<(O a:Int)
 ·obtain⟨m,rfl⟩:∃m:Nat,n=(m:Int):=⟨n.toNat,oM⟩;have q:m<O a:=oM;obtain⟨g,V,d,hS,aj,b⟩:=j.nth (λx X=>af.four _ _ (c x X)) q;obtain⟨rfl,rfl⟩:p=some ⟨g,0,I⟩/\wc=V:=sU d;have r:a[m]∈a:=List.getElem_mem q;obtain⟨s,t,u,v,y,z,al1,A,B⟩:=af.cells _ (c _ r);have C:=c _ r;rw[B] at b C;have M:=b 0 dC;have Y:=b 1 dC;have Z:=b 2 dC;have aa:=b 3 dC;simp only[Nat.add_zero] at M;simp at M Y Z aa;have ab:(m:Int)<(O a:Int):=oM
  have l:Hid (eY (h+1) w (a.map (enc hw w)) (ak 5 (m:Int) (J aD ln lc) (J aao an ac)).toList=enc hw w (ak s t (J u v y) (J z al1 A)).toList):=by
   show eY (h+1) w (a.map (enc hw w)) (ak 5 (m:Int) (J aD ln lc) (J aao an ac)).toList=_;rw[mh (ve Q oM (sU ab))];show((a.map (enc hw w))[((m:Nat):Int).toNat]?).getD undef=_;rw[Int.toNat_natCast,List.getElem?_map,gG q,B];rfl
  have o:Hid (af S G hw w (ak s t (J u v y) (J z al1 A)).toList):=C;clear C B r b d i j c;go_enter Tryz.func89,Tryz.ntmps89
  go_wp2_with fail;go_light;obtain⟨e,f⟩:=ph (H:=h+1+hw) o.out (bY w (Ob (ak 5 (m:Int) (J aD ln lc) (J aao an ac)) 41) (Ob (ak s t (J u v y) (J z al1 A)) 41)) oM;exact mw Tryz.results89 Q Q (bA.at _ _ sQ) (bY w _ _) e (f.trans l.out.symm)
 ·obtain⟨al,ad,D,F,ae,ag,N,K⟩:=i.parts;have P:ad=[]:=List.eq_nil_of_length_eq_zero (R _ _ _ _ N Q)
  have l:Hid (eY (h+1) w (a.map (enc hw w)) (ak 5 n (J aD ln lc) (J aao an ac)).toList=enc (h+1) w (ak 5 n (J aD ln lc) (J aao an ac)).toList):=by
   show eY (h+1) w (a.map (enc hw w)) (ak 5 n (J aD ln lc) (J aao an ac)).toList=_;rw[jX (tM (λd=>T ⟨d.2.1,sU d.2.2⟩)) D F K,jC D F K,P];rfl
  have o:Hid (af S G (h+1) w (ak 5 n (J aD ln lc) (J aao an ac)).toList):=i;clear D F ae ag N K i j c P;by_cases ah:0<=n
  ·have ai:decide (n<(O a:Int))=false:=by simp;omega
   go_enter Tryz.func89,Tryz.ntmps89
   go_wp2_with fail;go_light;obtain⟨e,f⟩:=ph (H:=h+1+hw) o.out (bY w (Ob (ak 5 n (J aD ln lc) (J aao an ac)) 41) (Ob (ak 5 n (J aD ln lc) (J aao an ac)) 41)) oM;exact mw Tryz.results89 Q Q (bA.at _ _ sQ) (bY w _ _) e (f.trans l.out.symm)
  ·have ai:decide (0<=n)=false:=sU ah;go_enter Tryz.func89,Tryz.ntmps89
   go_wp2_with fail;go_light;obtain⟨e,f⟩:=ph (H:=h+1+hw) o.out (bY w (Ob (ak 5 n (J aD ln lc) (J aao an ac)) 41) (Ob (ak 5 n (J aD ln lc) (J aao an ac)) 41)) oM;exact mw Tryz.results89 Q Q (bA.at _ _ sQ) (bY w _ _) e (f.trans l.out.symm)
end
section
variable{kind n:Int} {lc ln:Nat} {S:Nat->Prop} {aD:OA} {w:World}
section
variable{w wr w':World} {S:Nat->Prop} {G:Int->Int->Nat->Nat->Prop} {H o z:Nat} {c:Array Value} {kv:Value} {vs:VV}
theorem vZ (q:TL w S G H o z c wr kv vs) {cs:List Value} (e:af (λb=>(S b/\b<E (U w))\/E (U wr)<=b) G H w' cs):af (om w S o z kv) G H w' cs:=by
 refine af.weaken (λb a _=>?_) _ _ e;have f:=q.ob.lt;have i:=q.zb.lt;have j:=q.lo;have k:=q.lz;have l:=q.below.size;rcases a with a|a
 ·exact⟨.inl a,oM,oM,λd=>oH (q.row.lt b d).1⟩
 ·exact⟨.inr oM,oM,oM,λd=>oH (q.row.lt b d).2⟩
theorem uZ {ls:List Int} (q:TL w S G H o z c wr kv vs) (hl:ro w S 1 (J aD ln lc) (O ls) (aN ls)) (k:G kind n (O ls) (O vs)) (l:O ls<=30000) (m:O vs<=30000):
 af (λa=>(S a\/E (U w)<=a)/\a≠z) G (H+1) wr (ak kind n (J aD ln lc) kv).toList/\enc (H+1) wr (ak kind n (J aD ln lc) kv).toList=.agg #[.agg #[vN kind,vN n],.agg (aN ls).toArray,.agg (vs.map (enc H wr)).toArray]:=by
 have f:ro wr (λa=>(S a\/E (U w)<=a)/\a≠z) 1 (J aD ln lc) (O ls) (aN ls):=by
  have p:ro w (λa=>(S a\/E (U w)<=a)/\a≠z) 1 (J aD ln lc) (O ls) (aN ls):=hl.weaken (λa b s=>⟨.inl b,oH q.lz⟩);exact p.frame (aq.below q.below) q.below.size
 have i:ro wr (λa=>(S a\/E (U w)<=a)/\a≠z) 4 kv (O vs) vs.flatten:=ro.bH q.row (λa b=>⟨.inr (q.row.lt a b).1,(q.eK a b).2⟩);have j:∀d∈vs,af (λa=>(S a\/E (U w)<=a)/\a≠z) G H wr d:=λd r=>af.weaken (λa b _=>⟨b.1.imp (λe=>e.1) (λe=>e),b.2.2.1⟩) _ _ (q.all d r);exact⟨⟨kind,n,_,_,ls,vs,Q,f,i,l,m,k,j⟩,jC f i j⟩
end
theorem nj {G:Int->Int->Nat->Nat->Prop} {hw h:Nat} (aJ:sc 89 G hw h) (aK:kind≠5) {A:OA} {V D:Nat} {W:OA} {X wc:Nat} {t:VV} (aL:af S G (h+1) w (ak kind n (J aD ln lc) (J A V D)).toList) (aM:ro w (λ_=>True) 4 (J W X wc) (O t) t.flatten) (aO:∀x∈t,af S G hw w x):
 Calls Tryz.prog 89 #[.agg (ak kind n (J aD ln lc) (J A V D)),J W X wc] w (iE w S G (h+1+hw) (eY (h+1) w (t.map (enc hw w)) (ak kind n (J aD ln lc) (J A V D)).toList)):=by
 have aP:Hid (sc 89 G hw h):=aJ;clear aJ;obtain⟨F,b,aj,Y,aQ,al,aR,K⟩:=aL.parts;have bx:(kind==5)=false:=sU aK;obtain⟨H,aT⟩:∃H,H=h+hw:=⟨_,Q⟩;have aU:h+1+hw=H+1:=oM;rw[aU];obtain⟨s,ao⟩:∃s,s=t.map (enc hw w):=⟨_,Q⟩;have ba:Hid (eY (h+1) w s (ak kind n (J aD ln lc) (J A V D)).toList=.agg #[.agg #[vN kind,vN n],.agg (aN F).toArray,.agg (b.map (eY h w s)).toArray]):=jX (tM (λu=>aK u.1)) aj Y K;rw[<-ao];obtain rfl:=Y.len
 have bb:Hid (∀(w':World),Below (E (U w)) w w'->∀x∈b,∀{f i:Int} {j:OA} {k l:Nat} {m:OA} {al1 q:Nat},x=(ak f i (J j k l) (J m al1 q)).toList->Calls Tryz.prog 89 #[.agg (ak f i (J j k l) (J m al1 q)),J W X wc] w' (iE w' (λr=>S r/\r<E (U w)) G H (eY h w s x))):=by
  intro w' e x L f i j k l m al1 q u;subst u;have Z:af (λr=>S r/\r<E (U w)) G h w _:=af.weaken (λr e ap=>⟨e,ap⟩) _ _ (K _ L);have ar:=af.frame (aq.below e) e.size _ _ Z;have bc:ro w (λ_=>True) 4 (J W X wc) (O t) t.flatten:=aM;have aV:∀y∈t,af (λr=>S r/\r<E (U w)) G hw w y:=λy M=>af.weaken (λr e ap=>⟨e,ap⟩) _ _ (aO y M);have c:=aP.out ar (bc.frame (aq.below e) e.size) (λy M=>af.frame (aq.below e) e.size _ _ (aV y M));rw[List.map_congr_left (λy M=>dO (aq.below e) e.size _ _ (aV y M) hw),<-ao,kA (aq.below e) e.size s _ _ Z h,<-aT] at c;exact c
 have bd:Hid (∀a,a<O b->∃g,A=some ⟨g,0,I⟩/\g<E (U w)/\∃f i j k l m al1 q,b[a]? =some (ak f i (J j k l) (J m al1 q)).toList/\∀o,o<4->w.cell? ⟨g,a*4+o,I⟩=(ak f i (J j k l) (J m al1 q))[o]?):=by
  intro a B;obtain⟨g,c,u,hS,au,aa⟩:=Y.nth (λx L=>af.four _ _ (K x L)) B;obtain⟨rfl,rfl⟩:A=some ⟨g,0,I⟩/\D=c:=sU u;obtain⟨f,i,j,k,l,m,al1,q,C⟩:=af.cells _ (K _ (List.getElem_mem B));refine⟨g,Q,au,f,i,j,k,l,m,al1,q,by rw[gG B,C],λo av=>?_⟩;rw[aa o av,C];simp
 have bf:Hid (ro w S 1 (J aD ln lc) (O F) (aN F)):=aj;have aW:Hid (G kind n (O F) (O b)/\O F<=30000/\O b<=30000):=⟨aR,aQ,al⟩;have bz:O b<=30000:=al;clear aj Y aQ al aR K aL aM aO ao aT aU aP;go_enter Tryz.func89,Tryz.ntmps89
 go_wp2_with fail;go_loopg [7,37] (O b) (λbg _ bh wr=>∃(a:Nat) (kv:Value) (vs:VV),bg=O b - a/\bh=vN a/\a<=O b/\O vs=a/\vs.map (enc H wr)=(b.take a).map (eY h w s)/\TL w S G H (E (U w)+2) (E (U w)+1) (ak kind n (J aD ln lc) kv) wr kv vs)
 case atStart=>
  refine⟨0,J I 0 0,[],Q,Q,zL _,Q,Q,⟨?_,bA.at _ _ sQ,(bA.at _ _ sQ).alloc _,oM,oM,oM,World.ownsRow_nil _ _ _ _,λr u=>by simp[Value.ownBlock] at u,λx L=>by cases L⟩⟩;exact(bY w _ _).alloc (by simp;omega) _
 case round=>
  obtain⟨a,kv,vs,aX,rfl,bB,aY,aZ,d⟩:=hrel;have bi:Hid (gk=O b - a):=aX;have a0:Hid (O vs=a):=aY;have aw:Hid (vs.map (enc H wr)=(b.take a).map (eY h w s)):=aZ;have a1:O vs<=30000:=oM;clear aX aY aZ
  obtain⟨ab,ac,rfl⟩:∃ab ac,kv=J ab (O vs) ac:=by
   rcases d.row.2 with⟨C,bj⟩|⟨x,y,zz,C,_⟩
   ·exact⟨I,0,by rw[C,bj]⟩
   ·exact⟨_,_,C⟩
  have ad:=d.ob.cell;have ae:=d.ob.fz;have ag:=d.ob.lt;have bk:=d.zb.cell;have bl:=d.zb.fz;have bm:=d.zb.lt;have bC:E (U w)+2≠E (U w)+1:=oM;have bD:E (U w)+1≠E (U w)+2:=oM;by_cases B:a<O b
  ·obtain⟨g,rfl,au,f,i,j,k,l,m,al1,q,a2,aa⟩:=bd.out a B;have a3:(a:Int)<(O b:Int):=oM;have bE:=d.below.size;have bF:g<E (U wr):=oM;have N:∀o,o<4->wr.cell? ⟨g,a*4+o,I⟩=(ak f i (J j k l) (J m al1 q))[o]? :=λo av=>(d.below.cell (p:=⟨g,a*4+o,I⟩) au).trans (aa o av);have bn:=N 0 dC;have a4:=N 1 dC;have bG:=N 2 dC;have bH:=N 3 dC;clear N aa;simp only[Nat.add_zero] at bn;have ax:Below (E (U wr)) wr (wr.alloc (Ob (ak f i (J j k l) (J m al1 q)) 41)).drew:=((Below.refl _ _).alloc (lR _) _).drew;have ay:=d.step ax;have bo:Hid (vs.map (enc H (wr.alloc (Ob (ak f i (J j k l) (J m al1 q)) 41)).drew)=(b.take a).map (eY h w s)):=(d.yb ax).trans aw.out;have a5:Hid (b[a]? =some (ak f i (J j k l) (J m al1 q)).toList):=a2;clear a2 aw;go_wp2_with fail;go_region_law (first|(refine qK (v:=J ab (O vs) ac) (xv:=J (aS (E (U az))) 1 1) (R:=λbp a6=>∃P T,bp=J P (O vs+1) T/\TL w S G H (E (U w)+2) (E (U w)+1) (ak kind n (J aD ln lc) (J ab (O vs) ac)) a6 (J P (O vs+1) T) (vs++[(ak aA aB (J aC aE aF) (J aG aH aI)).toList])/\(vs++[(ak aA aB (J aC aE aF) (J aG aH aI)).toList]).map (enc H a6)=vs.map (enc H az)++[enc H az (ak aA aB (J aC aE aF) (J aG aH aI)).toList]) rQ rQ rQ rQ (ah.run bq a1 _ Q) ?_;rintro bI bJ ⟨P,T,rfl,ai,br⟩;clear ad ae ag;have ad:=ai.ob.cell;have ae:=ai.ob.fz;have ag:=ai.ob.lt)|(go_simp;refine(bb.out _ (d.below.trans (ax.mono d.below.size)) _ (mG a5.out) Q).mono ?_;rintro u az ⟨aA,aB,aC,aE,aF,aG,aH,aI,rfl,bs,a7,a8⟩;have ah:=ay.step a8;have a9:=(ay.yb a8).trans bo.out;have bq:=vZ ay bs;have bt:Hid _:=a9;have bu:Hid _:=a7;clear a9 a7;clear ad ae ag bk bl bm;have ad:=ah.ob.cell;have ae:=ah.ob.fz;have ag:=ah.ob.lt))
   all_goals
    go_wp2_with fail;obtain⟨bv,bw⟩:=ai.put 3 (J P (O vs+1) T);go_roundg (O b - (a+1))
    case measure=>rw[bi.out];omega
    case rel=>
     refine⟨a+1,J P (O vs+1) T,_,Q,by go_num,B,by simp[a0.out],?_,bv⟩;rw[bw,br,bt.out,bu.out,List.take_add_one,a5.out,List.map_append];rfl
  ·have a3:¬(a:Int)<(O b:Int):=oM;have bK:decide ((a:Int)<(O b:Int))=false:=sU a3;go_wp2_with fail;go_light;have a':a=O b:=oM;have a4:vs.map (enc H wr)=b.map (eY h w s):=by rw[aw.out,a',List.take_length]
   obtain⟨Z,ar⟩:=uZ d bf.out (by have:=aW.out.1;rwa [show O b=O vs by rw[a0.out,a']] at this) aW.out.2.1 a1;exact vQ Tryz.results89 Q Q d.zb oM d.below Z (by rw[ar,a4,ba.out])
end
section
variable{hw:Nat}
theorem ni {G:Int->Int->Nat->Nat->Prop} {h:Nat} (e:∀k n nl na,G k n nl na->k=5->na=0) (f:sc 89 G hw h):sc 89 G hw (h+1):=by
 intro j w i n l m o p q r s t wc u a b c;by_cases d:i=5
 ·subst d;exact oO e a b c
 ·exact nj f d a b c
theorem oP {G:Int->Int->Nat->Nat->Prop} (a:∀k n nl na,G k n nl na->k=5->na=0):(h:Nat)->sc 89 G hw h
 |0=>λb _ _=>absurd b (λc=>c)
 |h+1=>ni a (oP a h)
end
section
variable{fa fk how next one:Int} {T cb mb:Nat} {P:Nat->Prop} {w w':World}
structure Pt where
 name:ByteArray
 eZ:Bool
 ty:List Value
structure Cs where
 name:ByteArray
 ao:OA
 cp:Nat
 ps:List Pt
structure Dd where
 name:ByteArray
 mod:Int
 at_:Int
 eZ:Bool
 copy:Bool
 enum:Bool
 ai:Int
 cF:Int
 ao:OA
 cp:Nat
 cs:List Cs
 drop:Int
def Dd.c (d:Dd):List Value:=[.string d.name,vN d.mod,vN d.at_,.bool d.eZ,.bool d.copy,.bool d.enum,vN d.ai,vN d.cF,J d.ao (O d.cs) d.cp,vN d.drop]
structure MK where
 mo:OA
 mc:Nat
 ms:List Md
 df:OA
 eo:Nat
 ds:List Dd
 tv:Value
 iv:Value
 fv:Value
 mn:Int
 rv:Value
 fk:Int
 fa:Int
 nv:Value
abbrev jM (M:MK):Array Value:=#[J M.mo (O M.ms) M.mc,J M.df (O M.ds) M.eo,M.tv,M.iv,M.fv,vN M.mn,M.rv,vN M.fk,vN M.fa,M.nv]
structure PI (w:World) (mb:Nat) (M:MK) (T:Nat):Prop where
 dV:w.heap[mb]? =some (Ob (jM M) 66 (0,0))
 cE:di w (J M.mo (O M.ms) M.mc) M.ms
 q:∀m∈M.ms,∀y∈m.ns,NQ (O M.ds) T y
 cd:w.ownsRow 0 69 10 (J M.df (O M.ds) M.eo) (O M.ds) (M.ds.map Dd.c).flatten
 bj:1<=O M.ds/\O M.ds<=200000/\4<=T
 lg:∀d∈M.ds,0<=d.ai/\d.ai<=6100/\0<=d.cF/\d.cF<=6100
theorem fw (a:KT P w w') {b:Nat} {c:Array Value} {t:TypeId} {z:Nat × Nat} (h:w.heap[b]? =some (Ob c t z)) (d:P t):w'.heap[b]? =some (Ob c t z):=(a b c t z h d).trans h
theorem PI.kt {M:MK} (h:PI w mb M T) (a:KT P w w') (b:P 66) (c:P 102) (d:P 104) (e:P 69):PI w' mb M T:=
 ⟨fw a h.dV b,h.cE.kt a c d,h.q,ag h.cd a e,h.bj,h.lg⟩
theorem PI.data {M:MK} (h:PI w mb M T) {i:Nat} {d:Dd} (b:M.ds[i]? =some d):∃g,M.df=some ⟨g,0,I⟩/\g<E (U w)/\∀a,a<10->w.cell? ⟨g,i*10+a,I⟩=(d.c)[a]? :=by
 obtain⟨g,l,c,e,_,f⟩:=aP h.cd sQ (λx j=>by obtain⟨m,_,rfl⟩:=List.mem_map.1 j;rfl) (i:=i) (x:=d.c) (by rw[List.getElem?_map,b];rfl);have k:M.df=some ⟨g,0,I⟩:=by simpa using(Value.slice.inj c).1
 exact⟨g,k,e,f⟩
def Gd (D:Nat) (kind n:Int) (nl na:Nat):Prop:=nl<=6100/\(kind=4->0<=n/\n<(D:Int))/\(kind=6\/kind=7->nl=1/\na=1)/\(kind=5->na=0)
def bW:Nat->World->List Value->Nat
 |0,_,_=>0
 |f+1,w,cs=>1+((rowAt w 4 (lF cs)).map (bW f w)).sum
section
variable{S:Nat->Prop} {G:Int->Int->Nat->Nat->Prop} {w w':World}
theorem gP {h f:Nat} {kind n:Int} {lv a:Value} {vs:VV} (b:ro w S 4 a (O vs) vs.flatten) (c:∀x∈vs,af S G h w x):bW (f+1) w (ak kind n lv a).toList=1+(vs.map (bW f w)).sum:=by
 have d:=fB b (λx e=>af.four h x (c x e));show 1+((rowAt w 4 a).map (bW f w)).sum=_;rw[d]
theorem aL (c:aq S w w') (d:E (U w)<=E (U w')):(h:Nat)->(cs:List Value)->af S G h w cs->∀b,bW b w' cs=bW b w cs
 |0,_,hn,_=>absurd hn (λa=>a)
 |_+1,_,_,0=>rfl
 |h+1,_,⟨kind,n,lv,av,ls,vs,h1,h2,h3,h4,h5,h6,h7⟩,b+1=>by
  subst h1;rw[gP h3 h7,gP (G:=G) (h3.frame c d) (λa e=>af.frame c d h a (h7 a e))];have:vs.map (bW b w')=vs.map (bW b w):=List.map_congr_left (λa e=>aL c d h a (h7 a e) b);rw[this]
end
structure CK where
 mb:Nat
 mod:Nat
 aD:OA
 cJ:Nat
 ba:List ByteArray
 bZ:OA
 tcp:Nat
 bt:List ByteArray
 bO:Bool
 sk:Int
 sn:Int
 iJ:OA
 iK:Nat
 iL:Nat
 iM:OA
 iN:Nat
 iO:Nat
abbrev dy (K:CK) (how next one fk fa:Int):Array Value:=#[.pointer (aS K.mb),vN K.mod,J K.aD (O K.ba) K.cJ,J K.bZ (O K.bt) K.tcp,.bool K.bO,vN K.sk,vN K.sn,J K.iJ K.iK K.iL,J K.iM K.iN K.iO,vN how,vN next,vN one,vN fk,vN fa]
def bJ (w:World) (cb:Nat) (K:CK) (how next one fk fa:Int):Prop:=w.heap[cb]? =some (Ob (dy K how next one fk fa) 114 (0,0))
section
variable{w w':World} {cb:Nat} {K:CK} {how next one fk fa:Int}
theorem bJ.cell (h:bJ w cb K how next one fk fa) (o:Nat):w.cell? ⟨cb,o,I⟩=(dy K how next one fk fa)[o]? :=cell_of_row w cb o _ 114 (0,0) h
theorem bJ.fz (h:bJ w cb K how next one fk fa) (o:Nat):w.frozen? ⟨cb,o,I⟩=false:=frozen_of_row w cb o _ 114 h
theorem bJ.lt (h:bJ w cb K how next one fk fa):cb<E (U w):=(gE h).1
theorem bJ.set (h:bJ w cb K how next one fk fa) (o:Nat) (u:Value):(w.setCell ⟨cb,o,I⟩ u).heap[cb]? =some (Ob ((dy K how next one fk fa).setIfInBounds o u) 114 (0,0)):=heap_setCell_same w cb o _ 114 u h
theorem bJ.qM (h:bJ w cb K how next one fk fa) (x:Int):bJ (w.setCell ⟨cb,9,I⟩ (vN x)) cb K x next one fk fa:=h.set 9 _
theorem bJ.qL (h:bJ w cb K how next one fk fa) (x:Int):bJ (w.setCell ⟨cb,10,I⟩ (vN x)) cb K how x one fk fa:=h.set 10 _
theorem bJ.yL (h:bJ w cb K how next one fk fa) (x:Int):bJ (w.setCell ⟨cb,11,I⟩ (vN x)) cb K how next x fk fa:=h.set 11 _
theorem bJ.yM (h:bJ w cb K how next one fk fa) (x:Int):bJ (w.setCell ⟨cb,12,I⟩ (vN x)) cb K how next one x fa:=h.set 12 _
theorem bJ.yO (h:bJ w cb K how next one fk fa) (x:Int):bJ (w.setCell ⟨cb,13,I⟩ (vN x)) cb K how next one fk x:=h.set 13 _
theorem bJ.below (h:bJ w cb K how next one fk fa) (a:Below (E (U w)) w w'):bJ w' cb K how next one fk fa:=(a.block _ h.lt).trans h
theorem bJ.alloc (h:bJ w cb K how next one fk fa) (o:Obj):bJ (w.alloc o) cb K how next one fk fa:=(Below.heap_alloc _ _ _ h.lt).trans h
theorem bJ.other (h:bJ w cb K how next one fk fa) {p:Addr} (a:cb≠p.block) (u:Value):bJ (w.setCell p u) cb K how next one fk fa:=(Below.heap_setCell _ _ _ _ a).trans h
theorem KT.kp (h:bJ w cb K how next one fk fa) (c:Kp (E (U w)) cb w w'):KT (λa=>a≠114) w w':=λd i a j b e=>c.block d (gE b).1 (λf=>e (by
 subst f;have:=b.symm.trans h;simp at this;exact this.2.1))
end
theorem iQ {K:CK} (h:bJ w cb K how next one fk fa):Calls Tryz.prog 64 #[.pointer (aS cb)] w (λa w'=>a=.returned (.bool (fk==0))/\w'=w):=by
 have b:=h.cell;have c:=h.lt;go_enter Tryz.func64,Tryz.ntmps64
 go_wp2_with fail;go_ret;exact⟨Q,Q⟩
def wP (w:World) (cb:Nat) (K:CK) (how next one:Int) (e:Ending) (w':World):Prop:=
 ∃fk' fa',e=.returned (.tuple #[])/\bJ w' cb K how next one fk' fa'/\Kp (E (U w)) cb w w'/\E (U w')=E (U w)
theorem fm {K:CK} (h:bJ w cb K how next one fk fa) (k a:Int):Calls Tryz.prog 83 #[.pointer (aS cb),vN k,vN a] w (wP w cb K how next one):=by
 have b:=h.cell;have c:=h.fz;have d:=h.lt;go_enter Tryz.func83,Tryz.ntmps83
 go_wp2_with (go_at_call 64;refine(iQ h).mono ?_;rintro e f ⟨rfl,rfl⟩)
 ·go_end0;exact⟨k,a,Q,(h.yM k).yO a,(((Kp.refl _ _ _).setCell (p:=⟨cb,12,I⟩) (.inr Q) _).setCell (p:=⟨cb,13,I⟩) (.inr Q) _),sQ⟩
 ·go_end0;exact⟨fk,fa,Q,h,Kp.refl _ _ _,Q⟩
end
section
variable{w:World}
theorem mi {base:Nat} {c:OA} {e:Nat} {a:List ByteArray} (h:w.ownsRow base 9 1 (J c (O a) e) (O a) (bX a)) {i:Nat} {x:ByteArray} (b:a[i]? =some x):∃g,c=some ⟨g,0,I⟩/\g<E (U w)/\base<=g/\w.cell? ⟨g,i,I⟩=some (.string x):=by
 have d:bX a=(a.map (λx=>[Value.string x])).flatten:=by
  unfold bX;clear h b;induction a with
  |nil=>rfl
  |cons n o f=>simp only[List.map_cons,List.flatten_cons,f];rfl
 rw[d] at h;obtain⟨g,j,d,k,l,m⟩:=aP h sQ (λx b=>by obtain⟨p,_,rfl⟩:=List.mem_map.1 b;rfl) (i:=i) (x:=[Value.string x]) (by rw[List.getElem?_map,b];rfl);obtain⟨rfl,rfl⟩:c=some ⟨g,0,I⟩/\e=j:=sU d;exact⟨g,Q,k,l,sU (m 0 dC)⟩
def wR (w:World) (cb:Nat) (K:CK) (how one:Int) (e:Ending) (w':World):Prop:=
 ∃r next' fk' fa',e=.returned (vN r)/\bJ w' cb K how next' one fk' fa'/\Kp (E (U w)) cb w w'/\E (U w')=E (U w)
theorem fE {i:Nat} {K:CK} {how next one fk fa:Int} (h:bJ w i K how next one fk fa) (hl:w.ownsRow 0 9 1 (J K.aD (O K.ba) K.cJ) (O K.ba) (bX K.ba)) (C:O K.ba<=30000) (name:ByteArray) (a:Int):Calls Tryz.prog 66 #[.pointer (aS i),.string name,vN a] w (wR w i K how one):=by
 have L:=h.cell;have M:=h.fz;have N:=h.lt;have r:Hid (w.ownsRow 0 9 1 (J K.aD (O K.ba) K.cJ) (O K.ba) (bX K.ba)):=hl;clear hl;obtain⟨s,D⟩:∃s,K.aD=s:=⟨_,Q⟩;obtain⟨c,t⟩:∃c,K.ba=c:=⟨_,Q⟩;rw[D,t] at r;rw[t] at C
 cases P:(name.toList==[])
 ·cases R:(name.toList==[39,115,116,97,116,105,99])
  ·by_cases u:how=4
   ·subst u;go_enter Tryz.func66,Tryz.ntmps66
    go_wp2_with (go_at_call 83;refine(fm h _ _).mono ?_;rintro j k ⟨l,m,rfl,b,e,f⟩;have n:=b.cell;have o:=b.fz;have q:=b.lt)
    go_ret;exact⟨_,_,_,_,Q,b,e,f⟩
   ·by_cases v:how=3
    ·subst v;go_enter Tryz.func66,Tryz.ntmps66
     go_wp2_with (go_at_call 83;refine(fm h _ _).mono ?_;rintro j k ⟨l,m,rfl,b,e,f⟩;have n:=b.cell;have o:=b.fz;have q:=b.lt)
     go_ret;exact⟨_,_,_,_,Q,b,e,f⟩
    ·have S:(how==4)=false:=sU u;have T:(how==3)=false:=sU v;go_enter Tryz.func66,Tryz.ntmps66
     go_wp2_with fail;go_loopg [7,8,73] (O c) (λF _ _ G wr=>∃d:Nat,F=O c - d/\G=vN d/\d<=O c/\wr=w)
     case atStart=>exact⟨0,Q,Q,zL _,Q⟩
     case round=>
      obtain⟨d,x,rfl,V,rfl⟩:=hrel;have H:Hid (gk=O c - d):=x;clear x;by_cases y:d<O c
      ·have z:(d:Int)<(O c:Int):=oM;obtain⟨A,B⟩:∃A,c[d]? =some A:=⟨_,gG y⟩;obtain⟨g,rfl,W,_,X⟩:=mi r.out B;clear B;go_wp2_with fail
       ·go_ret;exact⟨_,_,_,_,Q,h,Kp.refl _ _ _,Q⟩
       ·go_roundg (O c - (d+1))
        case measure=>rw[H.out];omega
        case rel=>exact⟨d+1,Q,by go_num,y,Q⟩
      ·have z:¬(d:Int)<(O c:Int):=oM;have Y:decide ((d:Int)<(O c:Int))=false:=sU z;go_wp2_with (go_at_call 83;refine(fm h _ _).mono ?_;rintro j k ⟨l,m,rfl,b,e,f⟩;have n:=b.cell;have o:=b.fz;have q:=b.lt)
       go_ret;exact⟨_,_,_,_,Q,b,e,f⟩
  ·go_enter Tryz.func66,Tryz.ntmps66
   go_wp2_with (go_at_call 83;refine(fm h _ _).mono ?_;rintro j k ⟨l,m,rfl,b,e,f⟩;have n:=b.cell;have o:=b.fz;have q:=b.lt)
   all_goals
    go_ret
    first
     |exact⟨_,_,_,_,Q,b,e,f⟩
     |exact⟨_,_,_,_,Q,h,Kp.refl _ _ _,Q⟩
     |exact⟨_,_,_,_,Q,h.qL _,(Kp.refl _ _ _).setCell (p:=⟨i,10,I⟩) (.inr Q) _,sQ⟩
 ·go_enter Tryz.func66,Tryz.ntmps66
  go_wp2_with (go_at_call 83;refine(fm h _ _).mono ?_;rintro j k ⟨l,m,rfl,b,e,f⟩;have n:=b.cell;have o:=b.fz;have q:=b.lt)
  all_goals
   go_ret
   first
    |exact⟨_,_,_,_,Q,b,e,f⟩
    |exact⟨_,_,_,_,Q,h,Kp.refl _ _ _,Q⟩
    |exact⟨_,_,_,_,Q,h.qL _,(Kp.refl _ _ _).setCell (p:=⟨i,10,I⟩) (.inr Q) _,sQ⟩
end
section
variable{B0 c cb n:Nat} {S S0:Nat->Prop} {a:OA} {ks:VV} {w w':World}
structure Cx (w:World) (cb:Nat) (K:CK) (M:MK) (T:Nat) (S0:Nat->Prop) (hs Z:Nat):Prop where
 lv:w.ownsRow 0 9 1 (J K.aD (O K.ba) K.cJ) (O K.ba) (bX K.ba)
 lf:O K.ba<=30000
 tv:w.ownsRow 0 9 1 (J K.bZ (O K.bt) K.tcp) (O K.bt) (bX K.bt)
 tf:O K.bt<=30000
 pi:PI w K.mb M T
 mod:K.mod<O M.ms
 self:af S0 (Gd (O M.ds)) hs w (ak K.sk K.sn (J K.iJ K.iK K.iL) (J K.iM K.iN K.iO)).toList
 s0:∀b,S0 b->b≠cb
 sz:∀f,bW f w (ak K.sk K.sn (J K.iJ K.iK K.iL) (J K.iM K.iN K.iO)).toList<=Z
 z1:1<=Z
theorem aq.zp (h:Kp (E (U w)) cb w w') (d:∀b,S b->b≠cb):aq S w w':=λb e f=>h.block b f (d b e)
theorem Cx.step {K:CK} {M:MK} {T:Nat} {e f:Nat} {how next one fk fa:Int} (h:Cx w cb K M T S0 e f) (j:bJ w cb K how next one fk fa) (b:Kp (E (U w)) cb w w'):Cx w' cb K M T S0 e f:=by
 have d:=KT.kp j b;have i:aq S0 w w':=aq.zp b h.s0;exact⟨ag h.lv d dC,h.lf,ag h.tv d dC,h.tf,h.pi.kt d dC dC dC dC,h.mod,af.frame i b.size _ _ h.self,h.s0,λk=>by rw[aL i b.size _ _ h.self];exact h.sz k,h.z1⟩
def cU (B0:Nat) (w:World) (v:Value) (ks:VV):Prop:=∃a c,v=J a (O ks) c/\O ks<=20000/\(0<O ks->∃g o,a=some ⟨g,o,I⟩/\g<B0/\∀i x,ks[i]? =some x->∀j,j<11->w.cell? ⟨g,o+i*11+j,I⟩=x[j]?)
def bE (w:World) (cb:Nat) (K:CK) (how one:Int) (S0:Nat->Prop) (D X:Nat) (e:Ending) (w':World):Prop:=
 ∃(kind n:Int) (aD:OA) (ln lc:Nat) (aao:OA) (an ac:Nat) (next' fk' fa':Int),e=.returned (.agg (ak kind n (J aD ln lc) (J aao an ac)))/\bJ w' cb K how next' one fk' fa'/\Kp (E (U w)) cb w w'/\(∃H,af (λb=>S0 b\/E (U w)<=b) (Gd D) H w' (ak kind n (J aD ln lc) (J aao an ac)).toList)/\∀f,bW f w' (ak kind n (J aD ln lc) (J aao an ac)).toList<=X
def bV (h:Nat):Prop:=∀{w:World} {cb:Nat} {K:CK} {M:MK} {T:Nat} {S0:Nat->Prop} {hs Z B0:Nat} {how next one fk fa:Int} (_:Cx w cb K M T S0 hs Z) (_:bJ w cb K how next one fk fa) (_:B0<=cb) {kind pos n m:Int} {name:ByteArray} {ko:OA} {kl kc:Nat} (_:isNode (λb=>b<B0) True h w (ae kind pos n m name (J ko kl kc)).toList) (_:cx kind),
 Calls Tryz.prog 44 #[.pointer (some ⟨cb,0,I⟩),.agg (ae kind pos n m name (J ko kl kc))] w (bE w cb K how one S0 (O M.ds) (aG h w (ae kind pos n m name (J ko kl kc)).toList*Z))
def TO (w:World) (S0:Nat->Prop) (kv:Value) (b:Nat):Prop:=(S0 b\/E (U w)<=b)/\kv.ownBlock≠some b
structure lj (w:World) (cb:Nat) (S0:Nat->Prop) (D:Nat) (wr:World) (kv:Value) (vs:VV) (X:Nat):Prop where
 row:wr.ownsRow (E (U w)) 41 4 kv (O vs) vs.flatten
 all:∃H,∀x∈vs,af (TO w S0 kv) (Gd D) H wr x
 sz:∀f,(vs.map (bW f wr)).sum<=X
 size:E (U w)<=E (U wr)
 eN:cb<E (U w)
 s0:∀b,S0 b->b≠cb/\b<E (U w)
section
variable{w wr w':World} {cb D X:Nat} {S0:Nat->Prop} {kv:Value} {vs:VV}
theorem lj.nil (w wr:World) (d:E (U w)<=E (U wr)) (e:cb<E (U w)) (f:∀b,S0 b->b≠cb/\b<E (U w)):lj w cb S0 D wr (J I 0 0) [] 0:=
 ⟨World.ownsRow_nil _ _ _ _,⟨0,λj i=>by cases i⟩,λ_=>lR _,d,e,f⟩
theorem lj.shape (q:lj w cb S0 D wr kv vs X):∃d e,kv=J d (O vs) e:=by
 rcases q.row.2 with⟨b,f⟩|⟨x,y,zz,b,_⟩
 ·exact⟨I,0,by rw[b,f]⟩
 ·exact⟨_,_,b⟩
theorem lj.zy (q:lj w cb S0 D wr kv vs X) {b:Nat} (h:TO w S0 kv b):b≠cb:=by
 rcases h.1 with h|h
 ·exact(q.s0 b h).1
 ·have:=q.eN;omega
theorem lj.step (q:lj w cb S0 D wr kv vs X) (b:Kp (E (U wr)) cb wr w'):lj w cb S0 D w' kv vs X:=by
 obtain⟨m,k⟩:=q.all;have l:aq (TO w S0 kv) wr w':=aq.zp b (λe f=>q.zy f);refine⟨ah q.row (λe f o=>b.block e o (λp=>oI (q.row.lt e f).1 q.eN)),⟨m,λi j=>af.frame l b.size _ _ (k i j)⟩,λd=>?_,lT q.size b.size,q.eN,q.s0⟩;have:vs.map (bW d w')=vs.map (bW d wr):=List.map_congr_left (λi j=>aL l b.size _ _ (k i j) d);rw[this];exact q.sz d
theorem lj.run (q:lj w cb S0 D wr kv vs X) {kind n:Int} {j:OA} {k l:Nat} {m:OA} {o p:Nat} {H Y W0:Nat} (N:∀b,kv.ownBlock=some b->b<W0) (ag:E (U w)<=W0) (x:af (λb=>S0 b\/W0<=b) (Gd D) H wr (ak kind n (J j k l) (J m o p)).toList) (P:∀f,bW f wr (ak kind n (J j k l) (J m o p)).toList<=Y) (ah:O vs<=30000) (F:TypeId) {ad:Nat} (R:ad=E (U wr)):
 ∃A w',(Builtin.append_ #[39,39] F #[kv,J (aS ad) 1 1]).run Tryz.prog (wr.alloc (Ob (ak kind n (J j k l) (J m o p)) 41))=.ok A w'/\∃u v,A=J u (O vs+1) v/\lj w cb S0 D w' (J u (O vs+1) v) (vs++[(ak kind n (J j k l) (J m o p)).toList]) (X+Y)/\(∀b,b<E (U wr)->kv.ownBlock≠some b->w'.heap[b]? =wr.heap[b]?)/\Kp (E (U w)) cb wr w':=by
 have one:∀G∈(ak kind n (J j k l) (J m o p)).toList,G.oneCell'=true:=by
  intro G x;simp at x;rcases x with rfl|rfl|rfl|rfl<;>rfl
 obtain⟨A,w',T,t⟩:=fj (W:=wr) Tryz.underlying39 pv Q dC q.row q.size (ak kind n (J j k l) (J m o p)) Q one (by unfold maxLen;omega) oM F R;obtain⟨u,v,rfl⟩:=t.shape;obtain⟨K,V⟩:=q.all
 have Z:af (TO w S0 kv) (Gd D) H wr (ak kind n (J j k l) (J m o p)).toList:=af.weaken (λb d r=>⟨d.imp (λe=>e) (λe=>by omega),λi=>by
  have y:=N b i;rcases d with d|d
  ·have:=(q.row.lt b i).1;have:=(q.s0 b d).2;omega
  ·omega⟩) _ _ x
 have L:∀e∈vs++[(ak kind n (J j k l) (J m o p)).toList],af (λb=>TO w S0 kv b/\b<E (U wr)) (Gd D) (max H K) wr e:=by
  intro e s;rcases List.mem_append.1 s with s|s
  ·exact af.weaken (λb d r=>⟨d,r⟩) _ _ (af.le (V e s) _ (Nat.le_max_right _ _))
  ·obtain rfl:e=_:=sU s;exact af.weaken (λb d r=>⟨d,r⟩) _ _ (af.le Z _ (Nat.le_max_left _ _))
 have B:∀b,b<E (U wr)->kv.ownBlock≠some b->w'.heap[b]? =wr.heap[b]? :=λb r aa=>(t.grown.block b (by simp;omega) (λi=>aa i.symm)).trans (Below.heap_alloc _ _ _ r);have M:aq (λb=>TO w S0 kv b/\b<E (U wr)) wr w':=λb d r=>B b r d.1.2;have z:E (U wr)<=E (U w'):=lT sQ t.grown.size
 have ab:∀b,TO w S0 kv b/\b<E (U wr)->TO w S0 (J u (O vs+1) v) b:=by
  rintro b ⟨⟨y,C⟩,r⟩;refine⟨y,?_⟩;rcases t.own with i|i
  ·rw[i];exact C
  ·rw[i];intro ac;simp at ac;omega
 refine⟨_,w',T,u,v,Q,⟨by have:=t.row;simpa using this,⟨max H K,λe s=>af.weaken (λb d _=>ab b d) _ _ (af.frame M z _ _ (L e s))⟩,λf=>?_,lT q.size z,q.eN,q.s0⟩,B,?_⟩
 ·have ae:∀e∈vs++[(ak kind n (J j k l) (J m o p)).toList],bW f w' e=bW f wr e:=λe s=>aL M z _ _ (L e s) f;rw[List.map_congr_left ae,List.map_append,List.sum_append];have y:=q.sz f;have C:=P f;simp only[List.map_cons,List.map_nil,List.sum_cons,List.sum_nil,Nat.add_zero];exact Nat.add_le_add y C
 ·exact⟨t.grown.os,t.grown.tape,t.grown.output,z,λb d _=>B b (oH q.size) (λi=>oH (q.row.lt b i).1)⟩
end
theorem cU.nth (h:cU B0 w (J a n c) ks) {i:Nat} {x:List Value} (e:ks[i]? =some x):∃g d,a=some ⟨g,d,I⟩/\g<B0/\∀b,b<11->w.cell? ⟨g,d+i*11+b,I⟩=x[b]? :=by
 obtain⟨p,q,f,_,j⟩:=h;obtain⟨g,d,k,l,m⟩:=j (oH (gS e).1);exact⟨g,d,by rw[<-k];exact(Value.slice.inj f).1,l,λb o=>m i x e b o⟩
theorem cU.len (h:cU B0 w (J a n c) ks):n=O ks/\O ks<=20000:=by
 obtain⟨e,f,b,d,_⟩:=h;exact⟨(Value.slice.inj b).2.1,d⟩
theorem isNode.cells {g:Prop} {h:Nat} {cs:List Value} (k:isNode S g h w cs):∃d pos n e b ko kl kc,cs=(ae d pos n e b (J ko kl kc)).toList/\b.size<=20000:=by
 cases h with
 |zero=>exact absurd k (λl=>l)
 |succ h=>
  obtain⟨d,pos,n,e,b,kv,vs,m,o,r,s,p,t,u,v⟩:=k
  obtain⟨f,i,rfl⟩:∃f i,kv=J f (O vs) i:=by
   rcases p.2 with⟨j,q⟩|⟨l,y,zz,j,_⟩
   ·exact⟨I,0,by rw[j,q]⟩
   ·exact⟨_,_,j⟩
  exact⟨d,pos,n,e,b,f,O vs,i,m,o⟩
end
section
variable{K:CK} {M:MK} {T Z cb h hs:Nat} {S0:Nat->Prop} {w:World}
def vk (w:World) (cb:Nat) (K:CK) (how one:Int) (S0:Nat->Prop) (D k X:Nat) (e:Ending) (w':World):Prop:=
 ∃(ao:OA) (cp:Nat) (vs:VV) (next' fk' fa':Int),e=.returned (J ao (O vs) cp)/\O vs=k/\bJ w' cb K how next' one fk' fa'/\Kp (E (U w)) cb w w'/\lj w cb (λb=>S0 b/\b<E (U w)) D w' (J ao (O vs) cp) vs X
theorem af.low {S:Nat->Prop} {G:Int->Int->Nat->Nat->Prop} {cs:List Value} (b:af S G h w cs):af (λa=>S a/\a<E (U w)) G h w cs:=af.weaken (λa c d=>⟨c,d⟩) _ _ b
theorem Cx.low (h:Cx w cb K M T S0 hs Z):Cx w cb K M T (λa=>S0 a/\a<E (U w)) hs Z:=
 ⟨h.lv,h.lf,h.tv,h.tf,h.pi,h.mod,af.low h.self,λa b=>h.s0 a b.1,h.sz,h.z1⟩
theorem fK (P:bV h) {B0:Nat} {how next one fk fa:Int} (F:Cx w cb K M T S0 hs Z) (q:bJ w cb K how next one fk fa) (al:B0<=cb) {ka:OA} {kl kc:Nat} {ks:VV} (G:cU B0 w (J ka kl kc) ks) (R:∀x∈ks,isNode (λb=>b<B0) True h w x/\cx (az x)):
 Calls Tryz.prog 65 #[.pointer (some ⟨cb,0,I⟩),J ka kl kc] w (vk w cb K how one S0 (O M.ds) (O ks) ((ks.map (aG h w)).sum*Z)):=by
 have ao:Hid (bV h):=@P;clear P;obtain⟨ap,a5⟩:=G.len;subst ap;have ar:=q.lt;have B:Hid (Cx w cb K M T (λb=>S0 b/\b<E (U w)) hs Z/\bJ w cb K how next one fk fa/\cU B0 w (J ka (O ks) kc) ks/\∀x∈ks,isNode (λb=>b<B0) True h w x/\cx (az x)):=⟨F.low,q,G,R⟩;have au:∀b,(S0 b/\b<E (U w))->b≠cb/\b<E (U w):=λb z=>⟨F.s0 b z.1,z.2⟩;clear F G R;go_enter Tryz.func65,Tryz.ntmps65
 go_wp2_with fail;go_loopg [5,7,10] (O ks) (λav v _ aw wr=>∃(a:Nat) (s:OA) (t:Nat) (n:VV) (next fk fa:Int),av=O ks - a/\aw=.int .i64 a/\v=J s (O n) t/\a<=O ks/\O n=a/\bJ wr cb K how next one fk fa/\Kp (E (U w)) cb w wr/\lj w cb (λb=>S0 b/\b<E (U w)) (O M.ds) wr (J s (O n) t) n (((ks.take a).map (aG h w)).sum*Z))
 case atStart=>exact⟨0,I,0,[],next,fk,fa,Q,Q,Q,zL _,Q,q,Kp.refl _ _ _,sU (lj.nil w w (lR _) ar au)⟩
 case round=>
  clear q;obtain⟨a,s,t,n,next,fk,fa,S,rfl,rfl,a6,V,q,o,H⟩:=hrel;have ax:Hid (gk=O ks - a):=S;have W:Hid (O n=a):=V;have ay:O n<=30000:=oM;clear S V;by_cases X:a<O ks
  ·have Y:(a:Int)<(O ks:Int):=oM;obtain⟨x,C⟩:∃x,ks[a]? =some x:=⟨_,gG X⟩;obtain⟨D,r⟩:=B.out.2.2.2 x (mG C);obtain⟨c,f,d,i,j,k,e,l,rfl,_⟩:=isNode.cells D;obtain⟨g,aa,rfl,a7,ab⟩:=B.out.2.2.1.nth C
   have ac:cx c:=by
    have u:az (ae c f d i j (J k e l)).toList=fJ c d e:=rfl;rw[u] at r;unfold fJ at r;split at r
    ·rename_i a8
     obtain⟨aA,b⟩:=r;omega
    ·split at r
     ·obtain⟨aA,b⟩:=r;omega
     ·exact r
   have ad:Hid (ks[a]? =some (ae c f d i j (J k e l)).toList/\cx c):=⟨C,ac⟩;have m:∀y,y<11->wr.cell? ⟨g,aa+a*11+y,I⟩=(ae c f d i j (J k e l)).toList[y]? :=λy aB=>(o.cell (p:=⟨g,aa+a*11+y,I⟩) (by show g<_;omega) (by show g≠cb;omega)).trans (ab y aB);have aC:=m 0 dC;have a9:=m 1 dC;have a':=m 2 dC;have ba:=m 3 dC;have bb:=m 4 dC;have bc:=m 5 dC;have bd:=m 6 dC;have bf:=m 7 dC;have bg:=m 8 dC;have bh:=m 9 dC;have bi:=m 10 dC;simp only[Nat.add_zero] at aC;have bj:g<E (U wr):=oH o.size;have A:Below (E (U wr)) wr (wr.alloc (Ob (ae c f d i j (J k e l)) 48)):=(al1 _ _).1;have L:aq (λb=>b<B0) w (wr.alloc (Ob (ae c f d i j (J k e l)) 48)):=λb z aD=>(A.block b (oH o.size)).trans (o.block b aD oM);have aE:Hid (isNode (λb=>b<B0) True h (wr.alloc (Ob (ae c f d i j (J k e l)) 48)) (ae c f d i j (J k e l)).toList):=isNode.frame L _ _ D;have aF:Hid (aG h (wr.alloc (Ob (ae c f d i j (J k e l)) 48)) (ae c f d i j (J k e l)).toList=aG h w (ae c f d i j (J k e l)).toList):=aT L _ _ D h;clear C D r ab m ac L;have aH:=q.below A;have N:=H.step (Kp.al A);go_wp2_with fail;refine(ao.out ((B.out.1.step B.out.2.1 o).step q (Kp.al A)) aH al aE.out ad.out.2).mono ?_;rintro u aI ⟨aJ,aK,aL,aM,aN,aO,aP,aQ,aR,aU,aV,rfl,af,ag,⟨bk,aW⟩,ah⟩;rw[aF.out] at ah;have ai:=N.step ag;have aX:∀b,(Value.slice s (O n) t).ownBlock=some b->b<E (U (wr.alloc (Ob (ae c f d i j (J k e l)) 48))):=λb z=>(N.row.lt b z).2;have aY:E (U w)<=E (U (wr.alloc (Ob (ae c f d i j (J k e l)) 48))):=N.size;have aZ:=o.trans ((Kp.al (rb:=cb) (A.mono o.size)).trans (ag.mono (by have:=o.size;simp;omega)));go_wp2_with (at_builtin;refine bG 39 (v:=J s (O n) t) (xv:=J (aS (E (U aI))) 1 1) rQ rQ rQ rQ (ai.run aX aY aW ah ay _ Q) ?_;rintro bl bm ⟨a0,a1,rfl,a2,a3,a4⟩)
   go_roundg (O ks - (a+1))
   case measure=>rw[ax.out];omega
   case rel=>
    refine⟨a+1,a0,a1,n++[(ak aJ aK (J aL aM aN) (J aO aP aQ)).toList],aR,aU,aV,Q,by go_num,sQ,X,by simp[W.out],?_,aZ.trans a4,?_⟩
    ·exact(a3 cb af.lt (λu=>oH (ai.row.lt cb u).1)).trans af
    ·have u:((ks.take (a+1)).map (aG h w)).sum*Z=((ks.take a).map (aG h w)).sum*Z+aG h w (ae c f d i j (J k e l)).toList*Z:=by
      rw[List.take_add_one,ad.out.1,List.map_append,List.sum_append,Nat.add_mul];simp
     rw[u];simpa using a2
  ·have Y:¬(a:Int)<(O ks:Int):=oM;have bn:decide ((a:Int)<(O ks:Int))=false:=sU Y;go_wp2_with fail;go_ret;have aj:a=O ks:=oM;refine⟨s,t,n,next,fk,fa,Q,by rw[W.out,aj],q,o,?_⟩;rw[aj,List.take_length] at H;exact H
end
section
variable{kind n:Int} {ls:List Int} {B0 D cb:Nat} {S:Nat->Prop} {vs:VV} {w w' wr:World}
theorem isNode.kids {h:Nat} {pos m:Int} {name:ByteArray} {ko:OA} {kl kc:Nat} (l:isNode (λb=>b<B0) True (h+1) w (ae kind pos n m name (J ko kl kc)).toList):∃vs:VV,kl=O vs/\cU B0 w (J ko kl kc) vs/\(∀a∈vs,isNode (λb=>b<B0) True h w a)/\Gr kind n name (vs.map az)/\aG (h+1) w (ae kind pos n m name (J ko kl kc)).toList=1+(vs.map (aG h w)).sum/\name.size<=20000/\(∀c,c<O vs->∃g,ko=some ⟨g,0,I⟩)/\O vs<=kc/\(0<=pos/\pos<=7000):=by
 have H:=l;obtain⟨L,M,N,P,R,T,vs,o,r,s,t,e,u,f,v⟩:=l;simp at o;obtain⟨rfl,rfl,rfl,rfl,rfl,rfl⟩:=o;have x:∀a∈vs,O a=11:=λa i=>(isNode.pe _ _ (f a i)).1
 have d:kl=O vs/\O vs<=kc/\∀c,c<O vs->∃g,ko=some ⟨g,0,I⟩:=by
  rcases e.2 with⟨j,V⟩|⟨g,y,zz,j,_,_,x4,_⟩
  ·obtain⟨_,p,_⟩:ko=I/\kl=0/\kc=0:=sU j;exact⟨oM,oM,λc W=>by omega⟩
  ·obtain⟨z,p,X⟩:ko=some ⟨g,0,I⟩/\kl=O vs/\kc=y:=sU j;exact⟨p,oM,λ_ _=>⟨g,z⟩⟩
 refine⟨vs,d.1,⟨ko,kc,by rw[d.1],t,λA=>?_⟩,f,v trivial,pj e f,r,d.2.2,d.2.1,s⟩;obtain⟨g,k⟩:=d.2.2 0 A;refine⟨g,0,k,u g (by rw[k];rfl),λc a i B C=>?_⟩;obtain⟨F,Y,q,_,_,G⟩:=aP e Q x i
 have:g=F:=by
  rw[k] at q;simpa using(Value.slice.inj q).1
 subst this;rw[Nat.zero_add];exact G B C
theorem cU.frame {v:Value} {ks:VV} (h:cU B0 w v ks) (i:aq (λb=>b<B0) w w') (u:B0<=E (U w)):cU B0 w' v ks:=by
 obtain⟨a,j,k,l,m⟩:=h;refine⟨a,j,k,l,λo=>?_⟩;obtain⟨g,c,p,d,q⟩:=m o;exact⟨g,c,p,d,λe r s f t=>(World.cell?_of_block (w:=w) (a:=⟨g,c+e*11+f,I⟩) (i g d oM)).trans (q e r s f t)⟩
theorem kR {G:Int->Int->Nat->Nat->Prop} {H:Nat} {lv a:Value} (b:ro w S 1 lv (O ls) (aN ls)) (c:ro w S 4 a (O vs) vs.flatten) (d:O ls<=30000) (e:O vs<=30000) (f:G kind n (O ls) (O vs)) (i:∀x∈vs,af S G H w x):af S G (H+1) w (ak kind n lv a).toList:=⟨kind,n,lv,a,ls,vs,Q,b,c,d,e,f,i⟩
theorem mq (w:World) (S:Nat->Prop) (size:Nat):ro w S size (J I 0 0) 0 []:=⟨I,0,Q,sQ,λh=>absurd h oM⟩
theorem dz (c:(kind=4->0<=n/\n<(D:Int))/\kind≠6/\kind≠7):af S (Gd D) 1 w (ak kind n (J I 0 0) (J I 0 0)).toList/\∀b,bW b w (ak kind n (J I 0 0) (J I 0 0)).toList<=1:=by
 refine⟨kR (ls:=[]) (vs:=[]) (mq _ _ _) (mq _ _ _) dC dC ⟨dC,c.1,λa=>by rcases a with a|a;exact absurd a c.2.1;exact absurd a c.2.2,λ_=>rfl⟩ (λe d=>by cases d),λb=>?_⟩
 cases b with
 |zero=>exact zL _
 |succ b=>exact lR _
structure GM (w:World) (cb:Nat) (K:CK) (how one:Int) (nd:Array Value) (kind n:Int) (wr:World) (lo:OA) (lc:Nat) (ls:List Int) (next fk fa:Int):Prop where
 k:Kp (E (U w)) cb w wr
 c:bJ wr cb K how next one fk fa
 eN:cb<E (U w)
 nb:wr.heap[E (U w)]? =some (Ob nd 48 (0,0))
 tb:bA wr (E (U w)+1) (ak kind n (J lo (O ls) lc) (J I 0 0))
 zb:bA wr (E (U w)+2) eJ
 row:wr.ownsRow (E (U w)+3) 3 1 (J lo (O ls) lc) (O ls) (aN ls)
section
variable{w wr w':World} {cb:Nat} {K:CK} {how one:Int} {nd:Array Value} {kind n:Int} {lo:OA} {lc:Nat} {ls:List Int} {next fk fa next' fk' fa':Int}
theorem GM.step (q:GM w cb K how one nd kind n wr lo lc ls next fk fa) (a:Kp (E (U wr)) cb wr w') (c:bJ w' cb K how next' one fk' fa'):GM w cb K how one nd kind n w' lo lc ls next' fk' fa':=by
 have f:=q.zb.lt;have i:=q.eN;refine⟨q.k.trans (a.mono q.k.size),c,q.eN,(a.block _ oM oM).trans q.nb,(a.block _ oM oM).trans q.tb,(a.block _ oM oM).trans q.zb,ah q.row (λb d e=>a.block b e (oH (q.row.lt b d).1))⟩
theorem GM.drew (q:GM w cb K how one nd kind n wr lo lc ls next fk fa):GM w cb K how one nd kind n wr.drew lo lc ls next fk fa:=q.step (Kp.refl _ _ _).drew q.c
theorem GM.run (q:GM w cb K how one nd kind n wr lo lc ls next fk fa) (r:Int) (A:O ls<=30000) (k:TypeId) {ad:Nat} (t:ad=E (U wr)):
 ∃i w',(Builtin.append_ #[38,38] k #[J lo (O ls) lc,J (aS ad) 1 1]).run Tryz.prog (wr.alloc (Ob #[vN r] 3))=.ok i w'/\∃b c,i=J b (O ls+1) c/\bA w' (E (U w)+1) (ak kind n (J lo (O ls) lc) (J I 0 0))/\GM w cb K how one nd kind n (w'.setCell ⟨E (U w)+1,2,I⟩ (J b (O ls+1) c)) b c (ls++[r]) next fk fa:=by
 have B:=q.nb;have C:=q.zb.lt;have F:=q.eN;have G:=q.c.lt
 have one:∀j∈(#[Value.int .i64 r]:Array Value).toList,j.oneCell'=true:=by
  intro j u;obtain rfl:j=vN r:=sU u;rfl
 obtain⟨i,w',v,d⟩:=fj (W:=wr) Tryz.underlying38 rf Q dC q.row oM #[vN r] rfl one (by unfold maxLen;omega) oM k t;obtain⟨b,c,rfl⟩:=d.shape;have l:∀a,a<E (U w)+3->w'.heap[a]? =wr.heap[a]? :=λa m=>(d.grown.block a (by simp;omega) (λe=>oH (q.row.lt a e.symm).1)).trans (Below.heap_alloc _ _ _ oM);have o:bA w' (E (U w)+1) (ak kind n (J lo (O ls) lc) (J I 0 0)):=(l _ oM).trans q.tb;refine⟨_,w',v,b,c,Q,o,?_⟩;have f:∀a,a<E (U w)+3->a≠E (U w)+1->(w'.setCell ⟨E (U w)+1,2,I⟩ (J b (O ls+1) c)).heap[a]? =wr.heap[a]? :=λa m x=>(Below.heap_setCell _ ⟨E (U w)+1,2,I⟩ _ _ x).trans (l a m);have p:=d.row;have y:E (U wr)<=E (U w'):=lT sQ d.grown.size;refine⟨q.k.trans ⟨d.grown.os,d.grown.tape,d.grown.output,sU y,λa s _=>f a oM oM⟩,(f cb oM oM).trans q.c,q.eN,(f _ oM oM).trans q.nb,?_,(f _ oM oM).trans q.zb,?_⟩
 ·have:=bA.set o 2 (J b (O ls+1) c);simpa using this
 ·have e:aN (ls++[r])=aN ls++[vN r]:=by simp[aN]
  rw[e];have z:O (ls++[r])=O ls+1:=sQ;rw[z];exact ah p (λa s _=>Below.heap_setCell _ ⟨E (U w)+1,2,I⟩ _ _ (λe=>by have:=(p.lt a s).1;simp at e;omega))
end
theorem lj.mono {X:Nat} {a S1:Nat->Prop} {kv:Value} (q:lj w cb a D wr kv vs X) (d:∀b,a b->S1 b) (e:∀b,S1 b->b≠cb/\b<E (U w)):lj w cb S1 D wr kv vs X:=by
 obtain⟨f,i⟩:=q.all;exact⟨q.row,⟨f,λj k=>af.weaken (λb c _=>⟨c.1.imp (d b) (λl=>l),c.2⟩) _ _ (i j k)⟩,q.sz,q.size,q.eN,e⟩
end
section
variable{name:ByteArray} {K:CK} {fa fk how kind m n next nn one pos x y:Int} {M:MK} {B0 Z cb h kc kl nl:Nat} {S0:Nat->Prop} {ko:OA} {ks:VV} {W w:World}
theorem bT (h:x≠y):(x !=y)=true:=sU h
theorem bF (h:x=y):(x !=y)=false:=by simp[h]
theorem eT (h:x=y):(x==y)=true:=by simp[h]
theorem eF (h:x≠y):(x==y)=false:=sU h
theorem tG (h:az (ae kind pos n m name (J ko kl kc)).toList=x) (b:x≠8) (c:x≠108/\x≠ -108):kind=x:=by
 have a:az (ae kind pos n m name (J ko kl kc)).toList=fJ kind n kl:=rfl;rw[a] at h;unfold fJ at h;split at h
 ·omega
 ·split at h
  ·omega
  ·exact h
theorem wm (h:cx (az (ae kind pos n m name (J ko kl kc)).toList)):cx kind:=by
 have a:=tG (x:=az (ae kind pos n m name (J ko kl kc)).toList) Q (oI h.1 h.2) (oI h.1 h.2);rw[a];exact h
structure GN (h B0:Nat) (w:World) (ko:OA) (kc:Nat) (ks:VV) (nl:Nat):Prop where
 tC:nl<=O ks
 km:O ks<=20000
 uu:O ks<=kc
 node:∀x∈ks,isNode (λb=>b<B0) True h w x
 ty:∀x∈ks.drop nl,cx (az x)
 row:cU B0 w (J ko (O ks) kc) ks
 er:∀i,i<O ks->∃k1 p1 n1 m1 s1 o1 l1 c1 g,ks[i]? =some (ae k1 p1 n1 m1 s1 (J o1 l1 c1)).toList/\ko=some ⟨g,0,I⟩/\g<B0/\(∀j,j<11->w.cell? ⟨g,i*11+j,I⟩=(ae k1 p1 n1 m1 s1 (J o1 l1 c1)).toList[j]?)/\(i<nl->k1=19)/\(nl<=i->cx k1)
theorem GN.of (A:isNode (λb=>b<B0) True (h+1) w (ae 18 pos nn m name (J ko kl kc)).toList):∃ks nl,kl=O ks/\GN h B0 w ko kc ks nl/\aG (h+1) w (ae 18 pos nn m name (J ko kl kc)).toList=1+(ks.map (aG h w)).sum:=by
 obtain⟨ks,rfl,e,j,B,C,aa,D,F,ab⟩:=A.kids;obtain⟨-,k,ac,f,G,l⟩:=B.path Q;refine⟨ks,O k,Q,⟨?_,e.len.2,F,j,?_,e,?_⟩,C⟩
 ·have:=congrArg List.length f;simp at this;omega
 ·intro x H;apply l
  have:az x∈(ks.map az).drop (O k):=by rw[<-List.map_drop];exact List.mem_map_of_mem H
  rw[f,List.drop_left] at this;exact this
 ·intro i o;obtain⟨x,c⟩:∃x,ks[i]? =some x:=⟨_,gG o⟩;obtain⟨p,q,r,s,t,u,v,z,rfl,_⟩:=isNode.cells (j x (mG c));obtain⟨g,L,d,N,P⟩:=e.nth c;obtain⟨ad,R⟩:=D i o;have S:L=0:=by rw[R] at d;simp at d;exact d.2.symm
  subst S;have a:(ks.map az)[i]? =some (az (ae p q r s t (J u v z)).toList):=by rw[List.getElem?_map,c];rfl
  rw[f] at a;refine⟨p,q,r,s,t,u,v,z,g,c,d,N,λT V=>by have:=P T V;rwa [Nat.zero_add] at this,λX=>?_,λY=>?_⟩
  ·rw[List.getElem?_append_left X] at a;exact tG (G _ (mG a)) dC dC
  ·rw[List.getElem?_append_right Y] at a;exact wm (l _ (mG a))
theorem GN.uO (q:GN h B0 w ko kc ks nl) (a:OA) (c:Nat) (d:O ks - nl=0):cU B0 w (J a (O ks - nl) c) (ks.drop nl):=
 ⟨a,c,sQ,by have:=q.km;simp;omega,λb=>by simp at b;omega⟩
theorem GN.xz {g:Nat} (q:GN h B0 w (aS g) kc ks nl) (c:Nat):cU B0 w (J (some ⟨g,nl*11,I⟩) (O ks - nl) c) (ks.drop nl):=by
 refine⟨some ⟨g,nl*11,I⟩,c,sQ,by have:=q.km;simp;omega,λb=>?_⟩;have r:nl<O ks:=by simp at b;omega
 obtain⟨s,t,u,v,z,A,B,C,d,_,e,f,_⟩:=q.er 0 oM;obtain rfl:g=d:=sU e;refine⟨g,nl*11,Q,f,λD x a i j=>?_⟩;rw[List.getElem?_drop] at a;obtain⟨k,l,o,_,p⟩:=q.row.nth a;have:=p i j;obtain⟨rfl,rfl⟩:g=k/\0=l:=sU o;rw[Nat.zero_add,Nat.add_mul] at this;exact this
theorem Kp.bQ {d rb:Nat} {a:World} (h:Kp d rb a w) {b:Nat} (c:d<=b) (c0 c1 c2 c3:Value):Kp d rb a (Go.Proofs.YtdghkacbpebcoaaGreat.bQ w b c0 c1 c2 c3):=
 Kp.setCell (p:=⟨b,3,I⟩) (Kp.setCell (p:=⟨b,2,I⟩) (Kp.setCell (p:=⟨b,1,I⟩) (Kp.setCell (p:=⟨b,0,I⟩) h (.inl c) _) (.inl c) _) (.inl c) _) (.inl c) _
theorem iB (r:(kind=4->0<=n/\n<(O M.ds:Int))/\kind≠5/\kind≠6/\kind≠7) (aa:1<=Z) {i:OA} {j:Nat} {ls:List Int} (q:GM w cb K how one (ae 18 pos nn m name (J ko (O ks) kc)) kind n W i j ls next fk fa) (R:O ls<=6100) {c:World} {d:OA} {e:Nat} {vs:VV} {z A B:Int} (C:bJ c cb K how z one A B) (T:Kp (E (U W)) cb W c) (ab:O vs<=20000) (k:lj W cb (λb=>S0 b/\b<E (U w)) (O M.ds) c (J d (O vs) e) vs (((ks.drop nl).map (aG h w)).sum*Z)) (s:Act) (V:s.defers=[]) (X:s.tmps.getD 10 undef=.pointer (some ⟨E (U w)+2,0,I⟩)):
 bodyPost Tryz.prog Tryz.f84 (bE w cb K how one S0 (O M.ds) ((1+(ks.map (aG h w)).sum)*Z)) .ret s (bQ (c.setCell ⟨E (U w)+1,3,I⟩ (J d (O vs) e)) (E (U w)+2) (.int .i64 kind) (.int .i64 n) (J i (O ls) j) (J d (O vs) e)):=by
 have o:=q.step T C;have ac:=q.zb.lt;have ad:=o.zb.lt;have D:∀b,b≠E (U w)+1->b≠E (U w)+2->(bQ (c.setCell ⟨E (U w)+1,3,I⟩ (J d (O vs) e)) (E (U w)+2) (vN kind) (vN n) (J i (O ls) j) (J d (O vs) e)).heap[b]? =c.heap[b]? :=λb F l=>(Below.heap_setCell _ ⟨E (U w)+2,3,I⟩ _ _ l).trans ((Below.heap_setCell _ ⟨E (U w)+2,2,I⟩ _ _ l).trans ((Below.heap_setCell _ ⟨E (U w)+2,1,I⟩ _ _ l).trans ((Below.heap_setCell _ ⟨E (U w)+2,0,I⟩ _ _ l).trans (Below.heap_setCell _ ⟨E (U w)+1,3,I⟩ _ _ F))));have Y:bA (c.setCell ⟨E (U w)+1,3,I⟩ (J d (O vs) e)) (E (U w)+2) eJ:=o.zb.other (p:=⟨E (U w)+1,3,I⟩) (by show E (U w)+2≠E (U w)+1;omega) _;obtain⟨t,H⟩:=k.all
 have L:∀b,((S0 b/\b<E (U w))\/E (U W)<=b)->(S0 b\/E (U w)<=b)/\b≠E (U w)+1/\b≠E (U w)+2:=by
  rintro b (a|a)
  ·exact⟨.inl a.1,oM,oM⟩
  ·exact⟨.inr oM,oM,oM⟩
 have N:aq (λb=>(S0 b\/E (U w)<=b)/\b≠E (U w)+1/\b≠E (U w)+2) c (bQ (c.setCell ⟨E (U w)+1,3,I⟩ (J d (O vs) e)) (E (U w)+2) (vN kind) (vN n) (J i (O ls) j) (J d (O vs) e)):=λb a _=>D b a.2.1 a.2.2
 have P:af (λb=>(S0 b\/E (U w)<=b)/\b≠E (U w)+1/\b≠E (U w)+2) (Gd (O M.ds)) (t+1) c (ak kind n (J i (O ls) j) (J d (O vs) e)).toList:=
  kR (ro.bH o.row (λb a=>by have:=(o.row.lt b a).1;exact⟨.inr oM,oM,oM⟩)) (ro.bH k.row (λb a=>L b (.inr (k.row.lt b a).1))) oM oM ⟨R,r.1,λf=>by rcases f with f|f;exact absurd f r.2.2.1;exact absurd f r.2.2.2,λf=>absurd f r.2.1⟩ (λx u=>af.weaken (λb a _=>L b a.1) _ _ (H x u))
 refine bodyPost_ret (dX Tryz.results84 X (bA.bQ Y _ _ _ _)) V ⟨kind,n,i,O ls,j,d,O vs,e,z,A,B,Q,?_,?_,⟨t+1,af.weaken (λb a _=>a.1) _ _ (af.frame N sQ _ _ P)⟩,λv=>?_⟩
 ·have:=q.eN;exact(D cb oM oM).trans C
 ·exact Kp.bQ (Kp.setCell (p:=⟨E (U w)+1,3,I⟩) o.k (.inl (Nat.le_add_right _ _)) _) (Nat.le_add_right _ _) _ _ _ _
 ·rw[aL N sQ _ _ P]
  cases v with
  |zero=>exact zL _
  |succ v=>
   rw[gP (S:=TO W (λb=>S0 b/\b<E (U w)) (J I 0 0)) (G:=Gd (O M.ds)) (h:=t) (ro.bH k.row (λb a=>⟨.inr (k.row.lt b a).1,by simp[Value.ownBlock]⟩)) (λx u=>af.weaken (λb a _=>⟨a.1,by simp[Value.ownBlock]⟩) _ _ (H x u))];have F:=k.sz v
   have l:((ks.drop nl).map (aG h w)).sum<=(ks.map (aG h w)).sum:=by
    conv=>rhs;rw[<-List.take_append_drop nl ks]
    rw[List.map_append,List.sum_append];omega
   have ag:=Nat.mul_le_mul_right Z l;rw[Nat.add_mul,Nat.one_mul];omega
theorem eR (d:(kind=4->0<=n/\n<(O M.ds:Int))/\kind≠5/\kind≠6/\kind≠7) (e:1<=Z) (q:GM w cb K how one (ae 18 pos nn m name (J ko (O ks) kc)) kind n W I 0 [] next fk fa) (c:Act) (f:c.defers=[]) (i:c.tmps.getD 10 undef=.pointer (aS (E (U w)+2))):
 bodyPost Tryz.prog Tryz.f84 (bE w cb K how one S0 (O M.ds) ((1+(ks.map (aG h w)).sum)*Z)) .ret c (bQ W (E (U w)+2) (.int .i64 kind) (.int .i64 n) (J I 0 0) (J I 0 0)):=by
 have p:=q.eN;obtain⟨j,k⟩:=dz (S:=λa=>S0 a\/E (U w)<=a) (D:=O M.ds) (w:=bQ W (E (U w)+2) (vN kind) (vN n) (J I 0 0) (J I 0 0)) (kind:=kind) (n:=n) ⟨d.1,d.2.2⟩;have l:∀a,a≠E (U w)+2->(bQ W (E (U w)+2) (vN kind) (vN n) (J I 0 0) (J I 0 0)).heap[a]? =W.heap[a]? :=λa b=>(Below.heap_setCell _ ⟨E (U w)+2,3,I⟩ _ _ b).trans ((Below.heap_setCell _ ⟨E (U w)+2,2,I⟩ _ _ b).trans ((Below.heap_setCell _ ⟨E (U w)+2,1,I⟩ _ _ b).trans (Below.heap_setCell _ ⟨E (U w)+2,0,I⟩ _ _ b)));refine bodyPost_ret (dX Tryz.results84 i (bA.bQ q.zb _ _ _ _)) f ⟨kind,n,I,0,0,I,0,0,next,fk,fa,Q,(l cb oM).trans q.c,Kp.bQ q.k (Nat.le_add_right _ _) _ _ _ _,⟨1,j⟩,λo=>lT (k o) ?_⟩;have r:1*1<=(1+(ks.map (aG h w)).sum)*Z:=Nat.mul_le_mul oM e;omega
end
theorem rz {h:Nat} (y:bV h) {w:World} {c:Nat} {K:CK} {M:MK} {T:Nat} {l:Nat->Prop} {z o B0:Nat} {how next one fk fa:Int} (q:Cx w c K M T l z o) (j:bJ w c K how next one fk fa) (aD:B0<=c) {pos e m:Int} {name:ByteArray} {g:Nat} {kc nl:Nat} {ks:VV} (f:GN h B0 w (aS g) kc ks nl) {kind n:Int} (A:(kind=4->0<=n/\n<(O M.ds:Int))/\kind≠5/\kind≠6/\kind≠7) (B:Nat) (C:Int) (hl:B<=6100) (S:nl<O ks) (aE:((nl:Int) !=0)=false) (aF:((O ks:Int) - (nl:Int) !=C)=true):
 Calls Tryz.prog 84 #[.pointer (some ⟨c,0,I⟩),.agg (ae 18 pos e m name (J (some ⟨g,0,I⟩) (O ks) kc)),.agg (ak kind n (J I 0 0) (J I 0 0)),.int .i64 B,.int .i64 C] w (bE w c K how one l (O M.ds) ((1+(ks.map (aG h w)).sum)*o)):=by
 have aH:Hid (bV h):=@y;clear y;have aI:=f.km;have aJ:=f.uu;have aK:=f.tC;have V:=q.z1;have W:=j.lt;have aL:Hid (Cx w c K M T (λD=>l D/\D<E (U w)) z o):=q.low;have aM:Hid (bJ w c K how next one fk fa):=j;have F:Hid (GN h B0 w (aS g) kc ks nl):=f;obtain⟨r,G,H,L⟩:=mZ w (Ob (ae 18 pos e m name (J (aS g) (O ks) kc)) 48) (Ob (ak kind n (J I 0 0) (J I 0 0)) 41) (Ob eJ 41);have N:GM w c K how one (ae 18 pos e m name (J (aS g) (O ks) kc)) kind n (((w.alloc (Ob (ae 18 pos e m name (J (aS g) (O ks) kc)) 48)).alloc (Ob (ak kind n (J I 0 0) (J I 0 0)) 41)).alloc (Ob eJ 41)) I 0 [] next fk fa:=⟨Kp.al r,j.below r,W,G,H,L,World.ownsRow_nil _ _ _ _⟩;clear r G H L q j f;have X:Hid ((kind=4->0<=n/\n<(O M.ds:Int))/\kind≠5/\kind≠6/\kind≠7):=A;clear A;go_enter Tryz.func84,Tryz.ntmps84
 go_wp2_with fail;go_loopg [11] (O ks) (λY Z wr=>∃a:Nat,Y=O ks - a/\Z=vN a/\a<=nl/\GM w c K how one (ae 18 pos e m name (J (aS g) (O ks) kc)) kind n wr I 0 [] next fk fa)
 case atStart=>exact⟨0,Q,Q,zL _,N⟩
 case round=>
  clear N;obtain⟨a,P,rfl,aa,b⟩:=hrel;have ab:Hid (gk=O ks - a):=P;clear P;have ac:=λs=>cell_of_row wr _ s _ 48 (0,0) b.nb;have ad:E (U w)<E (U wr):=(gE b.nb).1;have af:=b.tb.cell;have ag:=b.tb.fz;have ah:=b.tb.lt;have ai:=b.zb.cell;have aj:=b.zb.fz;have al:=b.zb.lt;by_cases t:a<nl
  ·obtain⟨u,ao,ap,aq,ar,au,av,aw,v,-,x,ax,i,k,-⟩:=F.out.er a oM;obtain rfl:g=v:=sU x;obtain rfl:=k t;have ay:(a:Int)<(O ks:Int):=oM;have az:wr.cell? ⟨g,a*11,I⟩=some (vN 19):=(b.k.cell (p:=⟨g,a*11,I⟩) (by show g<_;omega) (by show g≠c;omega)).trans (i 0 dC);have aA:g<E (U wr):=oM;clear i;go_wp2_with fail;go_roundg (O ks - (a+1))
   case measure=>rw[ab.out];omega
   case rel=>exact⟨a+1,Q,by go_num,t,b⟩
  ·obtain rfl:nl=a:=oM;clear t aa;obtain⟨u,ao,ap,aq,ar,au,av,aw,v,-,x,ax,i,-,k⟩:=F.out.er nl S;obtain rfl:g=v:=sU x
   have aN:(u==19)=false:=by
    have:=k (lR _);have aO:=this.1;have aP:=this.2;exact eF oM
   have ay:(nl:Int)<(O ks:Int):=oM;have az:wr.cell? ⟨g,nl*11,I⟩=some (vN u):=(b.k.cell (p:=⟨g,nl*11,I⟩) (by show g<_;omega) (by show g≠c;omega)).trans (i 0 dC);have aA:g<E (U wr):=oM;clear i k;go_wp2_with (go_at_call 83;refine(fm b.c _ _).mono ?_;rintro aQ R ⟨aR,aT,rfl,aB,aC,-⟩;have d:=b.step aC aB;have ac:=λs=>cell_of_row R _ s _ 48 (0,0) d.nb;have ad:E (U w)<E (U R):=(gE d.nb).1;have af:=d.tb.cell;have ag:=d.tb.fz;have ah:=d.tb.lt;have ai:=d.zb.cell;have aj:=d.zb.fz;have al:=d.zb.lt)
   all_goals
    go_light;exact eR X.out V d _ Q Q
theorem ry {h:Nat} (z:bV h) {w:World} {c:Nat} {K:CK} {M:MK} {T:Nat} {l:Nat->Prop} {A o B0:Nat} {how next one fk fa:Int} (q:Cx w c K M T l A o) (j:bJ w c K how next one fk fa) (aD:B0<=c) {pos e m:Int} {name:ByteArray} {g:Nat} {kc nl:Nat} {ks:VV} (f:GN h B0 w (aS g) kc ks nl) {kind n:Int} (B:(kind=4->0<=n/\n<(O M.ds:Int))/\kind≠5/\kind≠6/\kind≠7) (r:Nat) (C:Int) (hl:r<=6100) (S:nl<O ks) (aE:((nl:Int) !=0)=true) (aF:((nl:Int) !=(r:Int))=false) (aH:((O ks:Int) - (nl:Int) !=C)=true):
 Calls Tryz.prog 84 #[.pointer (some ⟨c,0,I⟩),.agg (ae 18 pos e m name (J (some ⟨g,0,I⟩) (O ks) kc)),.agg (ak kind n (J I 0 0) (J I 0 0)),.int .i64 r,.int .i64 C] w (bE w c K how one l (O M.ds) ((1+(ks.map (aG h w)).sum)*o)):=by
 have aI:Hid (bV h):=@z;clear z;have aJ:=f.km;have aK:=f.uu;have aL:=f.tC;have V:=q.z1;have W:=j.lt;have aM:Hid (Cx w c K M T (λD=>l D/\D<E (U w)) A o):=q.low;have aN:Hid (bJ w c K how next one fk fa):=j;have F:Hid (GN h B0 w (aS g) kc ks nl):=f;obtain⟨s,G,H,L⟩:=mZ w (Ob (ae 18 pos e m name (J (aS g) (O ks) kc)) 48) (Ob (ak kind n (J I 0 0) (J I 0 0)) 41) (Ob eJ 41);have N:GM w c K how one (ae 18 pos e m name (J (aS g) (O ks) kc)) kind n (((w.alloc (Ob (ae 18 pos e m name (J (aS g) (O ks) kc)) 48)).alloc (Ob (ak kind n (J I 0 0) (J I 0 0)) 41)).alloc (Ob eJ 41)) I 0 [] next fk fa:=⟨Kp.al s,j.below s,W,G,H,L,World.ownsRow_nil _ _ _ _⟩;clear s G H L q j f;have X:Hid ((kind=4->0<=n/\n<(O M.ds:Int))/\kind≠5/\kind≠6/\kind≠7):=B;clear B;go_enter Tryz.func84,Tryz.ntmps84
 go_wp2_with fail;go_loopg [11] (O ks) (λY Z wr=>∃a:Nat,Y=O ks - a/\Z=vN a/\a<=nl/\GM w c K how one (ae 18 pos e m name (J (aS g) (O ks) kc)) kind n wr I 0 [] next fk fa)
 case atStart=>exact⟨0,Q,Q,zL _,N⟩
 case round=>
  clear N;obtain⟨a,P,rfl,aa,b⟩:=hrel;have ab:Hid (gk=O ks - a):=P;clear P;have ac:=λt=>cell_of_row wr _ t _ 48 (0,0) b.nb;have ad:E (U w)<E (U wr):=(gE b.nb).1;have af:=b.tb.cell;have ag:=b.tb.fz;have ah:=b.tb.lt;have ai:=b.zb.cell;have aj:=b.zb.fz;have al:=b.zb.lt;by_cases u:a<nl
  ·obtain⟨v,ao,ap,aq,ar,au,av,aw,x,-,y,ax,i,k,-⟩:=F.out.er a oM;obtain rfl:g=x:=sU y;obtain rfl:=k u;have ay:(a:Int)<(O ks:Int):=oM;have az:wr.cell? ⟨g,a*11,I⟩=some (vN 19):=(b.k.cell (p:=⟨g,a*11,I⟩) (by show g<_;omega) (by show g≠c;omega)).trans (i 0 dC);have aA:g<E (U wr):=oM;clear i;go_wp2_with fail;go_roundg (O ks - (a+1))
   case measure=>rw[ab.out];omega
   case rel=>exact⟨a+1,Q,by go_num,u,b⟩
  ·obtain rfl:nl=a:=oM;clear u aa;obtain⟨v,ao,ap,aq,ar,au,av,aw,x,-,y,ax,i,-,k⟩:=F.out.er nl S;obtain rfl:g=x:=sU y
   have aO:(v==19)=false:=by
    have:=k (lR _);have aP:=this.1;have aQ:=this.2;exact eF oM
   have ay:(nl:Int)<(O ks:Int):=oM;have az:wr.cell? ⟨g,nl*11,I⟩=some (vN v):=(b.k.cell (p:=⟨g,nl*11,I⟩) (by show g<_;omega) (by show g≠c;omega)).trans (i 0 dC);have aA:g<E (U wr):=oM;clear i k;go_wp2_with (go_at_call 83;refine(fm b.c _ _).mono ?_;rintro aR R ⟨aT,aU,rfl,aB,aC,-⟩;have d:=b.step aC aB;have ac:=λt=>cell_of_row R _ t _ 48 (0,0) d.nb;have ad:E (U w)<E (U R):=(gE d.nb).1;have af:=d.tb.cell;have ag:=d.tb.fz;have ah:=d.tb.lt;have ai:=d.zb.cell;have aj:=d.zb.fz;have al:=d.zb.lt)
   all_goals
    go_light;exact eR X.out V d _ Q Q
end Go.Proofs.YtdghkacbpebcoaaGreat
