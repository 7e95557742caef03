import Derived.Test.YtdghkacbpebcoaaGreatS28
namespace Go.Proofs.YtdghkacbpebcoaaGreat
open Go.RowKit
open Value renaming slice→J
open List renaming length→O
open Option renaming none→I
open World renaming heap→U
open _root_.Array renaming size→E
open Obj renaming cells→Ob
set_option linter.all false
set_option maxRecDepth 100000
set_option maxHeartbeats 0
section
variable{mb:Nat} {S:Nat->Prop} {w:World}
theorem af.args {G:Int->Int->Nat->Nat->Prop} {h:Nat} {kind n:Int} {lv:Value} {o:OA} {p u:Nat} (x:af S G (h+1) w (ak kind n lv (J o p u)).toList):∃a:VV,p=O a/\O a<=30000/\(∀q,bW (q+1) w (ak kind n lv (J o p u)).toList=1+(a.map (bW q w)).sum)/\(∀r∈a,af S G h w r)/\∀c,c<O a->∃g d e f i j k al1 l,o=some ⟨g,0,I⟩/\g<E (U w)/\a[c]? =some (ak d e (J f i j) (J k al1 l)).toList/\∀b,b<4->w.cell? ⟨g,c*4+b,I⟩=(ak d e (J f i j) (J k al1 l))[b]? :=by
 obtain⟨F,a,H,s,K,y,L,m⟩:=x.parts;refine⟨a,s.len,y,λq=>gP s m,m,λc t=>?_⟩;obtain⟨g,M,z,hS,A,B⟩:=s.nth (λr C=>af.four _ _ (m r C)) t;obtain⟨d,e,f,i,j,k,al1,l,v⟩:=af.cells _ (m _ (List.getElem_mem t));refine⟨g,d,e,f,i,j,k,al1,l,(Value.slice.inj z).1,A,by rw[gG t,v],λb D=>?_⟩;rw[B b D,v];simp
def qm (w:World) (e:Ending) (w':World):Prop:=∃r:Int,e=.returned (vN r)/\Below (E (U w)) w w'
theorem np {G:Int->Int->Nat->Nat->Prop} (p:Int):(h:Nat)->∀{w:World} {d f:Int} {i:Value} {e:OA} {s j:Nat},af S G h w (ak d f i (J e s j)).toList->Calls Tryz.prog 87 #[.agg (ak d f i (J e s j)),vN p] w (qm w)
 |0,_,_,_,_,_,_,_,hn=>absurd hn (λx=>x)
 |h+1,w,d,f,i,e,s,j,hn=>by
  have M:Hid (∀{w:World} {d f:Int} {i:Value} {e:OA} {s j:Nat},af S G h w (ak d f i (J e s j)).toList->Calls Tryz.prog 87 #[.agg (ak d f i (J e s j)),vN p] w (qm w)):=np p h;obtain⟨b,rfl,ac,-,z,A⟩:=hn.args;have B:Hid ((∀x∈b,af S G h w x)/\∀a,a<O b->∃g k l m n o q al1 r,e=some ⟨g,0,I⟩/\g<E (U w)/\b[a]? =some (ak k l (J m n o) (J q al1 r)).toList/\∀c,c<4->w.cell? ⟨g,a*4+c,I⟩=(ak k l (J m n o) (J q al1 r))[c]?):=⟨z,A⟩;clear hn z A;obtain⟨y,N⟩:=al1 w (Ob (ak d f i (J e (O b) j)) 41)
  cases ad:(d==5)
  ·go_enter Tryz.func87,Tryz.ntmps87
   go_wp2_with fail;go_loopg [5,7,18] (O b) (λP R _ T wr=>∃(a:Nat) (C:Int),P=O b - a/\T=vN a/\R=vN C/\a<=O b/\Below (E (U w)) w wr)
   case atStart=>exact⟨0,0,Q,Q,Q,zL _,y⟩
   case round=>
    clear y N;obtain⟨a,C,D,rfl,rfl,ae,t⟩:=hrel;have V:Hid (gk=O b - a):=D;clear D;by_cases F:a<O b
    ·have H:(a:Int)<(O b:Int):=oM;obtain⟨g,k,l,m,n,o,q,al1,r,rfl,W,K,L⟩:=B.out.2 a F;have u:∀c,c<4->wr.cell? ⟨g,a*4+c,I⟩=(ak k l (J m n o) (J q al1 r))[c]? :=λc X=>(t.cell (p:=⟨g,a*4+c,I⟩) W).trans (L c X);have Y:=u 0 dC;have ag:=u 1 dC;have ah:=u 2 dC;have ai:=u 3 dC;simp only[Nat.add_zero] at Y;have aj:g<E (U wr):=oH t.size;have v:Below (E (U w)) w (wr.alloc (Ob (ak k l (J m n o) (J q al1 r)) 41)):=t.alloc t.size _;have Z:Hid (af S G h (wr.alloc (Ob (ak k l (J m n o) (J q al1 r)) 41)) (ak k l (J m n o) (J q al1 r)).toList):=af.frame (aq.below v) v.size _ _ (B.out.1 _ (mG K));clear u L K;go_wp2_with fail;refine(M.out Z.out).mono ?_;rintro al ao ⟨ap,rfl,aa⟩;have ab:=v.trans (aa.mono v.size);go_wp2_with fail;go_roundg (O b - (a+1))
     case measure=>rw[V.out];omega
     case rel=>exact⟨a+1,_,Q,by go_num,Q,F,ab⟩
    ·have H:¬(a:Int)<(O b:Int):=oM;have ar:decide ((a:Int)<(O b:Int))=false:=sU H;go_wp2_with fail;go_ret;exact⟨_,Q,t⟩
  ·go_enter Tryz.func87,Tryz.ntmps87
   go_wp2_with fail
   all_goals
    go_ret;exact⟨_,Q,y⟩
abbrev MK.bu (M:MK) (k a:Int):MK:={M with fk:=k,fa:=a}
def cz (w:World) (mb:Nat) (M:MK):Prop:=w.heap[mb]? =some (Ob (jM M) 66 (0,0))
theorem cz.lt {M:MK} (h:cz w mb M):mb<E (U w):=(gE h).1
theorem cz.cell {M:MK} (h:cz w mb M) (o:Nat):w.cell? ⟨mb,o,I⟩=(jM M)[o]? :=cell_of_row w mb o _ 66 (0,0) h
theorem cz.fz {M:MK} (h:cz w mb M) (o:Nat):w.frozen? ⟨mb,o,I⟩=false:=frozen_of_row w mb o _ 66 h
theorem bM {M:MK} (h:cz w mb M):Calls Tryz.prog 30 #[.pointer (aS mb)] w (λa b=>a=.returned (.bool (M.fk==0))/\b=w):=by
 have c:=h.cell;have d:=h.lt;go_enter Tryz.func30,Tryz.ntmps30
 go_wp2_with fail;go_ret;exact⟨Q,Q⟩
def ug (w:World) (mb:Nat) (M:MK) (e:Ending) (w':World):Prop:=
 ∃k' a',e=.returned (.tuple #[])/\cz w' mb (M.bu k' a')/\Kp (E (U w)) mb w w'/\(M.fk≠0->k'=M.fk)
theorem bU {M:MK} (h:cz w mb M) (k a:Int):Calls Tryz.prog 39 #[.pointer (aS mb),vN k,vN a] w (λc d=>ug w mb M c d/\(k≠0->∃e j,e≠0/\cz d mb (M.bu e j))):=by
 have o:=h.cell;have q:=h.fz;have r:=h.lt
 cases f:(M.fk==0)
 ·go_enter Tryz.func39,Tryz.ntmps39
  go_wp2_with (go_at_call 30;refine(bM h).mono ?_;rintro c b ⟨rfl,rfl⟩)
  go_end0;exact⟨⟨M.fk,M.fa,Q,h,Kp.refl _ _ _,λ_=>rfl⟩,λ_=>⟨M.fk,M.fa,sU f,h⟩⟩
 ·go_enter Tryz.func39,Tryz.ntmps39
  go_wp2_with (go_at_call 30;refine(bM h).mono ?_;rintro c b ⟨rfl,rfl⟩)
  go_end0;have l:cz (b.setCell ⟨mb,7,I⟩ (vN k)) mb (M.bu k M.fa):=heap_setCell_same b mb 7 _ 66 _ h;have i:cz ((b.setCell ⟨mb,7,I⟩ (vN k)).setCell ⟨mb,8,I⟩ (vN a)) mb (M.bu k a):=heap_setCell_same _ mb 8 _ 66 _ l;exact⟨⟨k,a,Q,i,(((Kp.refl _ _ _).setCell (p:=⟨mb,7,I⟩) (.inr Q) _).setCell (p:=⟨mb,8,I⟩) (.inr Q) _),λm=>absurd (sU f) m⟩,λn=>⟨k,a,n,i⟩⟩
end
section
variable{S:Nat->Prop} {w:World}
theorem oS {P:Program} (base t d e:Nat) (i:TypeInfo) (size c:Nat) (a:P.underlying t=some (.slice e)) (b:P.info? e=some i) (v:Value) (n:Nat) (xs:List Value) (f:w.ownsRow base e size v n xs):(Builtin.append_ #[t,t] d #[v,J I 0 c]).run P w=.ok v w:=by
 rcases f.2 with⟨rfl,rfl⟩|⟨g,cap,cur,rfl,_,_,hnc,_⟩
 ·simp[Builtin.append_,run_underlying a,sizeOf,typeInfo,b,Builtin.lenOf,Builtin.firstCells]
 ·simp[Builtin.append_,run_underlying a,sizeOf,typeInfo,b,Builtin.lenOf,Builtin.firstCells,hnc,storeCells]
theorem jm {W:World} {l:OA} {m:Nat} {ls a:List Int} (n:W.ownsRow (E (U w)) 3 1 (J l (O ls) m) (O ls) (aN ls)) (b:Below (E (U w)) w W) {x:Value} (F:ro W S 1 x (O a) (aN a)) (ac:O ls+O a<=17592186044416) (p:TypeId):
 ∃o i,(Builtin.append_ #[38,38] p #[J l (O ls) m,x]).run Tryz.prog W=.ok o i/\∃d e,o=J d (O (ls++a)) e/\i.ownsRow (E (U w)) 3 1 (J d (O (ls++a)) e) (O (ls++a)) (aN (ls++a))/\Below (E (U w)) w i:=by
 obtain⟨v,z,G,H,K⟩:=info_parts rf;obtain⟨L,A,rfl,B,C⟩:=F
 cases L with
 |none=>
  have M:a=[]:=by
   rcases Nat.eq_zero_or_pos (O a) with q|q
   ·exact List.eq_nil_of_length_eq_zero q
   ·obtain⟨g,j,_⟩:=C q;exact absurd j sQ
  subst M;exact⟨_,W,oS (P:=Tryz.prog) (E (U w)) 38 p 3 v 1 A Tryz.underlying38 z _ _ _ n,l,m,sQ,sU n,b⟩
 |some r=>
  have N:∀c f,(aN a)[c]? =some f->W.cell? (r.add c)=some f:=by
   intro c f D
   have ad:c<O a:=by
    have:=(gS D).1;rw[B] at this;omega
   obtain⟨g,j,_,ae,R⟩:=C oM;obtain rfl:r=⟨g,0,I⟩:=Option.some.inj j;have T:(⟨g,0,I⟩:Addr).add c=⟨g,c,I⟩:=by unfold Addr.add;split<;>simp_all
   rw[T];exact(R c oM).trans D
  have one:∀f∈aN a,f.oneCell'=true:=by
   intro f V;obtain⟨x,_,rfl⟩:=List.mem_map.1 V;rfl
  obtain⟨o,i,X,s,k,_,af⟩:=run_append_own_at (P:=Tryz.prog) W (E (U w)) 38 p 3 v _ 1 8 Tryz.underlying38 z G H K Q dC (J l (O ls) m) (O ls) (aN ls) n r (O a) A (aN a) B N one (by unfold maxLen;omega) oM b.size;have Y:aN ls++aN a=aN (ls++a):=by simp[aN]
  have Z:O (ls++a)=O ls+O a:=sQ;rw[Y,<-Z] at s
  obtain⟨d,e,rfl⟩:∃d e,o=J d (O (ls++a)) e:=by
   rcases s.2 with⟨t,aa⟩|⟨x,y,zz,t,_⟩
   ·exact⟨I,0,by rw[t,aa]⟩
   ·exact⟨_,_,t⟩
  exact⟨_,i,X,d,e,Q,s,⟨k.os.trans b.os,k.tape.trans b.tape,k.output.trans b.output,lT b.size k.size,λu ab=>(k.block u (oH b.size) (λj=>oH (n.lt u j.symm).1)).trans (b.block u ab)⟩⟩
def ui (w:World) (N:Nat) (e:Ending) (w':World):Prop:=
 ∃(ao:OA) (cp:Nat) (ls:List Int),e=.returned (J ao (O ls) cp)/\w'.ownsRow (E (U w)) 3 1 (J ao (O ls) cp) (O ls) (aN ls)/\O ls<=N/\Below (E (U w)) w w'
theorem ef {f:List Value->Nat} (a:VV) (i:Nat):((a.take i).map f).sum<=(a.map f).sum:=by
 conv=>rhs;rw[<-List.take_append_drop i a]
 rw[List.map_append,List.sum_append];omega
theorem mI {G:Int->Int->Nat->Nat->Prop} (ai:∀k n nl na,G k n nl na->nl<=6100):(h:Nat)->∀{w:World} {i n:Int} {c:OA} {x d:Nat} {e:OA} {y j:Nat},af S G h w (ak i n (J c x d) (J e y j)).toList->6100*bW h w (ak i n (J c x d) (J e y j)).toList<=17592186044416->Calls Tryz.prog 85 #[.agg (ak i n (J c x d) (J e y j))] w (ui w (6100*bW h w (ak i n (J c x d) (J e y j)).toList))
 |0,_,_,_,_,_,_,_,_,_,hn,_=>absurd hn (λR=>R)
 |h+1,w,i,n,c,x,d,e,y,j,hn,hX=>by
  have aQ:Hid (∀{w:World} {i n:Int} {c:OA} {x d:Nat} {e:OA} {y j:Nat},af S G h w (ak i n (J c x d) (J e y j)).toList->6100*bW h w (ak i n (J c x d) (J e y j)).toList<=17592186044416->Calls Tryz.prog 85 #[.agg (ak i n (J c x d) (J e y j))] w (ui w (6100*bW h w (ak i n (J c x d) (J e y j)).toList))):=mI ai h;obtain⟨u,_,T,_,_,_,aj,_⟩:=hn.parts;have bg:=ai _ _ _ _ aj;obtain rfl:=T.len;obtain⟨a,rfl,bh,V,al,ao⟩:=hn.args;have V:=V h;rw[V] at hX⊢;have ap:Hid ((∀R∈a,af S G h w R)/\∀b,b<O a->∃g l m o q r M al1 s,e=some ⟨g,0,I⟩/\g<E (U w)/\a[b]? =some (ak l m (J o q r) (J M al1 s)).toList/\∀t,t<4->w.cell? ⟨g,b*4+t,I⟩=(ak l m (J o q r) (J M al1 s))[t]?):=⟨al,ao⟩;have ar:Hid (6100*(1+(a.map (bW h w)).sum)<=17592186044416):=hX;obtain⟨C,au⟩:=al1 w (Ob (ak i n (J c (O u) d) (J e (O a) j)) 41);have av:=T.frame (aq.below C) C.size;have aR:E (U (w.alloc (Ob (ak i n (J c (O u) d) (J e (O a) j)) 41)))=E (U w)+1:=sQ;have W:Hid (∀{X:World},Below (E (U (w.alloc (Ob (ak i n (J c (O u) d) (J e (O a) j)) 41)))) (w.alloc (Ob (ak i n (J c (O u) d) (J e (O a) j)) 41)) X->X.heap[E (U w)]? =some (Ob (ak i n (J c (O u) d) (J e (O a) j)) 41 (0,0))/\Below (E (U w)) w X):=λB=>⟨(B.block _ oM).trans au,C.trans (B.mono C.size)⟩;clear hn al ao hX T aj C au aR;go_enter Tryz.func85,Tryz.ntmps85
  go_wp2_with (at_builtin;refine bG 38 (v:=J I 0 0) (xv:=J c (O u) d) rQ rQ rQ rQ (jm (w:=(w.alloc (Ob (ak i n (J c (O u) d) (J e (O a) j)) 41))) (ls:=[]) (World.ownsRow_nil _ _ _ _) (Below.refl _ _) av (by simp;omega) _) ?_;rintro aS aw ⟨M,aT,rfl,ax,N⟩;have aU:=λt=>cell_of_row aw _ t _ 41 (0,0) (W.out N).1;have aV:E (U w)<E (U aw):=(gE (W.out N).1).1)
  clear aU aV;go_loopg [3,5,13] (O a) (λaW v _ aX wr=>∃(b:Nat) (D:OA) (F:Nat) (ls:List Int),aW=O a - b/\aX=.int .i64 b/\v=J D (O ls) F/\b<=O a/\wr.ownsRow (E (U (w.alloc (Ob (ak i n (J c (O u) d) (J e (O a) j)) 41)))) 3 1 (J D (O ls) F) (O ls) (aN ls)/\O ls<=6100*(1+((a.take b).map (bW h w)).sum)/\Below (E (U (w.alloc (Ob (ak i n (J c (O u) d) (J e (O a) j)) 41)))) (w.alloc (Ob (ak i n (J c (O u) d) (J e (O a) j)) 41)) wr)
  case atStart=>exact⟨0,M,aT,u,Q,Q,sQ,zL _,sU ax,by simp;omega,N⟩
  case round=>
   clear ax N av;obtain⟨b,D,F,ls,ay,rfl,rfl,bi,az,aA,B⟩:=hrel;have aY:Hid (gk=O a - b):=ay;have Y:Hid (O ls<=6100*(1+((a.take b).map (bW h w)).sum)):=aA;have H:=(W.out B).2;clear ay aA;by_cases aB:b<O a
   ·have aC:(b:Int)<(O a:Int):=oM;obtain⟨g,l,m,o,q,r,z,al1,s,rfl,aZ,Z,aD⟩:=ap.out.2 b aB;have K:∀t,t<4->wr.cell? ⟨g,b*4+t,I⟩=(ak l m (J o q r) (J z al1 s))[t]? :=λt a0=>(H.cell (p:=⟨g,b*4+t,I⟩) aZ).trans (aD t a0);have a1:=K 0 dC;have bj:=K 1 dC;have bk:=K 2 dC;have bl:=K 3 dC;simp only[Nat.add_zero] at a1;have bm:g<E (U wr):=oH H.size;have P:Below (E (U w)) w (wr.alloc (Ob (ak l m (J o q r) (J z al1 s)) 41)):=H.alloc H.size _;have aa:=ap.out.1 _ (mG Z);have a2:Hid (af S G h (wr.alloc (Ob (ak l m (J o q r) (J z al1 s)) 41)) (ak l m (J o q r) (J z al1 s)).toList):=af.frame (aq.below P) P.size _ _ aa;obtain⟨L,ab⟩:∃L,bW h w (ak l m (J o q r) (J z al1 s)).toList=L:=⟨_,Q⟩;have aE:Hid (bW h (wr.alloc (Ob (ak l m (J o q r) (J z al1 s)) 41)) (ak l m (J o q r) (J z al1 s)).toList=L):=(aL (aq.below P) P.size _ _ aa h).trans ab
    have ac:Hid (((a.take (b+1)).map (bW h w)).sum=((a.take b).map (bW h w)).sum+L):=by
     show _=_;rw[List.take_add_one,Z,List.map_append,List.sum_append,<-ab];simp
    have aF:Hid (((a.take (b+1)).map (bW h w)).sum<=(a.map (bW h w)).sum):=ef a _;have a3:=ah az (w':=wr.alloc (Ob (ak l m (J o q r) (J z al1 s)) 41)) (λaG _ ad=>Below.heap_alloc _ _ _ ad);have aH:=B.alloc B.size (Ob (ak l m (J o q r) (J z al1 s)) 41);clear K aD Z aa ab;go_wp2_with fail;refine(aQ.out a2.out (by rw[aE.out];have ae:=ac.out;have aI:=aF.out;have a4:=ar.out;omega)).mono ?_;rintro bn aJ ⟨aK,aM,A,rfl,a5,ag,aO⟩;rw[aE.out] at ag;have aP:Hid (O A<=6100*L):=ag;clear ag;have a6:=ah a3 (w':=aJ) (λaG _ ad=>aO.block aG ad);have a7:=aH.trans (aO.mono aH.size);have a8:ro aJ (λ_=>True) 1 (J aK (O A) aM) (O A) (aN A):=ro.bH a5 (λ_ _=>trivial);have a9:O ls+O A<=17592186044416:=by have ae:=ac.out;have aI:=aF.out;have a4:=ar.out;have a':=Y.out;have ba:=aP.out;omega
    go_wp2_with (at_builtin;refine bG 38 (v:=J D (O ls) F) (xv:=J aK (O A) aM) rQ rQ rQ rQ (jm a6 a7 a8 a9 _) ?_;rintro aS bo ⟨bb,bc,rfl,bd,bf⟩)
    go_roundg (O a - (b+1))
    case measure=>rw[aY.out];omega
    case rel=>exact⟨b+1,bb,bc,ls++A,Q,by go_num,sQ,aB,bd,by have ae:=ac.out;have a':=Y.out;have ba:=aP.out;rw[List.length_append];omega,bf⟩
   ·have aC:¬(b:Int)<(O a:Int):=oM;have bp:decide ((b:Int)<(O a:Int))=false:=sU aC;go_wp2_with fail;go_ret;refine⟨D,F,ls,Q,dJ az sQ,?_,H⟩;have ae:=ef (f:=bW h w) a b;have aI:=Y.out;omega
end
section
variable{x y:Int}
def lq (w:World) (D N:Nat) (e:Ending) (w':World):Prop:=
 ∃(ao:OA) (cp:Nat) (ls:List Int),e=.returned (J ao (O ls) cp)/\w'.ownsRow (E (U w)) 3 1 (J ao (O ls) cp) (O ls) (aN ls)/\O ls<=N/\(∀y∈ls,0<=y/\y<(D:Int))/\Below (E (U w)) w w'
theorem yH (h:x≠y):(x !=y)=true:=sU h
theorem yE (h:x=y):(x==y)=true:=by simp[h]
theorem zC (h:x=y):(x !=y)=false:=by simp[h]
theorem nV (h:x≠y):(x==y)=false:=sU h
theorem tN {S:Nat->Prop} {D:Nat}:(h:Nat)->∀{w:World} {c a:Int} {e:OA} {i j:Nat} {d:OA} {u k:Nat},af S (Gd D) h w (ak c a (J e i j) (J d u k)).toList->bW h w (ak c a (J e i j) (J d u k)).toList<=17592186044416->Calls Tryz.prog 46 #[.agg (ak c a (J e i j) (J d u k))] w (lq w D (bW h w (ak c a (J e i j) (J d u k)).toList))
 |0,_,_,_,_,_,_,_,_,_,hn,_=>absurd hn (λx=>x)
 |h+1,w,c,a,e,i,j,d,u,k,hn,hX=>by
  have aX:Hid (∀{w:World} {c a:Int} {e:OA} {i j:Nat} {d:OA} {u k:Nat},af S (Gd D) h w (ak c a (J e i j) (J d u k)).toList->bW h w (ak c a (J e i j) (J d u k)).toList<=17592186044416->Calls Tryz.prog 46 #[.agg (ak c a (J e i j) (J d u k))] w (lq w D (bW h w (ak c a (J e i j) (J d u k)).toList))):=tN h;obtain⟨bu,_,_,_,_,_,av,_⟩:=hn.parts;have aY:=av.2.1;obtain⟨b,rfl,bv,R,aw,ax⟩:=hn.args;have R:=R h;rw[R] at hX⊢;have ay:Hid ((∀x∈b,af S (Gd D) h w x)/\∀l,l<O b->∃g m n o q r T al1 s,d=some ⟨g,0,I⟩/\g<E (U w)/\b[l]? =some (ak m n (J o q r) (J T al1 s)).toList/\∀t,t<4->w.cell? ⟨g,l*4+t,I⟩=(ak m n (J o q r) (J T al1 s))[t]?):=⟨aw,ax⟩;have az:Hid (1+(b.map (bW h w)).sum<=17592186044416):=hX;obtain⟨V,aA⟩:=al1 w (Ob (ak c a (J e i j) (J d (O b) k)) 41);have aZ:E (U (w.alloc (Ob (ak c a (J e i j) (J d (O b) k)) 41)))=E (U w)+1:=sQ;have Z:Hid (∀{aa:World},Below (E (U (w.alloc (Ob (ak c a (J e i j) (J d (O b) k)) 41)))) (w.alloc (Ob (ak c a (J e i j) (J d (O b) k)) 41)) aa->aa.heap[E (U w)]? =some (Ob (ak c a (J e i j) (J d (O b) k)) 41 (0,0))/\Below (E (U w)) w aa):=λG=>⟨(G.block _ oM).trans aA,V.trans (G.mono V.size)⟩;have aB:Hid (lq w D (1+(b.map (bW h w)).sum) (.returned (J I 0 0)) (w.alloc (Ob (ak c a (J e i j) (J d (O b) k)) 41))):=⟨I,0,[],Q,World.ownsRow_nil _ _ _ _,zL _,(λy F=>by cases F),V⟩;clear hn aw ax hX av V aA aZ R;by_cases a0:c=6\/c=7\/c=8
  ·rcases a0 with rfl|rfl|rfl
   all_goals
    go_enter Tryz.func46,Tryz.ntmps46
    go_wp2_with fail;go_ret;exact aB.out
  ·have bw:(c==6)=false:=nV oM;have bx:(c==7)=false:=nV oM;have bz:(c==8)=false:=nV oM;by_cases K:c=4
   case' pos=>
    have ab:(c==9)=false:=nV oM;have a1:=aY K;have a2:(c==4)=true:=yE K;clear K
    have W:ro ((w.alloc (Ob (ak c a (J e i j) (J d (O b) k)) 41)).alloc (Ob #[vN a] 3)) (λ_=>True) 1 (J (aS (E (U (w.alloc (Ob (ak c a (J e i j) (J d (O b) k)) 41))))) 1 1) [a].length (aN [a]):=⟨_,_,Q,Q,λ_=>⟨_,Q,trivial,sQ,λa3 a4=>by
     obtain rfl:a3=0:=sU a4;rw[cell_of_row _ (E (U (w.alloc (Ob (ak c a (J e i j) (J d (O b) k)) 41)))) 0 #[vN a] 3 (0,0) (heap_alloc_new (w.alloc (Ob (ak c a (J e i j) (J d (O b) k)) 41)) _)];rfl⟩⟩
    have ac:E (U (w.alloc (Ob (ak c a (J e i j) (J d (O b) k)) 41)))=E (U w)+1:=sQ;have W:ro ((w.alloc (Ob (ak c a (J e i j) (J d (O b) k)) 41)).alloc (Ob #[vN a] 3)) (λ_=>True) 1 (J (aS (E (U w)+1)) 1 1) [a].length (aN [a]):=by rw[<-ac];exact W
    clear ac;go_enter Tryz.func46,Tryz.ntmps46
    go_wp2_with (at_builtin;refine bG 38 (v:=J I 0 0) (xv:=J (aS (E (U w)+1)) 1 1) rQ rQ rQ rQ (jm (w:=(w.alloc (Ob (ak c a (J e i j) (J d (O b) k)) 41))) (ls:=[]) (World.ownsRow_nil _ _ _ _) (al1 _ _).1 W sQ _) ?_;rintro a5 aC ⟨T,a6,rfl,aD,X⟩;have a7:=λt=>cell_of_row aC _ t _ 41 (0,0) (Z.out X).1;have a8:E (U w)<E (U aC):=(gE (Z.out X).1).1)
    clear a7 a8;go_loopg [3,5,37] (O b) (λad v _ ae wr=>∃(l:Nat) (A:OA) (B:Nat) (ls:List Int),ad=O b - l/\ae=.int .i64 l/\v=J A (O ls) B/\l<=O b/\wr.ownsRow (E (U (w.alloc (Ob (ak c a (J e i j) (J d (O b) k)) 41)))) 3 1 (J A (O ls) B) (O ls) (aN ls)/\(O ls<=1+((b.take l).map (bW h w)).sum/\∀y∈ls,0<=y/\y<(D:Int))/\Below (E (U (w.alloc (Ob (ak c a (J e i j) (J d (O b) k)) 41)))) (w.alloc (Ob (ak c a (J e i j) (J d (O b) k)) 41)) wr)
    case atStart=>exact⟨0,T,a6,[a],Q,Q,sQ,zL _,sU aD,⟨sQ,λy F=>(List.mem_singleton.1 F)▸a1⟩,X⟩
    case' round=>clear aD X W
   case' neg=>
    have a2:(c==4)=false:=nV K;by_cases H:c=9/\a≠4/\a≠5/\a≠6
    ·have ab:(c==9)=true:=yE H.1;have a9:(a !=4)=true:=yH H.2.1;have a':(a !=5)=true:=yH H.2.2.1;have bA:(a !=6)=true:=yH H.2.2.2;clear H;go_enter Tryz.func46,Tryz.ntmps46
     go_wp2_with fail;go_ret;exact aB.out
    have ba:(c==9)=false\/(c==9)=true/\((a !=4)=false\/(a !=4)=true/\((a !=5)=false\/(a !=5)=true/\(a !=6)=false)):=by simp;omega
    clear H K;rcases ba with ab|⟨ab,d4|⟨a9,d5|⟨a',d6⟩⟩⟩
    all_goals
     go_enter Tryz.func46,Tryz.ntmps46
     go_wp2_with fail;go_loopg [3,5,37] (O b) (λad v _ ae wr=>∃(l:Nat) (A:OA) (B:Nat) (ls:List Int),ad=O b - l/\ae=.int .i64 l/\v=J A (O ls) B/\l<=O b/\wr.ownsRow (E (U (w.alloc (Ob (ak c a (J e i j) (J d (O b) k)) 41)))) 3 1 (J A (O ls) B) (O ls) (aN ls)/\(O ls<=1+((b.take l).map (bW h w)).sum/\∀y∈ls,0<=y/\y<(D:Int))/\Below (E (U (w.alloc (Ob (ak c a (J e i j) (J d (O b) k)) 41)))) (w.alloc (Ob (ak c a (J e i j) (J d (O b) k)) 41)) wr)
     case atStart=>exact⟨0,I,0,[],Q,Q,Q,zL _,World.ownsRow_nil _ _ _ _,⟨zL _,λy F=>by cases F⟩,Below.refl _ _⟩
   all_goals
    obtain⟨l,A,B,ls,aE,rfl,rfl,bB,aF,aG,G⟩:=hrel;have bb:Hid (gk=O b - l):=aE;have L:Hid (O ls<=1+((b.take l).map (bW h w)).sum/\∀y∈ls,0<=y/\y<(D:Int)):=aG;have M:=(Z.out G).2;clear aE aG;by_cases aH:l<O b
    ·have aI:(l:Int)<(O b:Int):=oM;obtain⟨g,m,n,o,q,r,z,al1,s,rfl,bc,ag,aJ⟩:=ay.out.2 l aH;have N:∀t,t<4->wr.cell? ⟨g,l*4+t,I⟩=(ak m n (J o q r) (J z al1 s))[t]? :=λt bd=>(M.cell (p:=⟨g,l*4+t,I⟩) bc).trans (aJ t bd);have bf:=N 0 dC;have ac:=N 1 dC;have bC:=N 2 dC;have bD:=N 3 dC;simp only[Nat.add_zero] at bf;have bE:g<E (U wr):=oH M.size;have Y:Below (E (U w)) w (wr.alloc (Ob (ak m n (J o q r) (J z al1 s)) 41)):=M.alloc M.size _;have ai:=ay.out.1 _ (mG ag);have bg:Hid (af S (Gd D) h (wr.alloc (Ob (ak m n (J o q r) (J z al1 s)) 41)) (ak m n (J o q r) (J z al1 s)).toList):=af.frame (aq.below Y) Y.size _ _ ai;obtain⟨P,aj⟩:∃P,bW h w (ak m n (J o q r) (J z al1 s)).toList=P:=⟨_,Q⟩;have aK:Hid (bW h (wr.alloc (Ob (ak m n (J o q r) (J z al1 s)) 41)) (ak m n (J o q r) (J z al1 s)).toList=P):=(aL (aq.below Y) Y.size _ _ ai h).trans aj
     have al:Hid (((b.take (l+1)).map (bW h w)).sum=((b.take l).map (bW h w)).sum+P):=by
      show _=_;rw[List.take_add_one,ag,List.map_append,List.sum_append,<-aj];simp
     have aM:Hid (((b.take (l+1)).map (bW h w)).sum<=(b.map (bW h w)).sum):=ef b _;have bh:=ah aF (w':=wr.alloc (Ob (ak m n (J o q r) (J z al1 s)) 41)) (λaO _ ao=>Below.heap_alloc _ _ _ ao);have aP:=G.alloc G.size (Ob (ak m n (J o q r) (J z al1 s)) 41);clear N aJ ag ai aj;go_wp2_with fail;refine(aX.out bg.out (by rw[aK.out];have ap:=al.out;have aQ:=aM.out;have bi:=az.out;omega)).mono ?_;rintro bF aR ⟨aT,aU,C,rfl,bj,ar,aV,aW⟩;rw[aK.out] at ar;have au:Hid (O C<=P/\∀y∈C,0<=y/\y<(D:Int)):=⟨ar,aV⟩;clear ar aV;have bk:=ah bh (w':=aR) (λaO _ ao=>aW.block aO ao);have bl:=aP.trans (aW.mono aP.size);have bm:ro aR (λ_=>True) 1 (J aT (O C) aU) (O C) (aN C):=ro.bH bj (λ_ _=>trivial);have bn:O ls+O C<=17592186044416:=by have ap:=al.out;have aQ:=aM.out;have bi:=az.out;have bo:=L.out.1;have bp:=au.out.1;omega
     go_wp2_with (at_builtin;refine bG 38 (v:=J A (O ls) B) (xv:=J aT (O C) aU) rQ rQ rQ rQ (jm bk bl bm bn _) ?_;rintro a5 bH ⟨bq,br,rfl,bs,bt⟩)
     go_roundg (O b - (l+1))
     case measure=>rw[bb.out];omega
     case rel=>exact⟨l+1,bq,br,ls++C,Q,by go_num,sQ,aH,bs,⟨by have ap:=al.out;have bo:=L.out.1;have bp:=au.out.1;rw[List.length_append];omega,λy F=>(List.mem_append.1 F).elim (L.out.2 y) (au.out.2 y)⟩,bt⟩
    ·have aI:¬(l:Int)<(O b:Int):=oM;have bI:decide ((l:Int)<(O b:Int))=false:=sU aI;go_wp2_with fail;go_ret;refine⟨A,B,ls,Q,dJ aF sQ,?_,L.out.2,M⟩;have ap:=ef (f:=bW h w) b l;have aQ:=L.out.1;omega
end
end Go.Proofs.YtdghkacbpebcoaaGreat
