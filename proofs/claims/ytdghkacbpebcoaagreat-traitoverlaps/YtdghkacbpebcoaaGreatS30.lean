import Derived.Test.YtdghkacbpebcoaaGreatS21
namespace Go.Proofs.YtdghkacbpebcoaaGreat
open Go.RowKit
open Value renaming slice→J
open List renaming length→O
open Option renaming none→I
open World renaming heap→U
open _root_.Array renaming size→E
open Obj renaming cells→Ob
set_option linter.all false
set_option maxRecDepth 100000
set_option maxHeartbeats 0
section
variable{pr:Array Value} {fn:Func} {D T cp i r s t:Nat} {ao:OA} {d0 d1 d2 d3 u u':Value} {W w wx:World}
theorem fW {base:Nat} {a:List ByteArray} (h:w.ownsRow base 9 1 (J ao (O a) cp) (O a) (bX a)) {x:ByteArray} (b:a[i]? =some x):∃g,ao=some ⟨g,0,I⟩/\g<E (U w)/\base<=g/\w.cell? ⟨g,i,I⟩=some (.string x):=by
 have c:bX a=(a.map (λx=>[Value.string x])).flatten:=by
  unfold bX;clear h b;induction a with
  |nil=>rfl
  |cons l r d=>simp only[List.map_cons,List.flatten_cons,d];rfl
 rw[c] at h;obtain⟨g,e,c,f,j,k⟩:=aP h sQ (λx b=>by obtain⟨m,_,rfl⟩:=List.mem_map.1 b;rfl) (i:=i) (x:=[Value.string x]) (by rw[List.getElem?_map,b];rfl);obtain⟨rfl,rfl⟩:ao=some ⟨g,0,I⟩/\cp=e:=sU c;exact⟨g,Q,f,j,sU (k 0 dC)⟩
def NT (s:ByteArray):Prop:=s.size<=20000/\∀i,rF s i->¬rF s (i+1)
def lu (w:World) (D T:Nat) (e:Ending) (w':World):Prop:=
 ∃(r:Nm) (b:ByteArray) (k:Int),e=.returned (.tuple #[.agg (dF r),.string b,vN k])/\NQ D T r/\Below (E (U w)) w w'
theorem gY (c:fn.results=#[.cell r 104,.tmp s,.tmp t]) {a:Array Value} {b:Nat} (d:a.getD r undef=.pointer (aS b)) (e:a.getD s undef=u) (f:a.getD t undef=u') {c0 c1 c2 c3:Value} (j:bx W b #[c0,c1,c2,c3]):
 (results fn a).run Tryz.prog W=.ok (.tuple #[.agg #[c0,c1,c2,c3],u,u']) W:=by
 have k:=j.cell;have l:a[r]?.getD undef=.pointer (aS b):=sU d;have m:a[s]?.getD undef=u:=sU e;have n:a[t]?.getD undef=u':=sU f;simp[results,c,l,m,n,go_sem,k]
theorem pN (d:fn.results=#[.cell r 104,.tmp s,.tmp t]) {a:Act} (e:a.defers=[]) {z:Nat} (f:a.tmps.getD r undef=.pointer (aS z)) (j:bx W z #[d0,d1,d2,d3]) (k:E (U w)<=z) (l:Below (E (U w)) w W) (m:a.tmps.getD s undef=u) (n:a.tmps.getD t undef=u') (b:Nm) {c:Ending->World->Prop}
 (h:∀w',Below (E (U w)) w w'->c (.returned (.tuple #[.agg (dF b),u,u'])) w'):bodyPost Tryz.prog fn c .ret a (cM W z (.string b.name) (vN b.sort) (vN b.n) (.bool b.eZ)):=
  bodyPost_ret (gY d f m n (bx.bQ j _ _ _ _)) e (h _ (Below.cM l k _ _ _ _))
structure FA (w:World) (pr:Array Value) (ao:OA) (cp:Nat) (ns:List ByteArray) (wx:World):Prop where
 below:Below (E (U w)) w wx
 z:bx wx (E (U w)+1) (dF gJ)
 p:wx.heap[E (U w)]? =some (Ob pr 29 (0,0))
 row:wx.ownsRow (E (U w)+2) 9 1 (J ao (O ns) cp) (O ns) (bX ns)
theorem FA.step {w':World} {b:List ByteArray} (h:FA w pr ao cp b wx) (a:Below (E (U wx)) wx w'):FA w pr ao cp b w':=
 ⟨h.below.trans (a.mono h.below.size),(a.block _ h.z.lt).trans h.z,(a.block _ (gE h.p).1).trans h.p,ah h.row (λc _ d=>a.block c d)⟩
structure FM (w:World) (D T:Nat) (pr:Array Value) (ao:OA) (cp:Nat) (ns:List ByteArray) (nb:Nat) (r:Nm) (wx:World):Prop where
 a:FA w pr ao cp ns wx
 n:bx wx nb (dF r)
 lt:E (U w)+1<nb
 gn:∀g,ao=some ⟨g,0,I⟩->g≠nb
 q:NQ D T r
theorem FA.put {e:List ByteArray} (h:FA w pr ao cp e wx) {nb:Nat} (l:bx wx nb #[d0,d1,d2,d3]) (hl:E (U w)+1<nb) (f:∀g,ao=some ⟨g,0,I⟩->g≠nb) (r:Nm) (q:NQ D T r):FM w D T pr ao cp e nb r (cM wx nb (.string r.name) (vN r.sort) (vN r.n) (.bool r.eZ)):=by
 have c:∀a,a≠nb->(cM wx nb (.string r.name) (vN r.sort) (vN r.n) (.bool r.eZ)).heap[a]? =wx.heap[a]? :=λa b=>(Below.heap_setCell _ ⟨nb,3,I⟩ _ _ b).trans ((Below.heap_setCell _ ⟨nb,2,I⟩ _ _ b).trans ((Below.heap_setCell _ ⟨nb,1,I⟩ _ _ b).trans (Below.heap_setCell _ ⟨nb,0,I⟩ _ _ b)));refine⟨⟨Below.cM h.below oM _ _ _ _,(c _ oM).trans h.z,(c _ oM).trans h.p,ah h.row (λa b _=>c a ?_)⟩,bx.bQ l _ _ _ _,hl,f,q⟩
 cases ao with
 |none=>simp[Value.ownBlock] at b
 |some j=>
  obtain rfl:j.block=a:=by simpa[Value.ownBlock] using b
  rcases h.row.2 with⟨d,_⟩|⟨g,cap,cur,d,_⟩
  ·simp at d
  ·have k:j=⟨g,0,I⟩:=by simpa using(Value.slice.inj d).1
   rw[k];exact f g (by rw[k])
theorem pA (ax:1<=D) (ay:4<=T) {mo:OA} {ml mc:Nat} {ms:List Md} (af:di w (J mo ml mc) ms) (az:∀m∈ms,∀ag∈m.ns,NQ D T ag) (l n o p q:Value) (v:Int) (aO:i<O ms) (x:ByteArray) (ah:NT x):
 Calls Tryz.prog 69 #[.agg (eL (J mo ml mc) l n o p v q),vN i,.string x] w (lu w D T):=by
 obtain rfl:=af.len;obtain⟨m,aA⟩:∃m,ms[i]? =some m:=⟨_,gG aO⟩;have j:Hid (di w (J mo (O ms) mc) ms/\(∀m∈ms,∀ag∈m.ns,NQ D T ag)/\1<=D/\4<=T/\ms[i]? =some m):=⟨af,az,ax,ay,aA⟩;clear af az ax ay aA;obtain⟨aB,aC,aD⟩:=dW w (Ob (eL (J mo (O ms) mc) l n o p v q) 29) (Ob (dF gJ) 104);have aE:E (U ((w.alloc (Ob (eL (J mo (O ms) mc) l n o p v q) 29)).alloc (Ob (dF gJ) 104)))=E (U w)+2:=sQ;go_enter Tryz.func69,Tryz.ntmps69
 go_wp2_with fail;refine(pL x _ ah.1 ah.2).mono ?_;rintro y k ⟨ao,cp,f,rfl,Y,⟨a3,a4⟩,_,R⟩;rw[aE] at Y R;have z:=aB.trans (R.mono oM);have c:bx k (E (U w)+1) (dF gJ):=(R.block _ oM).trans aD;have Z:k.heap[E (U w)]? =some (Ob (eL (J mo (O ms) mc) l n o p v q) 29 (0,0)):=(R.block _ oM).trans aC;have ai:FA w (eL (J mo (O ms) mc) l n o p v q) ao cp f k:=⟨z,c,Z,Y⟩;clear aB aC aD R aE;obtain⟨aj,aa⟩:∃aj,f[0]? =some aj:=⟨_,gG oM⟩;obtain⟨g,rfl,S,aP,ak⟩:=fW Y aa;have al:=λap=>cell_of_row k _ ap _ 29 (0,0) Z;have aq:E (U w)<E (U k):=(gE Z).1;have ab:=c.lt;have a5:(0:Int)<(O f:Int):=oM;have a6:O f<=30000:=oH ah.1;go_upto_region 2 with fail
 go_cut [10,11] (λaQ aR wx=>∃(G:Nat) (d:Bool) (r:Nm),aQ=.pointer (aS G)/\aR=.bool d/\FM w D T (eL (J mo (O ms) mc) l n o p v q) (aS g) cp f G r wx)
 case first=>
  have aF:∀H,(some ⟨g,0,I⟩:OA)=some ⟨H,0,I⟩->H<E (U k):=λH y=>by
   obtain rfl:g=H:=sU y;exact S
  go_region_with (go_at_call 86;first|(refine(sq (D:=D) (T:=T) j.out.2.2.1 j.out.2.2.2.1 (j.out.1.below z.drew) l n o p q v j.out.2.2.2.2 (j.out.2.1 _ (mG j.out.2.2.2.2)) _).mono ?_;rintro y K ⟨L,ar,rfl,V,A⟩;have X:=ai.step (((Below.refl _ _).drew).trans A);have ac:=A.size)|(refine(sq (D:=D) (T:=T) j.out.2.2.1 j.out.2.2.2.1 (j.out.1.below (z.alloc z.size _).drew) l n o p q v j.out.2.2.2.2 (j.out.2.1 _ (mG j.out.2.2.2.2)) _).mono ?_;rintro y K ⟨L,ar,rfl,V,A⟩;have ac:=A.size;simp at ac;have X:=ai.step (((al1 k _).1.drew).trans (A.mono sQ));have B:bx K (E (U k)) (dF gJ):=(A.block _ sQ).trans (al1 k _).2;have au:=B.cell;have av:=B.fz;have ad:=B.lt))
  all_goals
   go_wp2_with fail;go_meet
   first
    |exact⟨E (U k),ar,L,Q,Q,X.put B oM (λH y=>oH (aF H y)) L V⟩
    |exact⟨E (U K),ar,L,Q,Q,⟨X.step (al1 _ _).1,(al1 _ _).2,by have:E (U k)<=E (U K):=ac;omega,λH y=>by have:=aF H y;have:E (U k)<=E (U K):=ac;omega,V⟩⟩
 case rest=>
  clear z c Z ai al aq ab ak S Y;obtain⟨G,d,r,rfl,rfl,a⟩:=hcut;have c:=a.a.z;have aG:=c.cell;have aH:=c.fz;have ab:=c.lt;have au:=a.n.cell;have av:=a.n.fz;have ad:=a.n.lt;have al:=λap=>cell_of_row wc _ ap _ 29 (0,0) a.a.p;have aq:E (U w)<E (U wc):=oM;have a7:G≠E (U w)+1:=oH a.lt;have a8:E (U w)+1≠G:=oH a.lt;obtain⟨aT,aI,S,aP,ak⟩:=fW a.a.row aa;obtain rfl:g=aT:=sU aI;have a9:g≠G:=a.gn g Q;have M:Hid (∀(W:World) (b:Act) (d:ByteArray) (e:Int),bx W (E (U w)+1) (dF gJ)->Below (E (U w)) w W->b.defers=[]->b.tmps.getD 6 undef=.pointer (aS (E (U w)+1))->b.tmps.getD 7 undef=.string d->b.tmps.getD 8 undef=vN e->bodyPost Tryz.prog Tryz.f69 (lu w D T) .ret b (cM W (E (U w)+1) (.string r.name) (vN r.sort) (vN r.n) (.bool r.eZ))):=λW b d e c z C N F P=>pN Tryz.results69 C N c oM z F P r (λaU aw=>⟨r,d,e,Q,a.q,aw⟩);have ae:Hid (∀(b:Act) (d:ByteArray) (e:Int),b.defers=[]->b.tmps.getD 6 undef=.pointer (aS (E (U w)+1))->b.tmps.getD 7 undef=.string d->b.tmps.getD 8 undef=vN e->bodyPost Tryz.prog Tryz.f69 (lu w D T) .ret b (cM wc (E (U w)+1) (.string r.name) (vN r.sort) (vN r.n) (.bool r.eZ)).drew):=λb d e C N F P=>bodyPost_ret (gY (c0:=.string r.name) (c1:=vN r.sort) (c2:=vN r.n) (c3:=.bool r.eZ) Tryz.results69 N F P (bx.bQ c _ _ _ _)) C ⟨r,d,e,Q,a.q,(Below.cM a.a.below oM _ _ _ _).drew⟩;by_cases C:O f=1
  ·have aV:((O f:Int)==1)=true:=by simp[C]
   cases d
   ·go_wp2_with fail;go_light;exact M.out _ _ _ _ c a.a.below Q Q Q Q
   ·go_wp2_with fail;go_light;exact M.out _ _ _ _ c a.a.below Q Q Q Q
  ·have aV:((O f:Int)==1)=false:=by simp;omega
   obtain⟨aJ,aW⟩:∃aJ,f[1]? =some aJ:=⟨_,gG oM⟩;obtain⟨aX,aK,_,_,aY⟩:=fW a.a.row aW;obtain rfl:g=aX:=sU aK;have a':(1:Int)<(O f:Int):=oM
   cases d
   ·clear M ae;go_upto_region 12 with fail
    go_cut [12] (λaZ wx=>∃(e:Int) (r:Nm),aZ=vN e/\FM w D T (eL (J mo (O ms) mc) l n o p v q) (aS g) cp f G r wx)
    case first=>
     go_region_with (go_at_call 41;refine(pI (D:=D) (T:=T) j.out.2.2.1 (j.out.1.below a.a.below.drew) j.out.2.1 l n o p q v _ _ _).mono ?_;rintro y K ⟨L,a0,rfl,V,A⟩;have X:=a.a.step (((Below.refl _ _).drew).trans A);have B:bx K G (dF r):=(A.block _ ad).trans a.n;have ba:=B.cell;have bb:=B.fz;have bc:=B.lt)
     all_goals
      go_wp2_with fail;go_meet;exact⟨a0,L,Q,X.put B a.lt a.gn L V⟩
    case rest=>
     have bd:Hid (f[0]? =some aj):=aa;clear a c aG aH ab au av ad al aq ak aY S aa aI aK;obtain⟨e,r,rfl,a⟩:=hcut;have c:=a.a.z;have aG:=c.cell;have aH:=c.fz;have ab:=c.lt;have au:=a.n.cell;have av:=a.n.fz;have ad:=a.n.lt;have M:Hid (∀(W:World) (b:Act) (d:ByteArray) (e:Int),bx W (E (U w)+1) (dF gJ)->Below (E (U w)) w W->b.defers=[]->b.tmps.getD 6 undef=.pointer (aS (E (U w)+1))->b.tmps.getD 7 undef=.string d->b.tmps.getD 8 undef=vN e->bodyPost Tryz.prog Tryz.f69 (lu w D T) .ret b (cM W (E (U w)+1) (.string r.name) (vN r.sort) (vN r.n) (.bool r.eZ))):=λW b d e c z C N F P=>pN Tryz.results69 C N c oM z F P r (λaU aw=>⟨r,d,e,Q,a.q,aw⟩);have ae:Hid (∀(b:Act) (d:ByteArray) (e:Int),b.defers=[]->b.tmps.getD 6 undef=.pointer (aS (E (U w)+1))->b.tmps.getD 7 undef=.string d->b.tmps.getD 8 undef=vN e->bodyPost Tryz.prog Tryz.f69 (lu w D T) .ret b (cM wc (E (U w)+1) (.string r.name) (vN r.sort) (vN r.n) (.bool r.eZ)).drew):=λb d e C N F P=>bodyPost_ret (gY (c0:=.string r.name) (c1:=vN r.sort) (c2:=vN r.n) (c3:=.bool r.eZ) Tryz.results69 N F P (bx.bQ c _ _ _ _)) C ⟨r,d,e,Q,a.q,(Below.cM a.a.below oM _ _ _ _).drew⟩;by_cases F:O f=3
     ·have a1:((O f:Int)==3)=true:=by simp[F]
      have bf:(2:Int)<(O f:Int):=oM;obtain⟨aL,aM⟩:∃aL,f[2]? =some aL:=⟨_,gG oM⟩;obtain⟨a2,aN,S,_,bg⟩:=fW a.a.row aM;obtain rfl:g=a2:=sU aN;clear aM aN;go_wp2_with fail
      all_goals
       first
        |(go_light;exact M.out _ _ _ _ c a.a.below Q Q Q Q)
        |(go_region;all_goals(go_wp2_with fail;go_light;exact ae.out _ _ _ Q Q Q Q))
     ·have a1:((O f:Int)==3)=false:=by simp;omega
      go_wp2_with fail
      all_goals
       go_light;exact M.out _ _ _ _ c a.a.below Q Q Q Q
   ·go_wp2_with fail
    all_goals
     first
      |(go_light;exact M.out _ _ _ _ c a.a.below Q Q Q Q)
      |(go_region;all_goals(go_wp2_with fail;go_light;exact ae.out _ _ _ Q Q Q Q))
end
end Go.Proofs.YtdghkacbpebcoaaGreat
