import Derived.Test.YtdghkacbpebcoaaGreatS32
import Derived.Test.YtdghkacbpebcoaaGreatS33
namespace Go.Proofs.YtdghkacbpebcoaaGreat
open Go.RowKit
open Value renaming slice→J
open List renaming length→O
open Option renaming none→I
open World renaming heap→U
open _root_.Array renaming size→E
open Obj renaming cells→Ob
set_option linter.all false
set_option maxRecDepth 100000
set_option maxHeartbeats 0
section
variable{name:ByteArray} {K:CK} {fa how m n next one pos:Int} {M:MK} {B0 T Z cb h hs kc kl:Nat} {S0:Nat->Prop} {ko:OA} {w:World}
theorem uC (s:bV h) {fk:Int} (f:Cx w cb K M T S0 hs Z) (c:bJ w cb K how next one fk fa) (F:B0<=cb) {kind:Int} (i:isNode (λb=>b<B0) True (h+1) w (ae kind pos n m name (J ko kl kc)).toList) (G:(fk==0)=false):
 Calls Tryz.prog 44 #[.pointer (some ⟨cb,0,I⟩),.agg (ae kind pos n m name (J ko kl kc))] w (bE w cb K how one S0 (O M.ds) (aG (h+1) w (ae kind pos n m name (J ko kl kc)).toList*Z)):=by
 clear s;have j:=c.lt;obtain⟨d,k⟩:∃d,d=aG (h+1) w (ae kind pos n m name (J ko kl kc)).toList*Z:=⟨_,Q⟩
 have t:1<=d:=by
  obtain⟨u,-,-,-,-,v,-⟩:=i.kids;have:=f.z1;have:=Nat.mul_le_mul (show 1<=1+(u.map (aG h w)).sum by omega) this;rw[k,v];omega
 rw[<-k];obtain⟨e,l,o⟩:=dW w (Ob (ae kind pos n m name (J ko kl kc)) 48) (Ob eJ 41);have a:PM w cb K how one (ae kind pos n m name (J ko kl kc)) ((w.alloc (Ob (ae kind pos n m name (J ko kl kc)) 48)).alloc (Ob eJ 41)) next fk fa:=⟨Kp.al e,c.below e,j,l,o⟩;have p:w.heap[cb]? =some (Ob (dy K how next one fk fa) 114 (0,0)):=c;have x:Hid (w.heap[cb]? =some (Ob (dy K how next one fk fa) 114 (0,0))):=p;clear p e l o f c i;go_enter Tryz.func44,Tryz.ntmps44
 have H:=λy=>cell_of_row _ _ y _ 48 (0,0) a.nb;have L:=(gE a.nb).1;have N:=a.zb.cell;have P:=a.zb.fz;have R:=a.zb.lt;go_wp2_with (go_at_call 64;refine(iQ a.c).mono ?_;rintro q V ⟨rfl,rfl⟩)
 go_light;obtain⟨z,A⟩:=dz (S:=λb=>(S0 b\/E (U w)<=b)) (D:=O M.ds) (w:=(w.alloc (Ob (ae kind pos n m name (J ko kl kc)) 48)).alloc (Ob (ak 0 0 (J I 0 0) (J I 0 0)) 41)) (kind:=0) (n:=0) ⟨λq=>absurd q dC,dC,dC⟩;obtain⟨r,W,B⟩:=dW w (Ob (ae kind pos n m name (J ko kl kc)) 48) (Ob (ak 0 0 (J I 0 0) (J I 0 0)) 41);exact gW Tryz.results44 Q Q B ((r.block _ j).trans x.out) (Kp.al r) z (λC=>lT (A C) t)
theorem uB (s:bV h) (f:Cx w cb K M T S0 hs Z) (c:bJ w cb K how next one 0 fa) (F:B0<=cb) (i:isNode (λb=>b<B0) True (h+1) w (ae 13 pos n m name (J ko kl kc)).toList):
 Calls Tryz.prog 44 #[.pointer (some ⟨cb,0,I⟩),.agg (ae 13 pos n m name (J ko kl kc))] w (bE w cb K how one S0 (O M.ds) (aG (h+1) w (ae 13 pos n m name (J ko kl kc)).toList*Z)):=by
 clear s;have j:=c.lt;obtain⟨d,k⟩:∃d,d=aG (h+1) w (ae 13 pos n m name (J ko kl kc)).toList*Z:=⟨_,Q⟩
 have t:1<=d:=by
  obtain⟨u,-,-,-,-,v,-⟩:=i.kids;have:=f.z1;have:=Nat.mul_le_mul (show 1<=1+(u.map (aG h w)).sum by omega) this;rw[k,v];omega
 rw[<-k];obtain⟨e,l,o⟩:=dW w (Ob (ae 13 pos n m name (J ko kl kc)) 48) (Ob eJ 41);have a:PM w cb K how one (ae 13 pos n m name (J ko kl kc)) ((w.alloc (Ob (ae 13 pos n m name (J ko kl kc)) 48)).alloc (Ob eJ 41)) next 0 fa:=⟨Kp.al e,c.below e,j,l,o⟩;have p:w.heap[cb]? =some (Ob (dy K how next one 0 fa) 114 (0,0)):=c;have x:Hid (w.heap[cb]? =some (Ob (dy K how next one 0 fa) 114 (0,0))):=p;clear p e l o f c i;go_enter Tryz.func44,Tryz.ntmps44
 have G:=λy=>cell_of_row _ _ y _ 48 (0,0) a.nb;have H:=(gE a.nb).1;have L:=a.zb.cell;have N:=a.zb.fz;have P:=a.zb.lt;go_wp2_with (go_at_call 64;refine(iQ a.c).mono ?_;rintro q R ⟨rfl,rfl⟩)
 go_light;obtain⟨z,A⟩:=dz (S:=λb=>(S0 b\/E (U w)<=b)) (D:=O M.ds) (w:=(w.alloc (Ob (ae 13 pos n m name (J ko kl kc)) 48)).alloc (Ob (ak 1 0 (J I 0 0) (J I 0 0)) 41)) (kind:=1) (n:=0) ⟨λq=>absurd q dC,dC,dC⟩;obtain⟨r,V,B⟩:=dW w (Ob (ae 13 pos n m name (J ko kl kc)) 48) (Ob (ak 1 0 (J I 0 0) (J I 0 0)) 41);exact gW Tryz.results44 Q Q B ((r.block _ j).trans x.out) (Kp.al r) z (λC=>lT (A C) t)
theorem uA (s:bV h) (f:Cx w cb K M T S0 hs Z) (c:bJ w cb K how next one 0 fa) (F:B0<=cb) (i:isNode (λb=>b<B0) True (h+1) w (ae 14 pos n m name (J ko kl kc)).toList):
 Calls Tryz.prog 44 #[.pointer (some ⟨cb,0,I⟩),.agg (ae 14 pos n m name (J ko kl kc))] w (bE w cb K how one S0 (O M.ds) (aG (h+1) w (ae 14 pos n m name (J ko kl kc)).toList*Z)):=by
 clear s;have j:=c.lt;obtain⟨d,k⟩:∃d,d=aG (h+1) w (ae 14 pos n m name (J ko kl kc)).toList*Z:=⟨_,Q⟩
 have t:1<=d:=by
  obtain⟨u,-,-,-,-,v,-⟩:=i.kids;have:=f.z1;have:=Nat.mul_le_mul (show 1<=1+(u.map (aG h w)).sum by omega) this;rw[k,v];omega
 rw[<-k];obtain⟨e,l,o⟩:=dW w (Ob (ae 14 pos n m name (J ko kl kc)) 48) (Ob eJ 41);have a:PM w cb K how one (ae 14 pos n m name (J ko kl kc)) ((w.alloc (Ob (ae 14 pos n m name (J ko kl kc)) 48)).alloc (Ob eJ 41)) next 0 fa:=⟨Kp.al e,c.below e,j,l,o⟩;have p:w.heap[cb]? =some (Ob (dy K how next one 0 fa) 114 (0,0)):=c;have x:Hid (w.heap[cb]? =some (Ob (dy K how next one 0 fa) 114 (0,0))):=p;clear p e l o f c i;go_enter Tryz.func44,Tryz.ntmps44
 have G:=λy=>cell_of_row _ _ y _ 48 (0,0) a.nb;have H:=(gE a.nb).1;have L:=a.zb.cell;have N:=a.zb.fz;have P:=a.zb.lt;go_wp2_with (go_at_call 64;refine(iQ a.c).mono ?_;rintro q R ⟨rfl,rfl⟩)
 go_light;obtain⟨z,A⟩:=dz (S:=λb=>(S0 b\/E (U w)<=b)) (D:=O M.ds) (w:=(w.alloc (Ob (ae 14 pos n m name (J ko kl kc)) 48)).alloc (Ob (ak 2 0 (J I 0 0) (J I 0 0)) 41)) (kind:=2) (n:=0) ⟨λq=>absurd q dC,dC,dC⟩;obtain⟨r,V,B⟩:=dW w (Ob (ae 14 pos n m name (J ko kl kc)) 48) (Ob (ak 2 0 (J I 0 0) (J I 0 0)) 41);exact gW Tryz.results44 Q Q B ((r.block _ j).trans x.out) (Kp.al r) z (λC=>lT (A C) t)
end
theorem rS {h:Nat} (x:bV h) {w:World} {c:Nat} {K:CK} {M:MK} {T:Nat} {j:Nat->Prop} {r i B0:Nat} {how next one fa:Int} (k:Cx w c K M T j r i) (l:bJ w c K how next one 0 fa) (V:B0<=c) {pos n m:Int} {name:ByteArray} {ko:OA} {kl kc:Nat} (o:isNode (λb=>b<B0) True (h+1) w (ae 18 pos n m name (J ko kl kc)).toList):
 Calls Tryz.prog 44 #[.pointer (some ⟨c,0,I⟩),.agg (ae 18 pos n m name (J ko kl kc))] w (bE w c K how one j (O M.ds) (aG (h+1) w (ae 18 pos n m name (J ko kl kc)).toList*i)):=by
 have W:Hid (bV h):=@x;clear x;obtain⟨d,rfl,X,Y,y,z,Z,aa,-,-⟩:=o.kids;obtain⟨p,q⟩:∃p,p=aG (h+1) w (ae 18 pos n m name (J ko (O d) kc)).toList*i:=⟨_,Q⟩;rw[<-q];have ab:p=(1+(d.map (aG h w)).sum)*i:=by rw[q,z]
 have A:=l.lt;have ar:=k.z1;have B:Hid (Cx w c K M T (λb=>j b/\b<E (U w)) r i/\bJ w c K how next one 0 fa):=⟨k.low,l⟩;obtain⟨s,C,D⟩:=dW w (Ob (ae 18 pos n m name (J ko (O d) kc)) 48) (Ob eJ 41);have e:PM w c K how one (ae 18 pos n m name (J ko (O d) kc)) ((w.alloc (Ob (ae 18 pos n m name (J ko (O d) kc)) 48)).alloc (Ob eJ 41)) next 0 fa:=⟨Kp.al s,l.below s,A,C,D⟩;have F:Hid (∀{t:World},Kp (E (U w)) c w t->aq (λb=>b<B0) w t):=λ{t} ac b f ad=>ac.block b ad oM;have au:Hid (∀b,(j b/\b<E (U w))->b≠c/\b<E (U w)):=λb f=>⟨k.s0 b f.1,f.2⟩;have ag:Hid (Cx ((w.alloc (Ob (ae 18 pos n m name (J ko (O d) kc)) 48)).alloc (Ob eJ 41)) c K M T (λb=>j b/\b<E (U w)) r i):=B.out.1.step B.out.2 e.k;have ah:Hid (isNode (λb=>b<B0) True (h+1) ((w.alloc (Ob (ae 18 pos n m name (J ko (O d) kc)) 48)).alloc (Ob eJ 41)) (ae 18 pos n m name (J ko (O d) kc)).toList):=isNode.frame (F.out e.k) _ _ o;have ai:Hid (aG (h+1) ((w.alloc (Ob (ae 18 pos n m name (J ko (O d) kc)) 48)).alloc (Ob eJ 41)) (ae 18 pos n m name (J ko (O d) kc)).toList*i=p):=by show _=_;rw[aT (F.out e.k) _ _ o,q]
 have aj:Hid (NT name):=(y.path Q).1.nt Z;clear q ab X Y y z aa o;clear s C D k l;go_enter Tryz.func44,Tryz.ntmps44
 have G:=λu=>cell_of_row _ _ u _ 48 (0,0) e.nb;have H:=(gE e.nb).1;have L:=e.zb.cell;have N:=e.zb.fz;have P:=e.zb.lt;go_wp2_with (go_at_call 64;refine(iQ e.c).mono ?_;rintro ak v ⟨rfl,rfl⟩)
 refine(vW @W.out ag.out e.c V ah.out aj.out).mono ?_;rintro ak v ⟨av,aw,ax,ay,az,aA,aB,aC,aD,aE,aF,rfl,al,ao,⟨aH,R⟩,S⟩;rw[ai.out] at S;have a:=e.step ao al;have ap:E (U ((w.alloc (Ob (ae 18 pos n m name (J ko (O d) kc)) 48)).alloc (Ob eJ 41)))=E (U w)+2:=sQ;rw[ap] at R;clear G H L N P;have G:=λu=>cell_of_row v _ u _ 48 (0,0) a.nb;have H:E (U w)<E (U v):=(gE a.nb).1;have L:=a.zb.cell;have N:=a.zb.fz;have P:=a.zb.lt;have aI:=a.c.cell;have aJ:=a.c.fz;have A:=a.c.lt;go_wp2_with fail;go_light
 exact gr Tryz.results44 Q Q a.zb oM a.eN a.c a.k (af.weaken (λb f _=>by
  rcases f with f|f
  ·exact⟨.inl f.1,oH f.2⟩
  ·exact⟨.inr oM,oM⟩) _ _ R) S
theorem pC {b:Nat} {a w:World} (h:Below b a w) (n:Nat):Below b a (w.drewN n):=⟨h.os,h.tape,h.output,h.size,h.block⟩
def iu (w:World) (e:Ending) (w':World):Prop:=∃r:Bool,e=.returned (.bool r)/\Below (E (U w)) w w'
theorem nY {S:Nat->Prop} {v T:Nat} {M:MK}:(h:Nat)->∀{w:World} {c r:Int} {t:Value} {s:OA} {x u:Nat},PI w v M T->af S (Gd (O M.ds)) h w (ak c r t (J s x u)).toList->Calls Tryz.prog 51 #[.pointer (aS v),.agg (ak c r t (J s x u))] w (iu w)
 |0,_,_,_,_,_,_,_,_,hn=>absurd hn (λW=>W)
 |h+1,w,c,r,t,s,x,u,hp,hn=>by
  have ag:Hid (∀{w:World} {c r:Int} {t:Value} {s:OA} {x u:Nat},PI w v M T->af S (Gd (O M.ds)) h w (ak c r t (J s x u)).toList->Calls Tryz.prog 51 #[.pointer (aS v),.agg (ak c r t (J s x u))] w (iu w)):=nY h;obtain⟨_,_,_,_,_,_,ah,_⟩:=hn.parts;have ar:=ah.2.1;obtain⟨b,rfl,aL,-,ai,aj⟩:=hn.args;have N:Hid ((∀W∈b,af S (Gd (O M.ds)) h w W)/\∀a,a<O b->∃g e f i j k l al1 m,s=some ⟨g,0,I⟩/\g<E (U w)/\b[a]? =some (ak e f (J i j k) (J l al1 m)).toList/\∀d,d<4->w.cell? ⟨g,a*4+d,I⟩=(ak e f (J i j k) (J l al1 m))[d]?):=⟨ai,aj⟩;have y:Hid (PI w v M T):=hp;obtain⟨z,-⟩:=al1 w (Ob (ak c r t (J s (O b) u)) 41);clear hn ai aj ah hp;by_cases A:c=3
  ·have au:(c==3)=true:=yE A;have av:(c==1)=false:=nV oM;have aw:(c==2)=false:=nV oM;have ax:(c==5)=false:=nV oM;have ay:(c==6)=false:=nV oM;clear A;go_enter Tryz.func51,Tryz.ntmps51
   go_wp2_with fail;go_loopg [6,37] (O b) (λX _ Y wr=>∃a:Nat,X=O b - a/\Y=vN a/\a<=O b/\Below (E (U w)) w wr)
   case atStart=>exact⟨0,Q,Q,zL _,z⟩
   case round=>
    clear z;obtain⟨a,B,rfl,az,n⟩:=hrel;have Z:Hid (gk=O b - a):=B;clear B;by_cases C:a<O b
    ·have D:(a:Int)<(O b:Int):=oM;obtain⟨g,e,f,i,j,k,l,al1,m,rfl,R,F,G⟩:=N.out.2 a C;have o:∀d,d<4->wr.cell? ⟨g,a*4+d,I⟩=(ak e f (J i j k) (J l al1 m))[d]? :=λd aa=>(n.cell (p:=⟨g,a*4+d,I⟩) R).trans (G d aa);have ab:=o 0 dC;have aA:=o 1 dC;have aB:=o 2 dC;have aC:=o 3 dC;simp only[Nat.add_zero] at ab;have aD:g<E (U wr):=oH n.size;have q:Below (E (U w)) w (wr.alloc (Ob (ak e f (J i j k) (J l al1 m)) 41)):=n.alloc n.size _;have ac:Hid (af S (Gd (O M.ds)) h (wr.alloc (Ob (ak e f (J i j k) (J l al1 m)) 41)) (ak e f (J i j k) (J l al1 m)).toList):=af.frame (aq.below q) q.size _ _ (N.out.1 _ (mG F));clear o G F;go_wp2_with fail;refine(ag.out (y.out.kt (P:=λ_=>True) (KT.below q) trivial trivial trivial trivial) ac.out).mono ?_;rintro aE aF ⟨ad,rfl,ae⟩;have H:=q.trans (ae.mono q.size)
     cases ad
     ·go_wp2_with fail;go_ret;exact⟨_,Q,H⟩
     ·go_wp2_with fail;go_roundg (O b - (a+1))
      case measure=>rw[Z.out];omega
      case rel=>exact⟨a+1,Q,by go_num,C,H⟩
    ·have D:¬(a:Int)<(O b:Int):=oM;have aG:decide ((a:Int)<(O b:Int))=false:=sU D;go_wp2_with fail;go_ret;exact⟨_,Q,n⟩
  ·have au:(c==3)=false:=nV A;by_cases K:c=4
   ·have al:=ar K;have aH:(c==4)=true:=yE K;have av:(c==1)=false:=nV oM;have aw:(c==2)=false:=nV oM;have ax:(c==5)=false:=nV oM;have ay:(c==6)=false:=nV oM;clear A K;obtain⟨L,rfl⟩:∃L:Nat,r=(L:Int):=⟨r.toNat,oM⟩;obtain⟨V,ao⟩:∃V,M.ds[L]? =some V:=⟨_,gG oM⟩;obtain⟨g,aM,R,ap⟩:=y.out.data ao;have aI:w.cell? ⟨g,L*10+4,I⟩=some (.bool V.copy):=ap 4 dC;have aJ:=λd=>cell_of_row w _ d _ 66 (0,0) y.out.dV;have aK:v<E (U w):=(gE y.out.dV).1;have aN:=y.out.bj;have aO:(L:Int)<(O M.ds:Int):=al.2;clear ao ap al;go_enter Tryz.func51,Tryz.ntmps51
    go_wp2_with fail;go_quiet (fail)
    cases aP:V.copy
    ·go_wp2_with fail;go_ret;exact⟨_,Q,pC z _⟩
    ·go_wp2_with fail;go_loopg [6,37] (O b) (λX _ Y wr=>∃a:Nat,X=O b - a/\Y=vN a/\a<=O b/\Below (E (U w)) w wr)
     case atStart=>exact⟨0,Q,Q,zL _,pC z _⟩
     case round=>
      clear z aJ aK aI;obtain⟨a,B,rfl,az,n⟩:=hrel;have Z:Hid (gk=O b - a):=B;clear B;by_cases C:a<O b
      ·have D:(a:Int)<(O b:Int):=oM;obtain⟨g,e,f,i,j,k,l,al1,m,rfl,R,F,G⟩:=N.out.2 a C;have o:∀d,d<4->wr.cell? ⟨g,a*4+d,I⟩=(ak e f (J i j k) (J l al1 m))[d]? :=λd aa=>(n.cell (p:=⟨g,a*4+d,I⟩) R).trans (G d aa);have ab:=o 0 dC;have aA:=o 1 dC;have aB:=o 2 dC;have aC:=o 3 dC;simp only[Nat.add_zero] at ab;have aD:g<E (U wr):=oH n.size;have q:Below (E (U w)) w (wr.alloc (Ob (ak e f (J i j k) (J l al1 m)) 41)):=n.alloc n.size _;have ac:Hid (af S (Gd (O M.ds)) h (wr.alloc (Ob (ak e f (J i j k) (J l al1 m)) 41)) (ak e f (J i j k) (J l al1 m)).toList):=af.frame (aq.below q) q.size _ _ (N.out.1 _ (mG F));clear o G F;go_wp2_with fail;refine(ag.out (y.out.kt (P:=λ_=>True) (KT.below q) trivial trivial trivial trivial) ac.out).mono ?_;rintro aE aF ⟨ad,rfl,ae⟩;have H:=q.trans (ae.mono q.size)
       cases ad
       ·go_wp2_with fail;go_ret;exact⟨_,Q,H⟩
       ·go_wp2_with fail;go_roundg (O b - (a+1))
        case measure=>rw[Z.out];omega
        case rel=>exact⟨a+1,Q,by go_num,C,H⟩
      ·have D:¬(a:Int)<(O b:Int):=oM;have aG:decide ((a:Int)<(O b:Int))=false:=sU D;go_wp2_with fail;go_ret;exact⟨_,Q,n⟩
   ·have aH:(c==4)=false:=nV K;clear A K;go_enter Tryz.func51,Tryz.ntmps51
    go_wp2_with fail
    all_goals
     go_ret;exact⟨_,Q,z⟩
section
variable{w:World}
theorem kU {base:Nat} {b:OA} {a:Nat} {ls:List Int} (h:w.ownsRow base 3 1 (J b (O ls) a) (O ls) (aN ls)) {i:Nat} {x:Int} (c:ls[i]? =some x):∃g,b=some ⟨g,0,I⟩/\g<E (U w)/\O ls<=a/\w.cell? ⟨g,i,I⟩=some (vN x):=by
 have d:aN ls=(ls.map (λx=>[Value.int .i64 x])).flatten:=(iC ls).symm;have f:=h;rw[d] at h;obtain⟨g,j,d,k,m,l⟩:=aP h sQ (λx c=>by obtain⟨n,_,rfl⟩:=List.mem_map.1 c;rfl) (i:=i) (x:=[Value.int .i64 x]) (by rw[List.getElem?_map,c];rfl);obtain⟨rfl,rfl⟩:b=some ⟨g,0,I⟩/\a=j:=sU d;refine⟨g,Q,k,?_,sU (l 0 dC)⟩;rcases f.2 with⟨e,o⟩|⟨g',cap,cur,e,_,_,x4,_⟩
 ·simp at e
 ·have:a=cap:=by simpa using(Value.slice.inj e).2.2
  omega
theorem wg {S:Nat->Prop} {D h:Nat} {kind n:Int} {e:OA} {f i:Nat} {j:OA} {k l:Nat} (G:af S (Gd D) h w (ak kind n (J e f i) (J j k l)).toList) (N:6100*bW h w (ak kind n (J e f i) (J j k l)).toList<=17592186044416) (o:Nat) (P:o<=30000):Calls Tryz.prog 70 #[.agg (ak kind n (J e f i) (J j k l)),.int .i64 o] w (iu w):=by
 obtain⟨H,R⟩:=al1 w (Ob (ak kind n (J e f i) (J j k l)) 41);have ai:E (U (w.alloc (Ob (ak kind n (J e f i) (J j k l)) 41)))=E (U w)+1:=sQ
 have q:Hid (∀{s:World},Below (E (U (w.alloc (Ob (ak kind n (J e f i) (J j k l)) 41)))) (w.alloc (Ob (ak kind n (J e f i) (J j k l)) 41)) s->s.heap[E (U w)]? =some (Ob (ak kind n (J e f i) (J j k l)) 41 (0,0))/\Below (E (U w)) w s/\af S (Gd D) h s (ak kind n (J e f i) (J j k l)).toList/\6100*bW h s (ak kind n (J e f i) (J j k l)).toList<=17592186044416):=by
  intro s c;have u:=H.trans (c.mono H.size);exact⟨(c.block _ oM).trans R,u,af.frame (aq.below u) u.size _ _ G,by rw[aL (aq.below u) u.size _ _ G];exact N⟩
 clear G N H R ai;go_enter Tryz.func70,Tryz.ntmps70
 go_wp2_with fail;go_loopg [5] o (λv x wr=>∃p:Nat,v=o - p/\x=vN p/\p<=o/\Below (E (U (w.alloc (Ob (ak kind n (J e f i) (J j k l)) 41)))) (w.alloc (Ob (ak kind n (J e f i) (J j k l)) 41)) wr)
 case atStart=>exact⟨0,Q,Q,zL _,Below.refl _ _⟩
 case round=>
  obtain⟨p,y,rfl,aA,c⟩:=hrel;have B:Hid (gk=o - p):=y;clear y;have aj:=λal=>cell_of_row wr _ al _ 41 (0,0) (q.out c).1;have ao:E (U w)<E (U wr):=(gE (q.out c).1).1;by_cases ap:p<o
  ·have T:(p:Int)<(o:Int):=oM;go_wp2_with (go_at_call 87;refine(np _ h (q.out c).2.2.1).mono ?_;rintro ar K ⟨aB,rfl,C⟩)
   all_goals have z:=c.trans (C.mono c.size)
   ·go_ret;exact⟨_,Q,(q.out z).2.1⟩
   ·go_roundg (o - (p+1))
    case measure=>rw[B.out];omega
    case rel=>exact⟨p+1,Q,by go_num,ap,z⟩
  ·have T:¬(p:Int)<(o:Int):=oM;have aC:decide ((p:Int)<(o:Int))=false:=sU T;go_wp2_with (go_at_call 85;refine(mI (λ_ _ _ _ au=>au.1) h (q.out c).2.2.1 (q.out c).2.2.2).mono ?_;rintro ar K ⟨L,t,a,rfl,M,V,C⟩)
   have aD:O a<=17592186044416:=lT V (q.out c).2.2.2;have z:=c.trans (C.mono c.size);obtain⟨r,W⟩:∃r,r=E (U wr):=⟨_,Q⟩;rw[<-W] at M;have d:Hid (K.ownsRow r 3 1 (J L (O a) t) (O a) (aN a)/\Below (E (U w)) w K):=⟨M,(q.out z).2.1⟩;clear M z C V aj ao c B W;go_loopg [7,8,10,24] (O a) (λv _ _ _ x X=>∃b:Nat,v=O a - b/\x=vN b/\b<=O a/\(X.ownsRow r 3 1 (J L (O a) t) (O a) (aN a)/\Below (E (U w)) w X))
   case atStart=>exact⟨0,Q,Q,zL _,d.out⟩
   case round=>
    clear d;obtain⟨b,y,rfl,aE,A⟩:=hrel;have d:Hid ((wr.ownsRow r 3 1 (J L (O a) t) (O a) (aN a)/\Below (E (U w)) w wr)):=A;clear A;have B:Hid (gk=O a - b):=y;clear y;by_cases Y:b<O a
    ·have Z:(b:Int)<(O a:Int):=oM;obtain⟨F,aa⟩:∃F,a[b]? =some F:=⟨_,gG Y⟩;obtain⟨g,rfl,P,aF,av⟩:=kU d.out.1 aa;clear aa;have aG:(b:Int)<=(t:Int):=oM;by_cases aw:F<0
     ·go_wp2_with fail;go_ret;exact⟨_,Q,d.out.2⟩
     ·have aH:decide (F<0)=false:=sU aw;go_wp2_with fail;go_loopg [10,35] b (λv _ x ab=>∃m:Nat,v=b - m/\x=vN m/\m<=b/\(ab.ownsRow r 3 1 (J (aS g) (O a) t) (O a) (aN a)/\Below (E (U w)) w ab))
      case atStart=>exact⟨0,Q,Q,zL _,d.out⟩
      case round=>
       clear d av P;obtain⟨m,ac,rfl,aI,A⟩:=hrel;have d:Hid ((wr.ownsRow r 3 1 (J (aS g) (O a) t) (O a) (aN a)/\Below (E (U w)) w wr)):=A;clear A;have ax:Hid (gk=b - m):=ac;clear ac;by_cases ay:m<b
       ·have ad:(m:Int)<(b:Int):=oM;obtain⟨ae,ag⟩:∃ae,a[m]? =some ae:=⟨_,gG oM⟩;obtain⟨az,ah,aJ,_,aK⟩:=kU d.out.1 ag;obtain rfl:g=az:=sU ah;clear ag ah;go_wp2_with fail
        ·go_ret;exact⟨_,Q,d.out.2⟩
        ·go_roundg (b - (m+1))
         case measure=>rw[ax.out];omega
         case rel=>exact⟨m+1,Q,by go_num,ay,d.out⟩
       ·have ad:¬(m:Int)<(b:Int):=oM;have aM:decide ((m:Int)<(b:Int))=false:=sU ad;go_wp2_with fail;go_roundg (O a - (b+1))
        case measure=>rw[B.out];omega
        case rel=>exact⟨b+1,Q,by go_num,Y,d.out⟩
    ·have Z:¬(b:Int)<(O a:Int):=oM;have aO:decide ((b:Int)<(O a:Int))=false:=sU Z;go_wp2_with fail;go_ret;exact⟨_,Q,d.out.2⟩
end
theorem jt {w:World} {b c:Nat} {M:MK} {K:CK} {how next one fk fa:Int} (h:cz w b M) (a:bJ w c K how next one fk fa):Calls Tryz.prog 45 #[.pointer (aS b),.pointer (aS c)] w (ug w b M):=by
 have m:=a.cell;have n:=a.lt
 cases o:(fk==0)
 ·go_enter Tryz.func45,Tryz.ntmps45
  go_wp2_with (go_at_call 64;refine(iQ a).mono ?_;rintro d e ⟨rfl,rfl⟩)
  go_region_with (go_at_call 39;refine(bU (w:=e.drew) h _ _).mono ?_;rintro d p ⟨⟨f,i,rfl,j,k,l⟩,-⟩)
  all_goals
   go_wp2_with fail;go_end0;exact⟨f,i,Q,j,((Kp.refl _ _ _).drew).trans k,l⟩
 ·go_enter Tryz.func45,Tryz.ntmps45
  go_wp2_with (go_at_call 64;refine(iQ a).mono ?_;rintro d e ⟨rfl,rfl⟩)
  go_end0;exact⟨M.fk,M.fa,Q,h,Kp.refl _ _ _,λ_=>rfl⟩
abbrev eO (lv:Int) (ov gv:Value) (io:OA) (il ic:Nat) (t0 t1 t2 t3:Value):Array Value:=#[vN lv,ov,gv,J io il ic,t0,t1,t2,t3]
theorem qN {S:Nat->Prop} {D H B0:Nat} {w:World} {kind pos n m:Int} {name:ByteArray} {ko:OA} {kc:Nat} {ks:VV} (t:cU B0 w (J ko (O ks) kc) ks) (L:∀i,i<O ks->∃g,ko=some ⟨g,0,I⟩) (aG:B0<=E (U w)) (M:∀x∈ks,∃h,isNode (λb=>b<B0) True h w x) {lv:Int} {ov gv t0 t1 t2 t3:Value} {p:OA} {f:Nat} {c:VV} (aw:ro w S 4 (J p (O c) f) (O c) c.flatten) (u:∀x∈c,af S (Gd D) H w x) (ax:n≠0->2<=O ks/\1<=O c):
 Calls Tryz.prog 48 #[.agg (ae kind pos n m name (J ko (O ks) kc)),.agg (eO lv ov gv p (O c) f t0 t1 t2 t3)] w (iu w):=by
 obtain⟨j,ay,l⟩:=dW w (Ob (ae kind pos n m name (J ko (O ks) kc)) 48) (Ob (eO lv ov gv p (O c) f t0 t1 t2 t3) 79);clear ay l;by_cases v:n=0
 ·subst v;go_enter Tryz.func48,Tryz.ntmps48
  go_wp2_with fail;go_ret;exact⟨_,Q,j⟩
 ·obtain⟨aH,aI⟩:=ax v;have aJ:(n==0)=false:=sU v;obtain⟨x,e⟩:∃x,ks[1]? =some x:=⟨_,gG oM⟩;obtain⟨aK,N⟩:=M x (mG e);obtain⟨aL,aM,aN,aO,P,aP,aQ,aR,rfl,_⟩:=isNode.cells N;obtain⟨g,a,q,aT,R⟩:=t.nth e;obtain⟨az,y⟩:=L 1 oM;have aA:a=0:=by rw[y] at q;simp at q;exact q.2.symm
  subst aA;subst q;obtain rfl:g=az:=sU y;clear y;have aU:w.cell? ⟨g,15,I⟩=some (.string P):=R 4 dC;have aV:g<E (U w):=oM;have aW:(1:Int)<(O ks:Int):=oM;have aX:=t.len.2;have z:0<O c:=oM;obtain⟨r,aB,T,_,aY,V⟩:=aw.nth (λx e=>af.four _ _ (u x e)) z;obtain⟨rfl,rfl⟩:p=some ⟨r,0,I⟩/\f=aB:=sU T;obtain⟨k,W,X,Y,Z,A,aa,B,C⟩:=af.cells _ (u _ (List.getElem_mem z));have s:=u _ (List.getElem_mem z);rw[C] at s
  have d:∀a,a<4->w.cell? ⟨r,a,I⟩=(ak k W (J X Y Z) (J A aa B))[a]? :=λa F=>by
   have:=V a F;rw[C,Nat.zero_mul,Nat.zero_add] at this;rw[this];simp
  have aZ:=d 0 dC;have a0:=d 1 dC;have a1:=d 2 dC;have a2:=d 3 dC;have a3:(0:Int)<(O c:Int):=oM;have aC:Below (E (U w)) w (((w.alloc (Ob (ae kind pos n m name (J (aS g) (O ks) kc)) 48)).alloc (Ob (eO lv ov gv (aS r) (O c) f t0 t1 t2 t3) 79)).alloc (Ob (ak k W (J X Y Z) (J A aa B)) 41)):=j.alloc (oH j.size) _;clear T V d C R e N M t L
  cases a4:(P.toList==[115,101,108,102])
  ·go_enter Tryz.func48,Tryz.ntmps48
   go_wp2_with fail;go_ret;exact⟨_,Q,j⟩
  ·by_cases ab:k=6\/k=7
   ·cases H with
    |zero=>exact absurd s (λx=>x)
    |succ H=>
    obtain⟨_,G,_,l,_,_,ac,K⟩:=s.parts;have aD:O G=1:=(ac.2.2.1 ab).2;obtain rfl:=l.len;have ad:0<O G:=oM;obtain⟨o,aE,ag,_,a5,ah⟩:=l.nth (λx e=>af.four _ _ (K x e)) ad;obtain⟨rfl,rfl⟩:A=some ⟨o,0,I⟩/\B=aE:=sU ag;obtain⟨ai,aj,al,ao,ap,aq,ar,au,av⟩:=af.cells _ (K _ (List.getElem_mem ad))
    have d:∀a,a<4->w.cell? ⟨o,a,I⟩=(ak ai aj (J al ao ap) (J aq ar au))[a]? :=λa F=>by
     have:=ah a F;rw[av,Nat.zero_mul,Nat.zero_add] at this;rw[this];simp
    have a6:=d 0 dC;have a7:=d 1 dC;have a8:=d 2 dC;have a9:=d 3 dC;have a':(0:Int)<(O G:Int):=oM;have ba:o<E (U w)+1:=oM;have bb:o<E (U w)+1+1:=oM;have bc:o≠E (U w)+1+1:=oM;have aF:Below (E (U w)) w (((w.alloc (Ob (ae kind pos n m name (J (aS g) (O ks) kc)) 48)).alloc (Ob (eO lv ov gv (aS r) (O c) f t0 t1 t2 t3) 79)).alloc (Ob (ak ai aj (J al ao ap) (J aq ar au)) 41)):=j.alloc (oH j.size) _;clear ag ah d av aD l ac K s;rcases ab with rfl|rfl
    all_goals
     go_enter Tryz.func48,Tryz.ntmps48
     go_wp2_with fail;go_ret;exact⟨_,Q,aF⟩
   ·have bd:(k==6)=false:=nV oM;have bf:(k==7)=false:=nV oM;go_enter Tryz.func48,Tryz.ntmps48
    go_wp2_with fail;go_ret;exact⟨_,Q,aC⟩
section
variable{w:World}
def vA (w:World) (e:Ending) (w':World):Prop:=∃r:Int,e=.returned (vN r)/\Below (E (U w)) w w'
structure OM (w:World) (nd sg:Array Value) (wr:World):Prop where
 below:Below (E (U w)) w wr
 nb:wr.heap[E (U w)]? =some (Ob nd 48 (0,0))
 sb:wr.heap[E (U w)+1]? =some (Ob sg 79 (0,0))
theorem OM.step {wr w':World} {b c:Array Value} (q:OM w b c wr) (a:Below (E (U wr)) wr w'):OM w b c w':=
 ⟨q.below.trans (a.mono q.below.size),(a.block _ (gE q.nb).1).trans q.nb,(a.block _ (gE q.sb).1).trans q.sb⟩
theorem v7 {S:Nat->Prop} {D H B0:Nat} {kind pos n m:Int} {name:ByteArray} {ko:OA} {kc:Nat} {ks:VV} (M:cU B0 w (J ko (O ks) kc) ks) (aG:∀i,i<O ks->∃g,ko=some ⟨g,0,I⟩) (bb:B0<=E (U w)) (aH:∀x∈ks,∃h,isNode (λb=>b<B0) True h w x) {lv:Int} {ov gv t0 t1 t2 t3:Value} {B:OA} {y:Nat} {a:VV} (ag:ro w S 4 (J B (O a) y) (O a) a.flatten) (Y:∀x∈a,af S (Gd D) (H+1) w x/\∀f,6100*bW f w x<=17592186044416) (bE:O a<=30000) (aI:n>0->2<=O ks/\1<=O a):
 Calls Tryz.prog 68 #[.agg (ae kind pos n m name (J ko (O ks) kc)),.agg (eO lv ov gv B (O a) y t0 t1 t2 t3)] w (vA w):=by
 obtain⟨aJ,aK,aM⟩:=dW w (Ob (ae kind pos n m name (J ko (O ks) kc)) 48) (Ob (eO lv ov gv B (O a) y t0 t1 t2 t3) 79);have K:OM w (ae kind pos n m name (J ko (O ks) kc)) (eO lv ov gv B (O a) y t0 t1 t2 t3) ((w.alloc (Ob (ae kind pos n m name (J ko (O ks) kc)) 48)).alloc (Ob (eO lv ov gv B (O a) y t0 t1 t2 t3) 79)):=⟨aJ,aK,aM⟩;have ah:Hid (∀x∈a,af S (Gd D) (H+1) w x/\∀f,6100*bW f w x<=17592186044416):=Y
 have Z:Hid (∀l,l<O a->∃g,B=some ⟨g,0,I⟩/\g<E (U w)/\∃c j q s o t u v,a[l]? =some (ak c j (J q s o) (J t u v)).toList/\∀k,k<4->w.cell? ⟨g,l*4+k,I⟩=(ak c j (J q s o) (J t u v))[k]?):=by
  intro l L;obtain⟨g,ai,z,hS,N,A⟩:=ag.nth (λx r=>af.four _ _ (Y x r).1) L;obtain⟨rfl,rfl⟩:B=some ⟨g,0,I⟩/\y=ai:=sU z;obtain⟨c,j,q,s,o,t,u,v,aO⟩:=af.cells _ (Y _ (List.getElem_mem L)).1;refine⟨g,Q,N,c,j,q,s,o,t,u,v,by rw[gG L,aO],λk aj=>?_⟩;rw[A k aj,aO];simp
 have bF:=M.len.2
 have aP:Hid (n>0->∃g P,ko=some ⟨g,0,I⟩/\g<E (U w)/\w.cell? ⟨g,15,I⟩=some (.string P)/\1<O ks/\0<O a):=by
  intro bc;obtain⟨bG,bH⟩:=aI bc;obtain⟨x,r⟩:∃x,ks[1]? =some x:=⟨_,gG oM⟩;obtain⟨aQ,bd⟩:=aH x (mG r);obtain⟨c,bI,j,bJ,P,bK,bL,bM,rfl,_⟩:=isNode.cells bd;obtain⟨g,k,z,N,bf⟩:=M.nth r;obtain⟨bN,bg⟩:=aG 1 oM;have bh:k=0:=by rw[bg] at z;simp at z;exact z.2.symm
  subst bh;exact⟨g,P,z,oM,bf 4 dC,oM,oM⟩
 have bO:(O a:Int)<=30000:=oM;clear M aG aH ag Y aI aJ aK aM bb;go_enter Tryz.func68,Tryz.ntmps68
 go_upto_region 1 with fail
 go_cut [36] (λbi aa=>∃b:Bool,bi=.bool b/\OM w (ae kind pos n m name (J ko (O ks) kc)) (eO lv ov gv B (O a) y t0 t1 t2 t3) aa/\(b=true->∃x,a[0]? =some x/\∃c j al ao,x=(ak c j al ao).toList/\(c=6\/c=7)))
 case first=>
  by_cases aR:n>0
  ·obtain⟨g,P,rfl,N,bP,bQ,ap⟩:=aP.out aR;have bR:(1:Int)<(O ks:Int):=oM;obtain⟨F,rfl,aT,c,j,q,s,o,t,u,v,r,A⟩:=Z.out 0 ap;have bS:w.cell? ⟨F,0,I⟩=some (vN c):=A 0 dC;have bj:(0:Int)<(O a:Int):=oM;have aU:Hid (a[0]? =some (ak c j (J q s o) (J t u v)).toList):=r;have bT:g<E (U w)+1:=oM;have bk:g<E (U w)+1+1:=oM;have bU:F<E (U w)+1:=oM;have bV:F<E (U w)+1+1:=oM;clear r A aP Z ah
   cases bX:(P.toList==[115,101,108,102])
   ·go_wp2_with fail;go_meet;exact⟨false,Q,K,λh=>by cases h⟩
   ·by_cases aV:c=6
    ·subst aV;go_wp2_with fail;go_meet;exact⟨true,Q,K,λ_=>⟨_,aU.out,_,_,_,_,Q,.inl Q⟩⟩
    ·by_cases aW:c=7
     ·subst aW;go_wp2_with fail;go_meet;exact⟨true,Q,K,λ_=>⟨_,aU.out,_,_,_,_,Q,.inr Q⟩⟩
     ·have bY:(c==6)=false:=sU aV;have bZ:(c==7)=false:=sU aW;go_wp2_with fail;go_meet;exact⟨false,Q,K,λh=>by cases h⟩
  ·have b0:decide (n>0)=false:=sU aR;go_wp2_with fail;go_meet;exact⟨false,Q,K,λh=>by cases h⟩
 case rest=>
  clear K;obtain⟨b,rfl,e,ar⟩:=hcut;have bl:=λk=>cell_of_row wc _ k _ 48 (0,0) e.nb;have bm:E (U w)<E (U wc):=(gE e.nb).1;have au:=λk=>cell_of_row wc _ k _ 79 (0,0) e.sb;have av:E (U w)+1<E (U wc):=(gE e.sb).1
  cases b
  ·clear ar;go_wp2_with fail;clear bl bm au av;go_loopg [5,7,9,47] (O a) (λaw ax _ _ ay wr=>∃(l:Nat) (one:Int),aw=O a - l/\ay=vN l/\ax=vN one/\l<=O a/\OM w (ae kind pos n m name (J ko (O ks) kc)) (eO lv ov gv B (O a) y t0 t1 t2 t3) wr)
   case atStart=>exact⟨0,0,Q,Q,Q,zL _,e⟩
   case round=>
    clear e;obtain⟨l,one,R,rfl,rfl,b1,e⟩:=hrel;have bn:Hid (gk=O a - l):=R;clear R;have au:=λk=>cell_of_row wr _ k _ 79 (0,0) e.sb;have av:E (U w)+1<E (U wr):=(gE e.sb).1;by_cases L:l<O a
    ·have aX:(l:Int)<(O a:Int):=oM;obtain⟨g,rfl,N,c,j,q,s,o,t,u,v,r,A⟩:=Z.out l L;have T:∀k,k<4->wr.cell? ⟨g,l*4+k,I⟩=(ak c j (J q s o) (J t u v))[k]? :=λk aj=>(e.below.cell (p:=⟨g,l*4+k,I⟩) N).trans (A k aj);have az:=T 0 dC;have bo:=T 1 dC;have aA:=T 2 dC;have bp:=T 3 dC;simp only[Nat.add_zero] at az;have bq:g<E (U wr):=oH e.below.size;have V:Below (E (U w)) w (wr.alloc (Ob (ak c j (J q s o) (J t u v)) 41)):=e.below.alloc e.below.size _;have ab:=ah.out _ (mG r);have aY:Hid (af S (Gd D) (H+1) (wr.alloc (Ob (ak c j (J q s o) (J t u v)) 41)) (ak c j (J q s o) (J t u v)).toList):=af.frame (aq.below V) V.size _ _ ab.1
     have aB:Hid (6100*bW (H+1) (wr.alloc (Ob (ak c j (J q s o) (J t u v)) 41)) (ak c j (J q s o) (J t u v)).toList<=17592186044416):=by
      show _<=_;rw[aL (aq.below V) V.size _ _ ab.1];exact ab.2 _
     have aZ:=e.step (al1 wr (Ob (ak c j (J q s o) (J t u v)) 41)).1;clear T A r ab V;go_wp2_with fail;refine(mI (λ_ _ _ _ aQ=>aQ.1) (H+1) aY.out aB.out).mono ?_;rintro z a0 ⟨aC,aD,d,rfl,aE,a1,a2⟩;have b2:O d<=17592186044416:=lT a1 aB.out;have a3:=aZ.step a2;obtain⟨W,a4⟩:∃W,W=E (U (wr.alloc (Ob (ak c j (J q s o) (J t u v)) 41))):=⟨_,Q⟩;rw[<-a4] at aE;have C:Hid (a0.ownsRow W 3 1 (J aC (O d) aD) (O d) (aN d)/\OM w (ae kind pos n m name (J ko (O ks) kc)) (eO lv ov gv (aS g) (O a) y t0 t1 t2 t3) a0):=⟨aE,a3⟩;clear aE a1 a4 au av az bo aA bp bq aY aB aZ a3 a2 e;go_wp2_with fail;go_loopg [5,9,54] (O d) (λaw ax _ ay aa=>∃(i:Nat) (one:Int),aw=O d - i/\ay=vN i/\ax=vN one/\i<=O d/\(aa.ownsRow W 3 1 (J aC (O d) aD) (O d) (aN d)/\OM w (ae kind pos n m name (J ko (O ks) kc)) (eO lv ov gv (aS g) (O a) y t0 t1 t2 t3) aa))
     case atStart=>exact⟨0,one,Q,Q,Q,zL _,C.out⟩
     case round=>
      clear C;obtain⟨i,one,R,rfl,rfl,ag,a5⟩:=hrel;have C:Hid ((wr.ownsRow W 3 1 (J aC (O d) aD) (O d) (aN d)/\OM w (ae kind pos n m name (J ko (O ks) kc)) (eO lv ov gv (aS g) (O a) y t0 t1 t2 t3) wr)):=a5;clear a5;have aF:Hid (gk=O d - i):=R;clear R;by_cases ac:i<O d
      ·have a6:(i:Int)<(O d:Int):=oM;obtain⟨x,r⟩:∃x,d[i]? =some x:=⟨_,gG ac⟩;obtain⟨b3,rfl,bk,b4,az⟩:=kU C.out.1 r;clear r;by_cases br:x>0
       ·by_cases bs:one>0
        ·by_cases a7:x=one
         ·subst a7;go_wp2_with fail;go_roundg (O d - (i+1))
          case measure=>rw[aF.out];omega
          case rel=>exact⟨i+1,_,Q,by go_num,Q,ac,C.out⟩
         ·have b5:(x !=one)=true:=sU a7;go_wp2_with fail;go_ret;exact⟨_,Q,C.out.2.below⟩
        ·have b6:decide (one>0)=false:=sU bs;go_wp2_with fail;go_roundg (O d - (i+1))
         case measure=>rw[aF.out];omega
         case rel=>exact⟨i+1,_,Q,by go_num,Q,ac,C.out⟩
       ·have b7:decide (x>0)=false:=sU br;go_wp2_with fail;go_roundg (O d - (i+1))
        case measure=>rw[aF.out];omega
        case rel=>exact⟨i+1,_,Q,by go_num,Q,ac,C.out⟩
      ·have a6:¬(i:Int)<(O d:Int):=oM;have b8:decide ((i:Int)<(O d:Int))=false:=sU a6;go_wp2_with fail;go_roundg (O a - (l+1))
       case measure=>rw[bn.out];omega
       case rel=>exact⟨l+1,one,Q,by go_num,Q,L,C.out.2⟩
    ·have aX:¬(l:Int)<(O a:Int):=oM;have b9:decide ((l:Int)<(O a:Int))=false:=sU aX;go_wp2_with fail;go_ret;exact⟨_,Q,e.below⟩
  ·obtain⟨x,r,c,j,al,ao,rfl,bt⟩:=ar Q;have ap:0<O a:=(gS r).1;obtain⟨F,rfl,aT,bu,bv,q,s,o,t,u,v,G,A⟩:=Z.out 0 ap
   obtain⟨rfl,rfl,rfl,rfl⟩:bu=c/\bv=j/\Value.slice q s o=al/\Value.slice t u v=ao:=by
    rw[r] at G;simp at G;exact⟨G.1.symm,G.2.1.symm,G.2.2.1.symm,G.2.2.2.symm⟩
   obtain⟨d,b',a8,bw,bx,bz,a9,bA⟩:=(ah.out _ (mG r)).1.parts;have bB:O d=1:=(a9.2.2.1 bt).1;obtain rfl:=a8.len;obtain⟨bC,ai,z,_,a'⟩:=a8;obtain⟨ad,aA,_,bD,ba⟩:=a' oM;obtain⟨rfl,-⟩:q=bC/\o=ai:=sU z;subst aA
   obtain⟨X,M⟩:∃X,d=[X]:=by
    match d,bB with
    |[X],_=>exact⟨X,Q⟩
   subst M;have ca:wc.cell? ⟨ad,0,I⟩=some (vN X):=(e.below.cell (p:=⟨ad,0,I⟩) bD).trans (ba 0 sQ);have cb:wc.cell? ⟨F,2,I⟩=some (J (aS ad) 1 o):=(e.below.cell (p:=⟨F,2,I⟩) aT).trans (A 2 dC);have bj:(0:Int)<(O a:Int):=oM;have cc:ad<E (U wc):=oH e.below.size;have cd:F<E (U wc):=oH e.below.size;clear ba A r G bw bx bz a9 bA a' z ar;go_wp2_with fail;go_ret;exact⟨_,Q,e.below⟩
end
section
variable{p:Addr} {M:MK} {ad mb:Nat} {w w':World}
structure KX (X:Nat->Prop) (B:Nat) (w w':World):Prop where
 os:w'.os=w.os
 tape:w'.tape=w.tape
 output:w'.output=w.output
 size:E (U w)<=E (U w')
 block:∀k,k<B->¬X k->w'.heap[k]? =w.heap[k]?
section
variable{X X':Nat->Prop} {B B':Nat} {a w w':World}
theorem KX.refl (X:Nat->Prop) (B:Nat) (w:World):KX X B w w:=⟨Q,Q,Q,lR _,λ_ _ _=>rfl⟩
theorem KX.trans (h:KX X B a w) (k:KX X B w w'):KX X B a w':=⟨k.os.trans h.os,k.tape.trans h.tape,k.output.trans h.output,lT h.size k.size,λb c d=>(k.block b c d).trans (h.block b c d)⟩
theorem KX.mono (h:KX X B w w') (c:∀k,k<B'->X k->X' k) (d:B'<=B):KX X' B' w w':=⟨h.os,h.tape,h.output,h.size,λk b e=>h.block k (Nat.lt_of_lt_of_le b d) (λf=>e (c k b f))⟩
theorem KX.al (h:Below B w w'):KX X B w w':=⟨h.os,h.tape,h.output,h.size,λk b _=>h.block k b⟩
theorem KX.cI {rb:Nat} (h:Kp B rb w w') (b:X rb):KX X B w w':=⟨h.os,h.tape,h.output,h.size,λk c d=>h.block k c (λe=>d (e▸b))⟩
theorem KX.drew (h:KX X B a w):KX X B a w.drew:=⟨h.os,h.tape,h.output,h.size,h.block⟩
theorem KX.setCell (h:KX X B a w) (b:B<=p.block\/X p.block) (u:Value):KX X B a (w.setCell p u):=
 ⟨h.os,h.tape,h.output,sU h.size,λk d c=>(Below.heap_setCell _ _ _ _ (λe=>by rcases b with b|b;omega;exact c (e▸b))).trans (h.block k d c)⟩
theorem KX.grown {c:Option Nat} (h:KX X B a w) (b:w.grownBy w' c) (l:B<=E (U w)) (f:∀k,c=some k->B<=k\/X k):KX X B a w':=
 ⟨b.os.trans h.os,b.tape.trans h.tape,b.output.trans h.output,lT h.size b.size,λk i d=>(b.block k oM (λj=>by rcases f k j.symm with e|e;omega;exact d e)).trans (h.block k i d)⟩
theorem KX.cell (h:KX X B w w') (b:p.block<B) (c:¬X p.block):w'.cell? p=w.cell? p:=World.cell?_of_block (w:=w) (h.block p.block b c)
end
theorem cz.below (h:cz w mb M) (b:Below (E (U w)) w w'):cz w' mb M:=(b.block _ h.lt).trans h
abbrev CK.nm (K:CK) (aD:OA) (cJ:Nat) (ba:List ByteArray) (bZ:OA) (tcp:Nat) (bt:List ByteArray):CK:={K with aD:=aD,cJ:=cJ,ba:=ba,bZ:=bZ,tcp:=tcp,bt:=bt}
structure oy (w:World) (mb cb:Nat) (M:MK) (K:CK) (how next one fk fa:Int) (nd:Array Value) (wr:World) (aD:OA) (cJ:Nat) (ba:List ByteArray) (bZ:OA) (tcp:Nat) (bt:List ByteArray) (k a:Int):Prop where
 kx:KX (λb=>b=cb\/b=mb) (E (U w)) w wr
 c:bJ wr cb (K.nm aD cJ ba bZ tcp bt) how next one fk fa
 m:cz wr mb (M.bu k a)
 eN:cb<E (U w)
 gM:mb<E (U w)
 ne:mb≠cb
 nb:wr.heap[E (U w)]? =some (Ob nd 48 (0,0))
 lv:wr.ownsRow (E (U w)+1) 9 1 (J aD (O ba) cJ) (O ba) (bX ba)
 tv:wr.ownsRow (E (U w)+1) 9 1 (J bZ (O bt) tcp) (O bt) (bX bt)
 sep:∀b,(Value.slice aD (O ba) cJ).ownBlock=some b->(Value.slice bZ (O bt) tcp).ownBlock≠some b
 hf:M.fk≠0->k=M.fk
section
variable{w wr w':World} {mb cb:Nat} {M:MK} {K:CK} {how next one fk fa:Int} {nd:Array Value} {aD:OA} {cJ:Nat} {ba:List ByteArray} {bZ:OA} {tcp:Nat} {bt:List ByteArray} {k a k' a':Int}
theorem oy.ln (q:oy w mb cb M K how next one fk fa nd wr aD cJ ba bZ tcp bt k a):E (U w)<E (U wr):=(gE q.nb).1
theorem oy.step (q:oy w mb cb M K how next one fk fa nd wr aD cJ ba bZ tcp bt k a) (b:Kp (E (U wr)) mb wr w') (i:cz w' mb (M.bu k' a')) (j:M.fk≠0->k'=M.fk):oy w mb cb M K how next one fk fa nd w' aD cJ ba bZ tcp bt k' a':=by
 have o:=q.ln;have l:=q.gM;have m:=q.eN;have f:=q.ne;refine⟨q.kx.trans ((KX.cI b (.inr Q)).mono (λ_ _ h=>h) oM),(b.block _ oM (λn=>f n.symm)).trans q.c,i,m,l,f,(b.block _ oM oM).trans q.nb,ah q.lv (λc d e=>b.block c e (oH (q.lv.lt c d).1)),ah q.tv (λc d e=>b.block c e (oH (q.tv.lt c d).1)),q.sep,j⟩
theorem oy.below (q:oy w mb cb M K how next one fk fa nd wr aD cJ ba bZ tcp bt k a) (b:Below (E (U wr)) wr w'):oy w mb cb M K how next one fk fa nd w' aD cJ ba bZ tcp bt k a:=q.step (Kp.al b) (q.m.below b) q.hf
theorem pT (x:ByteArray):∀b∈(#[Value.string x]:Array Value).toList,b.oneCell'=true:=by
 intro b c;obtain rfl:b=.string x:=sU c;rfl
theorem oy.ub (q:oy w mb cb M K how next one fk fa nd wr aD cJ ba bZ tcp bt k a) (x:ByteArray) (hl:O ba<=30000) (s:TypeId) (A:ad=E (U wr)):
 ∃n w',(Builtin.append_ #[105,105] s #[J aD (O ba) cJ,J (aS ad) 1 1]).run Tryz.prog (wr.alloc (Ob #[.string x] 9))=.ok n w'/\∃f i,n=J f (O ba+1) i/\bJ w' cb (K.nm aD cJ ba bZ tcp bt) how next one fk fa/\oy w mb cb M K how next one fk fa nd (w'.setCell ⟨cb,2,I⟩ (J f (O ba+1) i)) f i (ba++[x]) bZ tcp bt k a:=by
 have C:=q.ln;have D:=q.gM;have F:=q.eN;have t:=q.ne;obtain⟨n,w',G,e⟩:=fj (W:=wr) Tryz.underlying105 tL Q dC q.lv oM #[.string x] rfl (pT x) (by unfold maxLen;omega) oM s A;obtain⟨f,i,rfl⟩:=e.shape;have j:∀b,b<E (U wr)->(Value.slice aD (O ba) cJ).ownBlock≠some b->w'.heap[b]? =wr.heap[b]? :=λb c o=>(e.grown.block b (by simp;omega) (λd=>o d.symm)).trans (Below.heap_alloc _ _ _ c);have m:∀b,b<=E (U w)->(Value.slice aD (O ba) cJ).ownBlock≠some b:=λb c d=>oH (q.lv.lt b d).1;have u:bJ w' cb (K.nm aD cJ ba bZ tcp bt) how next one fk fa:=(j cb oM (m _ oM)).trans q.c;have l:∀b,b≠cb->(w'.setCell ⟨cb,2,I⟩ (J f (O ba+1) i)).heap[b]? =w'.heap[b]? :=λb c=>Below.heap_setCell _ ⟨cb,2,I⟩ _ _ c;have H:E (U wr)<=E (U w'):=lT sQ e.grown.size;have v:=e.row;have y:w'.ownsRow (E (U w)+1) 9 1 (J bZ (O bt) tcp) (O bt) (bX bt):=ah q.tv (λb c hl=>j b hl (λd=>q.sep b d c));have r:O (ba++[x])=O ba+1:=sQ;have L:bX (ba++[x])=bX ba++[.string x]:=by simp[bX]
 refine⟨_,w',G,f,i,Q,u,⟨?_,?_,(l _ t).trans ((j _ oM (m _ oM)).trans q.m),F,D,t,(l _ oM).trans ((j _ C (m _ oM)).trans q.nb),?_,?_,?_,q.hf⟩⟩
 ·refine q.kx.trans ⟨e.grown.os,e.grown.tape,e.grown.output,sU H,λb c o=>(l b (λd=>o (.inl d))).trans (j b oM (m _ oM))⟩
 ·have:=u.set 2 (J f (O ba+1) i);unfold bJ dy;dsimp only
  rw[r];simpa using this
 ·rw[L,r];exact ah v (λb c _=>l b (λd=>oH (v.lt b c).1))
 ·exact ah y (λb c _=>l b (λd=>oH (y.lt b c).1))
 ·intro b c z;rw[r] at c;have N:=(q.tv.lt b z).2;rcases e.own with d|d
  ·exact q.sep b (by rw[<-d];exact c) z
  ·rw[d] at c;simp at c;omega
theorem oy.og (q:oy w mb cb M K how next one fk fa nd wr aD cJ ba bZ tcp bt k a) (x:ByteArray) (hl:O bt<=30000) (t:TypeId) (A:ad=E (U wr)):
 ∃o w',(Builtin.append_ #[105,105] t #[J bZ (O bt) tcp,J (aS ad) 1 1]).run Tryz.prog (wr.alloc (Ob #[.string x] 9))=.ok o w'/\∃f i,o=J f (O bt+1) i/\bJ w' cb (K.nm aD cJ ba bZ tcp bt) how next one fk fa/\oy w mb cb M K how next one fk fa nd (w'.setCell ⟨cb,3,I⟩ (J f (O bt+1) i)) aD cJ ba f i (bt++[x]) k a:=by
 have C:=q.ln;have D:=q.gM;have F:=q.eN;have u:=q.ne;obtain⟨o,w',G,e⟩:=fj (W:=wr) Tryz.underlying105 tL Q dC q.tv oM #[.string x] rfl (pT x) (by unfold maxLen;omega) oM t A;obtain⟨f,i,rfl⟩:=e.shape;have j:∀b,b<E (U wr)->(Value.slice bZ (O bt) tcp).ownBlock≠some b->w'.heap[b]? =wr.heap[b]? :=λb c r=>(e.grown.block b (by simp;omega) (λd=>r d.symm)).trans (Below.heap_alloc _ _ _ c);have m:∀b,b<=E (U w)->(Value.slice bZ (O bt) tcp).ownBlock≠some b:=λb c d=>oH (q.tv.lt b d).1;have v:bJ w' cb (K.nm aD cJ ba bZ tcp bt) how next one fk fa:=(j cb oM (m _ oM)).trans q.c;have l:∀b,b≠cb->(w'.setCell ⟨cb,3,I⟩ (J f (O bt+1) i)).heap[b]? =w'.heap[b]? :=λb c=>Below.heap_setCell _ ⟨cb,3,I⟩ _ _ c;have H:E (U wr)<=E (U w'):=lT sQ e.grown.size;have y:=e.row;have z:w'.ownsRow (E (U w)+1) 9 1 (J aD (O ba) cJ) (O ba) (bX ba):=ah q.lv (λb c hl=>j b hl (λd=>q.sep b c d));have s:O (bt++[x])=O bt+1:=sQ;have L:bX (bt++[x])=bX bt++[.string x]:=by simp[bX]
 refine⟨_,w',G,f,i,Q,v,⟨?_,?_,(l _ u).trans ((j _ oM (m _ oM)).trans q.m),F,D,u,(l _ oM).trans ((j _ C (m _ oM)).trans q.nb),?_,?_,?_,q.hf⟩⟩
 ·refine q.kx.trans ⟨e.grown.os,e.grown.tape,e.grown.output,sU H,λb c r=>(l b (λd=>r (.inl d))).trans (j b oM (m _ oM))⟩
 ·have:=v.set 3 (J f (O bt+1) i);unfold bJ dy;dsimp only
  rw[s];simpa using this
 ·exact ah z (λb c _=>l b (λd=>oH (z.lt b c).1))
 ·rw[L,s];exact ah y (λb c _=>l b (λd=>oH (y.lt b c).1))
 ·intro b c n;rw[s] at n;have N:=(q.lv.lt b c).2;rcases e.own with d|d
  ·exact q.sep b c (by rw[<-d];exact n)
  ·rw[d] at n;simp at n;omega
end
def wS (w:World) (mb cb:Nat) (M:MK) (K:CK) (how one fk fa:Int) (N:Nat) (e:Ending) (w':World):Prop:=
 ∃(aD:OA) (cJ:Nat) (ba:List ByteArray) (bZ:OA) (tcp:Nat) (bt:List ByteArray) (k a:Int),e=.returned (.tuple #[])/\O ba+O bt=N/\bJ w' cb (K.nm aD cJ ba bZ tcp bt) how (O ba) one fk fa/\cz w' mb (M.bu k a)/\KX (λb=>b=cb\/b=mb) (E (U w)) w w'/\w'.ownsRow (E (U w)) 9 1 (J aD (O ba) cJ) (O ba) (bX ba)/\w'.ownsRow (E (U w)) 9 1 (J bZ (O bt) tcp) (O bt) (bX bt)/\(∀b,(Value.slice aD (O ba) cJ).ownBlock=some b->(Value.slice bZ (O bt) tcp).ownBlock≠some b)/\(M.fk≠0->k=M.fk)
end
end Go.Proofs.YtdghkacbpebcoaaGreat
