import Derived.Test.YtdghkacbpebcoaaGreatS24
import Derived.Test.YtdghkacbpebcoaaGreatS25
namespace Go.Proofs.YtdghkacbpebcoaaGreat
open Go.RowKit
open Value renaming slice→J
open List renaming length→O
open Option renaming none→I
open World renaming heap→U
open _root_.Array renaming size→E
open Obj renaming cells→Ob
set_option linter.all false
set_option maxRecDepth 100000
set_option maxHeartbeats 0
section
variable{g:Prop}
theorem isNode.er {S:Nat->Prop} {h:Nat} {w:World} {kind pos n m:Int} {name:ByteArray} {ko:Option Addr} {kl kc:Nat} (r:isNode S g (h+1) w (ae kind pos n m name (J ko kl kc)).toList):(0<=pos/\pos<=7000)/\kl<=20000/\∀a,a<kl->∃d,ko=some ⟨d,0,I⟩/\S d/\d<E (U w)/\∃kind pos n m name ko kl kc,isNode S g h w (ae kind pos n m name (J ko kl kc)).toList/\∀e,e<11->w.cell? ⟨d,a*11+e,I⟩=(ae kind pos n m name (J ko kl kc))[e]? :=by
 obtain⟨V,s,W,X,Y,t,b,i,Z,u,aa,l,v,o,ab⟩:=r;simp only[Array.toList_inj] at i;have x:pos=s/\Value.slice ko kl kc=t:=by simp at i;exact⟨i.2.1,i.2.2.2.2.2⟩
 obtain⟨rfl,rfl⟩:=x
 have ac:kl=O b:=by
  rcases l.2 with⟨c,A⟩|⟨f,y,z,c,_⟩
  ·simp at c;omega
  ·simp at c;omega
 refine⟨u,oM,λa ad=>?_⟩;have p:a<O b:=oM;have j:b[a]? =some b[a]:=gG p;have B:b[a]∈b:=List.getElem_mem p;have k:=o _ B;have C:∀f∈b,O f=11:=λf j=>(isNode.pe _ _ (o f j)).1;rcases l.2 with⟨c,A⟩|⟨d,cap,cur,c,hb,hg,hnc,hcm,hcs,htake⟩
 ·omega
 ·obtain⟨rfl,-,rfl⟩:ko=some ⟨d,0,I⟩/\kl=O b/\kc=cap:=sU c;refine⟨d,Q,v d Q,(gE hg).1,?_⟩
  cases h with
  |zero=>exact absurd k (λf=>f)
  |succ h=>
   have D:=k;obtain⟨kind,pos,n,m,name,F,af,q,ag,ah,ai,G,aj,ak,al⟩:=k
   have H:∃ko kl kc,F=J ko kl kc:=by
    rcases G.2 with⟨c,_⟩|⟨f,y,z,c,_⟩
    ·exact⟨_,_,_,c⟩
    ·exact⟨_,_,_,c⟩
   obtain⟨K,L,M,rfl⟩:=H;refine⟨kind,pos,n,m,name,K,L,M,q▸D,λe N=>?_⟩;have P:=kV C j e N;have R:a*11+e<O b*11:=oM;rw[cell_of_row w d (a*11+e) cur 48 (0,0) hg];have T:(cur.toList.take (O b*11))[a*11+e]? =cur[a*11+e]? :=by rw[List.getElem?_take,if_pos R];simp
   rw[<-T,htake,P,q];simp
def oz (w:World) (e:Ending) (w':World):Prop:=∃r:Int,e=.returned (.int .i64 r)/\(-1<=r/\r<=7000)/\Below (E (U w)) w w'
theorem tX:(h:Nat)->∀{o:Nat->Prop} {w:World} {i pos j k:Int} {l:ByteArray} {d:Option Addr} {a m:Nat},isNode o g h w (ae i pos j k l (J d a m)).toList->∀e:Int,0<=e->e<=100->Calls Tryz.prog 19 #[.agg (ae i pos j k l (J d a m)),.int .i64 e] w (oz w)
 |0,_,_,_,_,_,_,_,_,_,_,hn=>absurd hn (λL=>L)
 |h+1,o,w,i,pos,j,k,l,d,a,m,hn=>by
  intro e ag ah;obtain⟨ai,aj,C⟩:=hn.er;have M:Hid (∀{o:Nat->Prop} {w:World} {i pos j k:Int} {l:ByteArray} {d:Option Addr} {a m:Nat},isNode o g h w (ae i pos j k l (J d a m)).toList->∀e:Int,0<=e->e<=100->Calls Tryz.prog 19 #[.agg (ae i pos j k l (J d a m)),.int .i64 e] w (oz w)):=tX h;have N:Hid (∀b,b<a->∃n,d=some ⟨n,0,I⟩/\o n/\n<E (U w)/\∃i pos j k l d a m,isNode o g h w (ae i pos j k l (J d a m)).toList/\∀f,f<11->w.cell? ⟨n,b*11+f,I⟩=(ae i pos j k l (J d a m))[f]?):=C;clear C hn;by_cases P:80<e
  ·go_enter Tryz.func19,Tryz.ntmps19
   go_wp2_with fail;go_ret;exact⟨pos,Q,oM,(Below.refl _ _).alloc (lR _) _⟩
  ·have ak:decide (80<e)=false:=sU P;go_enter Tryz.func19,Tryz.ntmps19
   go_wp2_with fail;go_loopg [6,7,15] a (λR _ _ S wr=>∃b:Nat,R=a - b/\S=.int .i64 b/\b<=a/\Below (E (U w)) w wr)
   case atStart=>exact⟨0,Q,Q,zL _,(Below.refl _ _).alloc (lR _) _⟩
   case round=>
    obtain⟨b,D,rfl,al,q⟩:=hrel;have T:Hid (gk=a - b):=D;clear D;by_cases F:b<a
    ·obtain⟨n,rfl,hS,V,s,t,u,v,x,y,z,A,W,G⟩:=N.out b F;have H:(b:Int)<(a:Int):=oM;have ao:=q.size;have ap:n<E (U wr):=oM;have c:∀f,f<11->wr.cell? ⟨n,b*11+f,I⟩=(ae s t u v x (J y z A))[f]? :=λf X=>(q.cell (p:=⟨n,b*11+f,I⟩) V).trans (G f X);clear G;have Y:=c 0 dC;have ar:=c 1 dC;have au:=c 2 dC;have av:=c 3 dC;have aw:=c 4 dC;have ax:=c 5 dC;have ay:=c 6 dC;have az:=c 7 dC;have aA:=c 8 dC;have aB:=c 9 dC;have aC:=c 10 dC;clear c;simp only[Nat.add_zero] at Y;have Z:isNode (λr=>o r/\r<E (U w)) g h (wr.alloc (Ob (ae s t u v x (J y z A)) 48)) (ae s t u v x (J y z A)).toList:=isNode.frame (aq.alloc _ _ _) _ _ (isNode.frame (λr aa _=>q.block r aa.2) _ _ (isNode.low _ _ W));go_wp2_with fail;refine(M.out Z _ oM oM).mono ?_;rintro aD ab ⟨B,rfl,ac,ad⟩;have K:Below (E (U w)) w ab:=(q.alloc q.size _).trans (ad.mono (by simp;omega));by_cases af:0<=B
     ·go_wp2_with fail;go_ret;exact⟨B,Q,ac,K⟩
     ·have aE:decide (0<=B)=false:=sU af;go_wp2_with fail;go_roundg (a - (b+1))
      case measure=>rw[T.out];omega
      case rel=>exact⟨b+1,Q,by go_num,F,K⟩
    ·have H:¬(b:Int)<(a:Int):=oM;have aF:decide ((b:Int)<(a:Int))=false:=sU H;go_wp2_with fail;go_ret;exact⟨-1,Q,oM,q⟩
end
section
variable{s:ByteArray} {i:Nat}
structure gN where
 kind:Nat
 pos:Nat
 text:ByteArray
 num:Nat
def gN.cells (r:gN):List Value:=eV r.kind r.pos r.text r.num
structure gN.ok (r:gN):Prop where
 name:r.kind=2->hJ r.text
 aQ:r.pos<=6000
 pJ:r.text.size<=6000
 xB:r.num<=9223372036854775807
theorem nW (x:ByteArray):O x.data.toList=x.size:=by rw[Array.length_toList];rfl
theorem uX (c:i<s.size) (hl:eE (cR s i)=true):hJ (s.extract i (aC bI s i)):=by
 have f:bI (cR s i)=true:=by simp[bI,hl]
 have l:=eP c f;have m:=eh bI s i (Nat.le_of_lt c);have n:(s.extract i (aC bI s i)).size=aC bI s i - i:=by simp;omega
 refine⟨λb=>?_,λd=>?_⟩
 ·have:O (s.extract i (aC bI s i)).toList=0:=by rw[b];rfl
  rw[Lib.toList_data,nW] at this;omega
 ·rw[Lib.toList_data] at d;obtain⟨a,o,b⟩:=List.getElem_of_mem d
  have p:a<aC bI s i - i:=by
   have q:=nW (s.extract i (aC bI s i));omega
  have j:(s.extract i (aC bI s i))[a]'oM=s[i+a]'oM:=by
   rw[ByteArray.getElem_extract]
  have k:s[i+a]'oM=58:=by rw[<-j];exact b
  have e:=oT bI s i (i+a) oM oM;rw[dw oM,k] at e;exact absurd e dC
theorem sS (n:s.size<=6000) (j:i<s.size) (m:(one s i).err=0):gN.ok ⟨(one s i).kind,i,cO s i (one s i),(one s i).n⟩:=by
 have o:=kM j m;refine⟨λa=>?_,by show i<=6000;omega,?_,?_⟩
 ·have a:(one s i).kind=2:=a;show hJ (cO s i (one s i));by_cases f:eE (cR s i)=true
  ·have b:=kN f;unfold cO;rw[if_neg oM];rw[b] at a⊢;by_cases k:isWord (s.extract i (aC bI s i)).toList=true
   ·rw[if_pos k] at a;exact absurd a (λb=>by simp at b)
   ·rw[if_neg k] at a⊢;by_cases l:20<aC bI s i - i
    ·rw[if_pos l] at a;exact absurd a (λb=>by simp at b)
    ·rw[if_neg l];exact uX j f
  ·exfalso
   unfold one at a;simp only[f] at a;by_cases d:cr (cR s i)=true
   ·rw[if_pos d] at a;by_cases c:cC s i (aC cr s i - i)<=9223372036854775807
    ·rw[if_pos c] at a;exact absurd a (λb=>by simp at b)
    ·rw[if_neg c] at a;exact absurd a (λb=>by simp at b)
   ·rw[if_neg d] at a;rw[if_neg dC] at a;by_cases c:(cR s i==39&&eE (cR s (i+1)))=true
    ·rw[if_pos c] at a;by_cases e:21<aC bI s (i+1) - i
     ·rw[if_pos e] at a;exact absurd a (λb=>by simp at b)
     ·rw[if_neg e] at a;exact absurd a (λb=>by simp at b)
    ·rw[if_neg c] at a;by_cases e:aR s i=0
     ·rw[if_pos e] at a;exact absurd a (λb=>by simp at b)
     ·rw[if_neg e] at a;exact absurd a (λb=>by simp at b)
 ·show(cO s i (one s i)).size<=6000;unfold cO;split
  ·decide
  ·simp;omega
 ·show(one s i).n<=9223372036854775807;unfold one;by_cases d:cr (cR s i)=true
  ·rw[if_pos d];by_cases c:cC s i (aC cr s i - i)<=9223372036854775807
   ·rw[if_pos c];exact c
   ·rw[if_neg c];exact zL _
  ·rw[if_neg d];split
   ·split
    ·exact zL _
    ·split<;>exact zL _
   ·split
    ·split<;>exact zL _
    ·split<;>exact zL _
theorem tE (t:s.size<=6000):∀(j i:Nat) (a:List gN) (b:List (List Value)),i<=s.size->O a<=i->(∀d∈a,d.ok)->lexFrom j s i (a.map gN.cells)=.inr b->
 ∃l:List gN,b=(l++[(⟨0,s.size,⟨#[]⟩,0⟩:gN)]).map gN.cells/\O l<=6000/\∀d∈l,d.ok:=by
 intro j;induction j with
 |zero=>
  intro i a b q u e h;have v:Sum.inr (a.map gN.cells++[eV 0 s.size ⟨#[]⟩ 0])=(Sum.inr b:pF):=h;refine⟨a,?_,oM,e⟩;have:=Sum.inr.inj v;rw[<-this];simp[gN.cells]
 |succ j m=>
  intro i a b q u e h;by_cases c:i<s.size
  ·cases n:fH (cR s i)
   ·by_cases o:cR s i=35
    ·rw[j2 c o] at h;have p:=eh iG s i q;have r:=jv iG s i;exact m _ a b p oM e h
    ·by_cases k:(one s i).err=0
     ·rw[mJ c n o k] at h;have p:=kM c k;have r:=sS t c k;refine m (one s i).stop (a++[⟨(one s i).kind,i,cO s i (one s i),(one s i).n⟩]) b p.2 (by simp;omega) ?_ (by simpa[gN.cells,fY] using h);intro d f;rcases List.mem_append.1 f with f|f
      ·exact e d f
      ·obtain rfl:d=_:=sU f;exact r
     ·rw[mL c n o k] at h;exact absurd h sQ
   ·rw[gh c n] at h;exact m _ a b oM oM e h
  ·rw[mK c] at h;refine⟨a,?_,oM,e⟩;have:=Sum.inr.inj h;rw[<-this];simp[gN.cells]
theorem lZ {us:List (List Value)} (b:∀x∈us,O x=4):∀{idx:Nat} {x:List Value},us[idx]? =some x->∀a,a<4->us.flatten[idx*4+a]? =x[a]? :=by
 induction us with
 |nil=>intro idx x h;simp at h
 |cons c l d=>
  intro idx x h a e;have f:=b c (List.mem_cons_self ..);rw[List.flatten_cons]
  cases idx with
  |zero=>
   obtain rfl:c=x:=sU h;rw[List.getElem?_append_left oM];congr 1
   omega
  |succ idx=>
   rw[List.getElem?_append_right oM,f];have:=d (λj k=>b j (List.mem_cons_of_mem _ k)) (idx:=idx) (x:=x) (sU h) a e;rw[<-this];congr 1
   omega
def oN:gN:=⟨0,0,⟨#[]⟩,0⟩
def yK (rs:List gN):Tk:=⟨O rs,λj=>((rs[j]?).getD oN).kind,λj=>((rs[j]?).getD oN).pos,λj=>((rs[j]?).getD oN).text,λj=>((rs[j]?).getD oN).num⟩
theorem oL {w':World} {base:Nat} {v:Value} {d:List (List Value)} (t:s.size<=6000) (hl:eD s=.inr d) (z:w'.ownsRow base 86 4 v (O d) d.flatten):
 ∃(r:Tk) (f l:Nat),v=J (some ⟨f,0,I⟩) r.len l/\base<=f/\r.Good/\Row w' f r:=by
 have A:lexFrom s.size s 0 ([].map gN.cells)=.inr d:=by
  unfold eD at hl;rw[if_neg oM] at hl;exact hl
 obtain⟨u,m,M,B⟩:=tE t s.size 0 [] d (zL _) (zL _) (λj k=>by cases k) A;obtain⟨b,n⟩:∃b,b=u++[(⟨0,s.size,⟨#[]⟩,0⟩:gN)]:=⟨_,Q⟩;rw[<-n] at m
 have C:∀j∈b,j.ok:=by
  intro j k;rw[n] at k;rcases List.mem_append.1 k with k|k
  ·exact B j k
  ·obtain rfl:j=_:=sU k;exact⟨λh=>absurd h (show ¬(0:Nat)=2 by decide),t,show(⟨#[]⟩:ByteArray).size<=6000 by decide,zL _⟩
 have o:∀a:Nat,((b[a]?).getD oN).ok:=by
  intro a
  cases h:b[a]? with
  |none=>exact⟨λh=>absurd h dC,dC,dC,dC⟩
  |some j=>exact C j (mG h)
 have N:O b=O u+1:=by rw[n];simp
 have D:O d=O b:=by rw[m];simp
 rcases z.2 with⟨_,P⟩|⟨f,l,cur,h1,hb,hg,hnc,hcm,hcs,htake⟩
 ·omega
 ·refine⟨yK b,f,l,?_,hb,⟨λa c=>(o a).name c,by show 0<O b;omega,by show O b<=6001;omega,?_,λa=>(o a).aQ,λa=>(o a).pJ,λa=>(o a).xB⟩,?_⟩
  ·show v=J (some ⟨f,0,I⟩) (O b) l;rw[h1,D]
  ·show((b[O b - 1]?).getD oN).kind=0;have:b[O b - 1]? =some ⟨0,s.size,⟨#[]⟩,0⟩:=by rw[n];simp
   rw[this];rfl
  ·have F:∀x∈d,O x=4:=by
    intro x p;rw[m] at p;obtain⟨j,_,rfl⟩:=List.mem_map.1 p;rfl
   have q:∀a:Nat,a<O b->∀e:Nat,e<4->w'.cell? ⟨f,a*4+e,I⟩=((b[a]?).getD oN).cells[e]? :=by
    intro a c e G;have y:b[a]? =some b[a]:=gG c;have p:d[a]? =some b[a].cells:=by rw[m,List.getElem?_map,y];rfl
    have H:=lZ F p e G;have K:a*4+e<O d*4:=oM;rw[cell_of_row w' f (a*4+e) cur 86 (0,0) hg];have L:(cur.toList.take (O d*4))[a*4+e]? =cur[a*4+e]? :=by rw[List.getElem?_take,if_pos K];simp
    rw[<-L,htake,H,y];rfl
   exact⟨(gE hg).1,λa c=>q a c 0 dC,λa c=>q a c 1 dC,λa c=>q a c 2 dC,λa c=>q a c 3 dC⟩
end
section
variable{a k:Int} {b cap i rb tb:Nat} {t:Tk} {W w w0:World}
def ir (w0:World) (e:Ending) (w':World):Prop:=
 ∃(kind pos n m:Int) (name:ByteArray) (ko:Option Addr) (kl kc:Nat) (k a:Int),e=.returned (.tuple #[.agg (ae kind pos n m name (J ko kl kc)),.agg #[.int .i64 k,.int .i64 a]])/\Below (E (U w0)) w0 w'/\(k=0->kind=0/\bf (E (U w0)) True w' (ae kind pos n m name (J ko kl kc)).toList/\∀f,aG f w' (ae kind pos n m name (J ko kl kc)).toList<=96100)
structure PF (w0 w:World) (rb tb cap:Nat) (t:Tk):Prop where
 rd:Rd w rb tb cap t 0 0 0
 z1:ck w (E (U w0)) aB
 z2:w.heap[E (U w0)+1]? =some (Ob #[.int .i64 0,.int .i64 0] 32 (0,0))
 below:Below (E (U w0)) w0 w
 lt:E (U w0)+1<rb
section
variable{w0 w W:World} {rb tb cap j:Nat} {t:Tk} {kj aj:Int}
theorem PF.dA (c:PF w0 w rb tb cap t) (d:St w rb tb cap t W j kj aj):ck W (E (U w0)) aB/\W.heap[E (U w0)+1]? =some (Ob #[.int .i64 0,.int .i64 0] 32 (0,0))/\E (U w0)≠rb/\E (U w0)+1≠rb/\E (U w0)≠E (U w0)+1:=by
 have e:=c.lt;have f:=d.lb;exact⟨c.z1.kp d.kp oM,(d.kp.block _ oM oM).trans c.z2,oM,oM,oM⟩
theorem PF.down (e:PF w0 w rb tb cap t) (c:St w rb tb cap t W j kj aj):Below (E (U w0)) w0 W:=by
 have l:=e.lt;have m:=c.lb;have d:=e.below;exact⟨c.kp.os.trans d.os,c.kp.tape.trans d.tape,c.kp.output.trans d.output,lT d.size c.kp.size,λk f=>(c.kp.block k (oH d.size) oM).trans (d.block k f)⟩
end
theorem nD {c:Array Value} {f d:Nat} (s:c.getD 2 undef=.pointer (some ⟨f,0,I⟩)) (u:c.getD 3 undef=.pointer (some ⟨d,0,I⟩)) {c0 c1 c2 c3 l m n o p q r:Value} (v:ck W f #[c0,c1,c2,c3,l,m,n,o,p,q,r]) (x:W.heap[d]? =some (Ob #[.int .i64 k,.int .i64 a] 32 (0,0))):
 (results Tryz.f10 c).run Tryz.prog W=.ok (.tuple #[.agg #[c0,c1,c2,c3,l,m,n,o,p,q,r],.agg #[.int .i64 k,.int .i64 a]]) W:=by
 have y:=v.cell;have z:∀e,W.cell? ⟨d,e,I⟩=(#[.int .i64 k,.int .i64 a]:Array Value)[e]? :=λe=>cell_of_row _ _ e _ 32 (0,0) x;have A:c[2]?.getD undef=.pointer (some ⟨f,0,I⟩):=sU s;have B:c[3]?.getD undef=.pointer (some ⟨d,0,I⟩):=sU u;simp[results,Tryz.results10,A,B,go_sem,y,z]
theorem jx {d:Act} {c:World} (e:d.defers=[]) (l:d.tmps.getD 2 undef=.pointer (some ⟨E (U w0),0,I⟩)) (o:d.tmps.getD 3 undef=.pointer (some ⟨E (U w0)+1,0,I⟩)) {kind pos n m:Int} {name:ByteArray} {ko:Option Addr} {kl kc:Nat}
 (p:ck c (E (U w0)) (ae kind pos n m name (J ko kl kc))) (q:c.heap[E (U w0)+1]? =some (Ob #[.int .i64 k,.int .i64 a] 32 (0,0))) (r:Below (E (U w0)) w0 c) (s:k=0->kind=0/\bf (E (U w0)) True c (ae kind pos n m name (J ko kl kc)).toList/\∀f,aG f c (ae kind pos n m name (J ko kl kc)).toList<=96100):
  bodyPost Tryz.prog Tryz.f10 (ir w0) .ret d c:=
  bodyPost_ret (nD l o p q) e ⟨kind,pos,n,m,name,ko,kl,kc,k,a,Q,r,s⟩
theorem je (r:ck W b aB) (o:W.heap[b+1]? =some (Ob #[.int .i64 0,.int .i64 0] 32 (0,0))) (c0 c1 c2 c3 c d e f l m n:Value) (k a:Int):
 ck (((aK W b c0 c1 c2 c3 c d e f l m n).setCell ⟨b+1,0,I⟩ (.int .i64 k)).setCell ⟨b+1,1,I⟩ (.int .i64 a)) b #[c0,c1,c2,c3,c,d,e,f,l,m,n]/\(((aK W b c0 c1 c2 c3 c d e f l m n).setCell ⟨b+1,0,I⟩ (.int .i64 k)).setCell ⟨b+1,1,I⟩ (.int .i64 a)).heap[b+1]? =some (Ob #[.int .i64 k,.int .i64 a] 32 (0,0)):=by
 have q:b≠b+1:=oM;refine⟨((ck.aK r c0 c1 c2 c3 c d e f l m n).other (p:=⟨b+1,0,I⟩) q _).other (p:=⟨b+1,1,I⟩) q _,?_⟩;have s:(aK W b c0 c1 c2 c3 c d e f l m n).heap[b+1]? =W.heap[b+1]? :=aq.aK (S:=λu=>u=b+1) oM c0 c1 c2 c3 c d e f l m n (b+1) Q (gE o).1
 have v:((aK W b c0 c1 c2 c3 c d e f l m n).setCell ⟨b+1,0,I⟩ (.int .i64 k)).heap[b+1]? =some (Ob #[.int .i64 k,.int .i64 0] 32 (0,0)):=by
  rw[heap_setCell_same _ (b+1) 0 _ 32 _ (s.trans o)];rfl
 rw[heap_setCell_same _ (b+1) 1 _ 32 _ v];rfl
theorem sd (r:ck W b aB) (s:W.heap[b+1]? =some (Ob #[.int .i64 0,.int .i64 0] 32 (0,0))) (c0 c1 c2 c3 c d e f l m n:Value) (k a:Int):
 ck (aK ((W.setCell ⟨b+1,0,I⟩ (.int .i64 k)).setCell ⟨b+1,1,I⟩ (.int .i64 a)) b c0 c1 c2 c3 c d e f l m n) b #[c0,c1,c2,c3,c,d,e,f,l,m,n]/\(aK ((W.setCell ⟨b+1,0,I⟩ (.int .i64 k)).setCell ⟨b+1,1,I⟩ (.int .i64 a)) b c0 c1 c2 c3 c d e f l m n).heap[b+1]? =some (Ob #[.int .i64 k,.int .i64 a] 32 (0,0)):=by
 have o:b≠b+1:=oM;refine⟨ck.aK ((r.other (p:=⟨b+1,0,I⟩) o _).other (p:=⟨b+1,1,I⟩) o _) c0 c1 c2 c3 c d e f l m n,?_⟩
 have u:(W.setCell ⟨b+1,0,I⟩ (.int .i64 k)).heap[b+1]? =some (Ob #[.int .i64 k,.int .i64 0] 32 (0,0)):=by
  rw[heap_setCell_same _ (b+1) 0 _ 32 _ s];rfl
 have q:((W.setCell ⟨b+1,0,I⟩ (.int .i64 k)).setCell ⟨b+1,1,I⟩ (.int .i64 a)).heap[b+1]? =some (Ob #[.int .i64 k,.int .i64 a] 32 (0,0)):=by
  rw[heap_setCell_same _ (b+1) 1 _ 32 _ u];rfl
 have v:=aq.aK (S:=λx=>x=b+1) (w:=(W.setCell ⟨b+1,0,I⟩ (.int .i64 k)).setCell ⟨b+1,1,I⟩ (.int .i64 a)) (b:=b) oM c0 c1 c2 c3 c d e f l m n (b+1) Q (gE q).1;exact v.trans q
theorem kh (h:Below (E (U w0)) w0 W) (c0 c1 c2 c3 c f l m n o q d e:Value):Below (E (U w0)) w0 (((aK W (E (U w0)) c0 c1 c2 c3 c f l m n o q).setCell ⟨E (U w0)+1,0,I⟩ d).setCell ⟨E (U w0)+1,1,I⟩ e):=
 ((Below.aK h (lR _) c0 c1 c2 c3 c f l m n o q).setCell (p:=⟨E (U w0)+1,0,I⟩) (Nat.le_succ _) d).setCell (p:=⟨E (U w0)+1,1,I⟩) (Nat.le_succ _) e
theorem vj (h:Below (E (U w0)) w0 W) (c0 c1 c2 c3 c f l m n o q d e:Value):Below (E (U w0)) w0 (aK ((W.setCell ⟨E (U w0)+1,0,I⟩ d).setCell ⟨E (U w0)+1,1,I⟩ e) (E (U w0)) c0 c1 c2 c3 c f l m n o q):=
 Below.aK ((h.setCell (p:=⟨E (U w0)+1,0,I⟩) (Nat.le_succ _) d).setCell (p:=⟨E (U w0)+1,1,I⟩) (Nat.le_succ _) e) (lR _) c0 c1 c2 c3 c f l m n o q
theorem tH (h:Rd w rb tb cap t i k a) (c:Nat) (d:c<=2) (q:Int) (e:cj t i k c q=true):Calls Tryz.prog 17 #[.pointer (some ⟨rb,0,I⟩),.int .i64 c,.int .i64 q] w λf l=>f=.returned (.bool true)/\Below (E (U w)) w l:=by
 have:=bC h c d q;rwa [e] at this
theorem u6 (h:Rd w rb tb cap t i k a) (c:Nat) (d:c<=2) (q:Int) (e:cj t i k c q=false):Calls Tryz.prog 17 #[.pointer (some ⟨rb,0,I⟩),.int .i64 c,.int .i64 q] w λf l=>f=.returned (.bool false)/\Below (E (U w)) w l:=by
 have:=bC h c d q;rwa [e] at this
theorem u4 {s:ByteArray} {k:Nat} (h:eD s=.inl (k,i)):k≠0:=by
 have o:∀(b c:Nat) (e:List (List Value)),lexFrom b s c e=.inl (k,i)->k≠0:=by
  intro b;induction b with
  |zero=>intro c e h;exact absurd h (by simp[lexFrom])
  |succ b f=>
   intro c e h;by_cases d:c<s.size
   ·cases l:fH (cR s c)
    ·by_cases m:cR s c=35
     ·rw[j2 d m] at h;exact f _ _ h
     ·by_cases n:(one s c).err=0
      ·rw[mJ d l m n] at h;exact f _ _ h
      ·rw[mL d l m n] at h;simp at h;rw[<-h.1];exact n
    ·rw[gh d l] at h;exact f _ _ h
   ·rw[mK d] at h;exact absurd h sQ
 unfold eD at h;split at h
 ·simp at h;omega
 ·exact o _ _ _ h
end
section
variable{act:Act} {name:ByteArray} {a k kind m n pos:Int} {kc kl:Nat} {ko:Option Addr} {W w0:World}
theorem pH (w0:World):ck ((w0.alloc (Ob aB 48)).alloc (Ob #[.int .i64 0,.int .i64 0] 32)) (E (U w0)) aB/\((w0.alloc (Ob aB 48)).alloc (Ob #[.int .i64 0,.int .i64 0] 32)).heap[E (U w0)+1]? =some (Ob #[.int .i64 0,.int .i64 0] 32 (0,0))/\Below (E (U w0)) w0 ((w0.alloc (Ob aB 48)).alloc (Ob #[.int .i64 0,.int .i64 0] 32)):=by
 refine⟨(ck.new w0 aB).alloc _,?_,bY w0 _ _⟩;have:=heap_alloc_new (w0.alloc (Ob aB 48)) (Ob #[.int .i64 0,.int .i64 0] 32);simpa using this
theorem mA (c:act.defers=[]) (d:act.tmps.getD 2 undef=.pointer (some ⟨E (U w0),0,I⟩)) (e:act.tmps.getD 3 undef=.pointer (some ⟨E (U w0)+1,0,I⟩)) (o:Obj)
 (hS:ck W (E (U w0)) (ae kind pos n m name (J ko kl kc))/\W.heap[E (U w0)+1]? =some (Ob #[.int .i64 k,.int .i64 a] 32 (0,0))) (b:Below (E (U w0)) w0 W) (f:k≠0):
  bodyPost Tryz.prog Tryz.f10 (ir w0) .ret act (W.alloc o).drew:=
  jx c d e (hS.1.alloc o).drew ((Below.heap_alloc _ _ _ (gE hS.2).1).trans hS.2) ((b.alloc b.size o).drew) (λi=>absurd i f)
theorem jI (b:act.defers=[]) (c:act.tmps.getD 2 undef=.pointer (some ⟨E (U w0),0,I⟩)) (d:act.tmps.getD 3 undef=.pointer (some ⟨E (U w0)+1,0,I⟩))
 (hS:ck W (E (U w0)) (ae kind pos n m name (J ko kl kc))/\W.heap[E (U w0)+1]? =some (Ob #[.int .i64 k,.int .i64 a] 32 (0,0))) (e:Below (E (U w0)) w0 W) (f:k≠0):
  bodyPost Tryz.prog Tryz.f10 (ir w0) .ret act W.drew:=
  jx b c d hS.1.drew hS.2 e.drew (λi=>absurd i f)
theorem jH (b:act.defers=[]) (c:act.tmps.getD 2 undef=.pointer (some ⟨E (U w0),0,I⟩)) (d:act.tmps.getD 3 undef=.pointer (some ⟨E (U w0)+1,0,I⟩))
 (hS:ck W (E (U w0)) (ae kind pos n m name (J ko kl kc))/\W.heap[E (U w0)+1]? =some (Ob #[.int .i64 k,.int .i64 a] 32 (0,0))) (e:Below (E (U w0)) w0 W) (i:k=0->kind=0/\bf (E (U w0)) True W (ae kind pos n m name (J ko kl kc)).toList/\∀f,aG f W (ae kind pos n m name (J ko kl kc)).toList<=96100):
  bodyPost Tryz.prog Tryz.f10 (ir w0) .ret act W:=jx b c d hS.1 hS.2 e i
theorem qQ (s:ByteArray) (w0:World) (r:s.size<=maxLen) {kk ii:Nat} (l:eD s=.inl (kk,ii)):Calls Tryz.prog 10 #[.string s] w0 (ir w0):=by
 have v:=u4 l;have t:(((kk:Nat):Int)==0)=false:=by simp;omega
 obtain⟨o,p,i⟩:=pH w0;go_enter Tryz.func10,Tryz.ntmps10
 go_wp2_with fail;refine(jF s _ r).mono ?_;rintro x c ⟨j,d⟩;unfold fP at j;rw[l] at j;obtain rfl:=j;have e:ck c (E (U w0)) aB:=o.below d;have f:c.heap[E (U w0)+1]? =some (Ob #[.int .i64 0,.int .i64 0] 32 (0,0)):=(d.block _ sQ).trans p;have q:Below (E (U w0)) w0 c:=i.trans (d.mono i.size);clear o p i d;have u:Hid (Below (E (U w0)) w0 c):=q;clear q;have y:=e.cell;have z:=e.fz;have A:=e.lt;have B:∀b,c.cell? ⟨E (U w0)+1,b,I⟩=(#[.int .i64 0,.int .i64 0]:Array Value)[b]? :=λb=>cell_of_row _ _ b _ 32 (0,0) f;have C:∀b,c.frozen? ⟨E (U w0)+1,b,I⟩=false:=λb=>frozen_of_row _ _ b _ 32 f;have D:=(gE f).1;have F:E (U w0)≠E (U w0)+1:=oM;have G:E (U w0)+1≠E (U w0):=oM;go_wp2_with fail;go_region
 all_goals
  go_wp2_with fail;go_light;exact mA (kind:=0) (pos:=0) (n:=0) (m:=0) (name:=⟨#[]⟩) (ko:=I) (kl:=0) (kc:=0) (k:=(kk:Int)) (a:=(ii:Int)) Q Q Q (Ob #[.int .i64 (kk:Int),.int .i64 (ii:Int)] 32) (je e f (.int .i64 0) (.int .i64 0) (.int .i64 0) (.int .i64 0) (.string ⟨#[]⟩) (J I 0 0) (.int .i64 0) (.int .i64 0) (J I 0 0) (J I 0 0) (J I 0 0) (kk:Int) (ii:Int)) (kh u.out (.int .i64 0) (.int .i64 0) (.int .i64 0) (.int .i64 0) (.string ⟨#[]⟩) (J I 0 0) (.int .i64 0) (.int .i64 0) (J I 0 0) (J I 0 0) (J I 0 0) (.int .i64 (kk:Int)) (.int .i64 (ii:Int))) (sU t)
end
theorem qJ {a w W:World} {rb r s:Nat} {t:Tk} (u:PF a w rb r s t) (hl:rb<E (U w)) {o:List Nat} {kv:Value} {g:Prop} {h:Nat} {cs:List Value} (p:isNode (Out w o kv) g h W cs) (v:∀f,aG f W cs<=96100) (x:g) (c0 c1 c2 c3 c i j k l m n d e:Value):
 bf (E (U a)) True (((aK W (E (U a)) c0 c1 c2 c3 c i j k l m n).setCell ⟨E (U a)+1,0,I⟩ d).setCell ⟨E (U a)+1,1,I⟩ e) cs/\∀f,aG f (((aK W (E (U a)) c0 c1 c2 c3 c i j k l m n).setCell ⟨E (U a)+1,0,I⟩ d).setCell ⟨E (U a)+1,1,I⟩ e) cs<=96100:=by
 have z:=u.lt
 have q:aq (Out w o kv) W (((aK W (E (U a)) c0 c1 c2 c3 c i j k l m n).setCell ⟨E (U a)+1,0,I⟩ d).setCell ⟨E (U a)+1,1,I⟩ e):=
  ((aq.aK (λb=>oH b.1) c0 c1 c2 c3 c i j k l m n).trans (aq.setCell _ ⟨E (U a)+1,0,I⟩ d (λb=>by have:=b.1;simp only at this;omega)) sQ).trans (aq.setCell _ ⟨E (U a)+1,1,I⟩ e (λb=>by have:=b.1;simp only at this;omega)) sQ
 exact⟨⟨h,isNode.weaken (λA y=>oH y.1) (λ_=>x) _ _ (isNode.frame q _ _ p)⟩,λf=>by rw[aT q _ _ p f];exact v f⟩
theorem qP (s:ByteArray) (c:World) (aI:s.size<=maxLen) {aJ:List (List Value)} (A:eD s=.inr aJ):Calls Tryz.prog 10 #[.string s] c (ir c):=by
 have aK:s.size<=6000:=by
  unfold eD at A;split at A
  ·exact absurd A sQ
  ·omega
 obtain⟨ag,ah,V⟩:=pH c;go_enter Tryz.func10,Tryz.ntmps10
 go_wp2_with fail;refine(jF s _ aI).mono ?_;rintro d e ⟨W,z⟩;unfold fP at W;rw[A] at W;obtain⟨H,rfl,ai⟩:=W;obtain⟨t,X,Y,rfl,bd,aj,K⟩:=oL aK A ai;have ak:ck e (E (U c)) aB:=ag.below z;have Z:e.heap[E (U c)+1]? =some (Ob #[.int .i64 0,.int .i64 0] 32 (0,0)):=(z.block _ sQ).trans ah;have al:Below (E (U c)) c e:=V.trans (z.mono V.size);have L:Hid (Below (E (U c)) c e):=al;have aa:Hid (E (U c)+1<E (U e)):=(gE Z).1;clear ag ah V z al ai;go_upto_region 4 with fail
 go_cut [6] (λaL aM=>∃M,aL=.pointer (some ⟨M,0,I⟩)/\PF c aM M X Y t)
 case first=>
  go_wp2_with fail;go_meet;refine⟨E (U e)+1,Q,⟨?_,K.fC ?_,?_,aj,aj.some_⟩,(ak.alloc _).alloc _,?_,?_,?_⟩
  ·have:=heap_alloc_new (e.alloc (Ob #[.int .i64 0,.int .i64 0] 32)) (Ob #[J (some ⟨X,0,I⟩) t.len Y,.int .i64 0,.int .i64 0,.int .i64 0] 58);simpa using this
  ·have u:=K.lt;exact(Below.heap_alloc _ _ _ (by simp;omega)).trans (Below.heap_alloc _ _ _ u)
  ·have u:=K.lt;omega
  ·have u:=aa.out;exact((Below.heap_alloc _ _ _ (by simp;omega)).trans (Below.heap_alloc _ _ _ u)).trans Z
  ·exact(L.out.alloc L.out.size _).alloc (by have:=L.out.size;simp;omega) _
  ·have u:=aa.out;omega
 case rest=>
  obtain⟨M,rfl,v⟩:=hcut;clear ak Z L aa K;obtain⟨w,aN⟩:∃q,q=wc:=⟨_,Q⟩;subst aN;have bf:=v.rd.l;have h:=v.rd;have b:=Mz.start (wt:=1) h;have ao:(0:Int)<=(t.pos 0:Int)/\(t.pos 0:Int)<=7000:=oH (h.ar.aQ 0);go_wp2_with fail;refine b.lf (aF · 0) ?_;clear b;intro e b;go_wp2_with fail;go_loopg [] (ml t 0 0) (λg wr=>∃(H:Value) (l:List (List Value)) (r:Nat) (j x:Int),g=ml t r j/\dQ 4 l r j/\(j=0->∀q∈l.map az,q=1)/\Mz 1 w M X Y t 0 0 False (0) wr r j x [(E (U e),nk 0 (t.pos 0) H)] [] H l)
  case atStart=>exact⟨nl,[],0,0,0,Q,⟨λ_=>by simp,sQ⟩,(λ_ q aP=>by cases aP),((b.ne' (E (U e)) (nk 0 (t.pos 0) nl)).less oM)⟩
  case round=>
   clear b;obtain⟨H,l,r,j,x,ap,hF,ar,b⟩:=hrel;have au:=b.st.rd.lt;have bg:(0:Int)<=(t.pos r:Int)/\(t.pos r:Int)<=7000:=oH (h.ar.aQ r);have aQ:Hid (gk=ml t r j):=ap;clear ap;obtain⟨B,D,rfl⟩:=b.shape;have f:=b.f1
   cases av:(j==0)
   ·go_wp2_with fail;refine b.lf aW ?_;clear b f;intro bh b;have f:=b.f1;have aw:j≠0:=sU av;go_wp2_with fail;refine b.lf aW ?_;clear b f;intro ab b;have f:=b.f1;obtain⟨o,p,aR,aS,ac⟩:=v.dA b.st;have aU:=o.cell;have aV:=o.fz;have aX:=o.lt;have aY:∀i,ab.cell? ⟨E (U c)+1,i,I⟩=(#[.int .i64 0,.int .i64 0]:Array Value)[i]? :=λi=>cell_of_row _ _ i _ 32 (0,0) p;have aZ:∀i,ab.frozen? ⟨E (U c)+1,i,I⟩=false:=λi=>frozen_of_row _ _ i _ 32 p;have a0:=(gE p).1;have a1:E (U c)+1≠E (U c):=λd=>ac d.symm;obtain⟨ad,ae⟩:E (U e)≠E (U c)/\E (U e)≠E (U c)+1:=by have u:=v.lt;have ax:=h.l;have N:=(b.cV.dV 0 _ Q).1;simp only[ja] at N;omega
    have a2:E (U c)≠E (U e):=λd=>ad d.symm;have a3:E (U c)+1≠E (U e):=λd=>ae d.symm;have F:Hid (Below (E (U c)) c ab):=v.down b.st;have bi:=b.st.rd.r2;have bj:=b.st.rd.r3;have bk:=b.st.rd.l;go_wp2_with fail;go_region
    all_goals
     go_wp2_with fail;go_light;first
     |exact jI (kind:=0) (pos:=0) (n:=0) (m:=0) (name:=⟨#[]⟩) (ko:=I) (kl:=0) (kc:=0) (k:=j) (a:=x) Q Q Q (je o p (.int .i64 0) (.int .i64 0) (.int .i64 0) (.int .i64 0) (.string ⟨#[]⟩) nl (.int .i64 0) (.int .i64 0) nl nl nl j x) (kh F.out (.int .i64 0) (.int .i64 0) (.int .i64 0) (.int .i64 0) (.string ⟨#[]⟩) nl (.int .i64 0) (.int .i64 0) nl nl nl (.int .i64 j) (.int .i64 x)) aw
     |exact jI (kind:=0) (pos:=0) (n:=0) (m:=0) (name:=⟨#[]⟩) (ko:=I) (kl:=0) (kc:=0) (k:=j) (a:=x) Q Q Q (sd o p (.int .i64 0) (.int .i64 0) (.int .i64 0) (.int .i64 0) (.string ⟨#[]⟩) nl (.int .i64 0) (.int .i64 0) nl nl nl j x) (vj F.out (.int .i64 0) (.int .i64 0) (.int .i64 0) (.int .i64 0) (.string ⟨#[]⟩) nl (.int .i64 0) (.int .i64 0) nl nl nl (.int .i64 j) (.int .i64 x)) aw
   ·obtain rfl:j=0:=sU av;have z:Hid ((0:Nat)<=r):=zL _;have af:Hid (∀q∈l.map az,q=1):=ar Q;clear ar;have a4:O l<=6005:=oI (hF.1 Q) h.ar.bj;replace b:=b.bP;go_wp2_with fail;refine b.lf aW ?_;clear b f;intro bl b;have f:=b.f1
    cases P:cj t r 0 0 0
    ·go_wp2_with fail;refine b.lf (u6 · 0 dC 0 P) ?_;clear b f;intro bm b;have f:=b.f1;clear P;go_wp2_with fail;go_region_law (first|(refine b.as (E (U a5)) (lT a4 dC) ?_;clear b f;intro bn ay aA b;have f:=b.f1)|(go_simp;refine b.drew.nd (uY xX ·) ?_;clear b f;intro a5 a6 aC aD a7 a8 _ b;have f:=b.f1))
     all_goals
      go_wp2_with fail;replace b:=b.dT (J ay (O l+1) aA);go_roundg (ml t aC aD)
      case measure=>rw[aQ.out];exact bN au b.le (b.go trivial)
      case rel=>exact⟨(J ay (O l+1) aA),(l++[a6.t]),aC,aD,a7,Q,dQ.snoc (t:=t) hF Q au h.ar (b.go trivial),(λd=>by rw[List.map_append];exact aO (C:=λq=>q=1) af.out (a8 d)),b.aE (s':=0) z.out (λ_=>rfl) (λd=>absurd d (λq=>q)) oM⟩
    ·go_wp2_with fail;refine b.lf (tH · 0 dC 0 P) ?_;clear b f;intro bo b;have f:=b.f1;clear P;go_wp2_with fail;refine b.lf aW ?_;clear b f;intro a9 b;have f:=b.f1;have aE:∀y,aG y a9 (nk 0 (t.pos 0) (J B (O l) D)).toList<=96100:=λy=>by have u:=((b.fk 0 (t.pos 0) (lT hF.2 dC) ao (λd=>Gr.pU af.out))).sz Q y;have ax:=b.st.rd.lt;have N:=h.ar.bj;rw[cX,cL,cX,jk] at u;omega
     obtain⟨a',aH⟩:=((b.fk 0 (t.pos 0) (lT hF.2 dC) ao (λd=>Gr.pU af.out))).cV.all;have R:=aH _ (.inr (List.mem_cons_self ..));clear aH;go_wp2_with fail;refine(tX a' R 1 dC dC).mono ?_;rintro d S ⟨G,rfl,bp,T⟩;have ba:=isNode.frame (aq.below T) _ _ R;have bb:∀y,aG y S (nk 0 (t.pos 0) (J B (O l) D)).toList<=96100:=λy=>by rw[aT (aq.below T) _ _ R y];exact aE y
     replace b:=b.below T;clear R T aE;replace f:=b.f1;obtain⟨o,p,aR,aS,ac⟩:=v.dA b.st;have aU:=o.cell;have aV:=o.fz;have aX:=o.lt;have aY:∀i,S.cell? ⟨E (U c)+1,i,I⟩=(#[.int .i64 0,.int .i64 0]:Array Value)[i]? :=λi=>cell_of_row _ _ i _ 32 (0,0) p;have aZ:∀i,S.frozen? ⟨E (U c)+1,i,I⟩=false:=λi=>frozen_of_row _ _ i _ 32 p;have a0:=(gE p).1;have a1:E (U c)+1≠E (U c):=λd=>ac d.symm;obtain⟨ad,ae⟩:E (U e)≠E (U c)/\E (U e)≠E (U c)+1:=by have u:=v.lt;have ax:=h.l;have N:=(b.cV.dV 0 _ Q).1;simp only[ja] at N;omega
     have a2:E (U c)≠E (U e):=λd=>ad d.symm;have a3:E (U c)+1≠E (U e):=λd=>ae d.symm;have F:Hid (Below (E (U c)) c S):=v.down b.st;by_cases bc:0<=G
     ·go_wp2_with fail;go_light;exact jH (kind:=0) (pos:=0) (n:=0) (m:=0) (name:=⟨#[]⟩) (ko:=I) (kl:=0) (kc:=0) (k:=5) (a:=G) Q Q Q (je o p (.int .i64 0) (.int .i64 0) (.int .i64 0) (.int .i64 0) (.string ⟨#[]⟩) nl (.int .i64 0) (.int .i64 0) nl nl nl 5 G) (kh F.out (.int .i64 0) (.int .i64 0) (.int .i64 0) (.int .i64 0) (.string ⟨#[]⟩) nl (.int .i64 0) (.int .i64 0) nl nl nl (.int .i64 5) (.int .i64 G)) (λd=>absurd d dC)
     ·have bq:decide (0<=G)=false:=sU bc;go_wp2_with fail;go_light;exact jH (kind:=0) (pos:=(t.pos 0:Int)) (n:=0) (m:=0) (name:=⟨#[]⟩) (ko:=B) (kl:=O l) (kc:=D) (k:=0) (a:=0) Q Q Q (je o p (.int .i64 0) (.int .i64 (t.pos 0)) (.int .i64 0) (.int .i64 0) (.string ⟨#[]⟩) (J B (O l) D) (.int .i64 0) (.int .i64 0) nl nl nl 0 0) (kh F.out (.int .i64 0) (.int .i64 (t.pos 0)) (.int .i64 0) (.int .i64 0) (.string ⟨#[]⟩) (J B (O l) D) (.int .i64 0) (.int .i64 0) nl nl nl (.int .i64 0) (.int .i64 0)) (λ_=>⟨Q,qJ v h.l ba bb (by first|rfl|trivial) _ _ _ _ _ _ _ _ _ _ _ _ _⟩)
theorem vX (s:ByteArray) (a:World) (b:s.size<=maxLen):Calls Tryz.prog 10 #[.string s] a (ir a):=by
 cases c:eD s with
 |inl d=>exact qQ s a b (kk:=d.1) (ii:=d.2) c
 |inr e=>exact qP s a b c
section
variable{kind:Int} {ls:List Int} {xs:List Value} {f h n size:Nat} {S S':Nat->Prop} {vs:VV} {av lv v:Value} {w w':World}
def ro (w:World) (S:Nat->Prop) (size:Nat) (v:Value) (n:Nat) (xs:List Value):Prop:=
 ∃a c,v=J a n c/\O xs=n*size/\(0<n->∃g,a=some ⟨g,0,I⟩/\S g/\g<E (U w)/\∀j,j<n*size->w.cell? ⟨g,j,I⟩=xs[j]?)
theorem ro.frame (h:ro w S size v n xs) (c:aq S w w') (q:E (U w)<=E (U w')):ro w' S size v n xs:=by
 obtain⟨a,d,e,i,j⟩:=h;refine⟨a,d,e,i,λk=>?_⟩;obtain⟨g,l,hS,m,o⟩:=j k;exact⟨g,l,hS,oM,λb p=>(World.cell?_of_block (w:=w) (a:=⟨g,b,I⟩) (c g hS m)).trans (o b p)⟩
theorem ro.weaken (h:ro w S size v n xs) (c:∀b,S b->b<E (U w)->S' b):ro w S' size v n xs:=by
 obtain⟨d,e,i,j,k⟩:=h;refine⟨d,e,i,j,λl=>?_⟩;obtain⟨g,m,hS,a,o⟩:=k l;exact⟨g,m,c g hS a,a,o⟩
theorem ro.bH {base e:Nat} (h:w.ownsRow base e size v n xs) (c:∀b,v.ownBlock=some b->S b):ro w S size v n xs:=by
 rcases h.2 with⟨a,d⟩|⟨g,cap,cur,a,hb,hg,hnc,hcm,hcs,htake⟩
 ·exact⟨I,0,by rw[a,d],h.1,λk=>by omega⟩
 ·refine⟨_,_,a,h.1,λ_=>⟨g,Q,c g (by rw[a];rfl),(gE hg).1,λi j=>?_⟩⟩;rw[cell_of_row w g i cur e (0,0) hg,<-htake,List.getElem?_take,if_pos j];simp
abbrev ak (kind n:Int) (lv av:Value):Array Value:=#[vN kind,vN n,lv,av]
def aN (ls:List Int):List Value:=ls.map (λx=>vN x)
def af (S:Nat->Prop) (G:Int->Int->Nat->Nat->Prop):Nat->World->List Value->Prop
 |0,_,_=>False
 |h+1,w,cs=>∃(kind n:Int) (lv av:Value) (ls:List Int) (vs:VV),cs=(ak kind n lv av).toList/\ro w S 1 lv (O ls) (aN ls)/\ro w S 4 av (O vs) vs.flatten/\O ls<=30000/\O vs<=30000/\G kind n (O ls) (O vs)/\∀x∈vs,af S G h w x
section
variable{S S':Nat->Prop} {G:Int->Int->Nat->Nat->Prop} {w w':World}
theorem af.frame (a:aq S w w') (b:E (U w)<=E (U w')):(h:Nat)->(cs:List Value)->af S G h w cs->af S G h w' cs
 |0,_,hn=>hn
 |h+1,_,⟨kind,n,lv,av,ls,vs,h1,h2,h3,h4,h5,h6,h7⟩=>⟨kind,n,lv,av,ls,vs,h1,h2.frame a b,h3.frame a b,h4,h5,h6,λc d=>af.frame a b h c (h7 c d)⟩
theorem af.weaken (a:∀b,S b->b<E (U w)->S' b):(h:Nat)->(cs:List Value)->af S G h w cs->af S' G h w cs
 |0,_,hn=>hn
 |h+1,_,⟨kind,n,lv,av,ls,vs,h1,h2,h3,h4,h5,h6,h7⟩=>⟨kind,n,lv,av,ls,vs,h1,h2.weaken a,h3.weaken a,h4,h5,h6,λc d=>af.weaken a h c (h7 c d)⟩
theorem af.up:(h:Nat)->(cs:List Value)->af S G h w cs->af S G (h+1) w cs
 |0,_,hn=>absurd hn (λh=>h)
 |h+1,_,⟨kind,n,lv,av,ls,vs,h1,h2,h3,h4,h5,h6,h7⟩=>⟨kind,n,lv,av,ls,vs,h1,h2,h3,h4,h5,h6,λa b=>af.up h a (h7 a b)⟩
theorem af.le {cs:List Value} (a:af S G h w cs):(h':Nat)->h<=h'->af S G h' w cs
 |0,hl=>by
  obtain rfl:h=0:=oM;exact a
 |h'+1,hl=>by
  rcases Nat.lt_or_ge h' h with b|hge
  ·obtain rfl:h=h'+1:=oM;exact a
  ·exact af.up h' cs (af.le a h' hge)
theorem af.four:(h:Nat)->(cs:List Value)->af S G h w cs->O cs=4
 |0,_,hn=>absurd hn (λa=>a)
 |_+1,_,⟨_,_,_,_,_,_,h1,_⟩=>by rw[h1];rfl
end
theorem lY {us:VV} (b:∀x∈us,O x=size):∀{idx:Nat} {x:List Value},us[idx]? =some x->∀a,a<size->us.flatten[idx*size+a]? =x[a]? :=by
 induction us with
 |nil=>intro idx x h;simp at h
 |cons c l d=>
  intro idx x h a e;have i:=b c (List.mem_cons_self ..);rw[List.flatten_cons]
  cases idx with
  |zero=>
   obtain rfl:c=x:=sU h;rw[List.getElem?_append_left oM];congr 1
   omega
  |succ idx=>
   have m:(idx+1)*size=idx*size+size:=by rw[Nat.add_mul,Nat.one_mul]
   rw[List.getElem?_append_right oM,i];have:=d (λj k=>b j (List.mem_cons_of_mem _ k)) (idx:=idx) (x:=x) (sU h) a e;rw[<-this];congr 1
   omega
theorem iC (ls:List Int):(ls.map (λa=>[Value.int .i64 a])).flatten=aN ls:=by
 unfold aN;induction ls with
 |nil=>rfl
 |cons c d b=>simp only[List.map_cons,List.flatten_cons];rw[b];rfl
def rowAt (w:World) (size:Nat):Value->VV
 |J (some p) n _=>(List.range n).map (λi=>(List.range size).map (λo=>(w.cell? ⟨p.block,i*size+o,I⟩).getD undef))
 |_=>[]
theorem fB (h:ro w S size v (O vs) vs.flatten) (hl:∀x∈vs,O x=size):rowAt w size v=vs:=by
 obtain⟨j,p,rfl,q,k⟩:=h;rcases Nat.eq_zero_or_pos (O vs) with d|d
 ·obtain rfl:vs=[]:=List.eq_nil_of_length_eq_zero d
  cases j<;>rfl
 ·obtain⟨g,rfl,_,_,l⟩:=k d;unfold rowAt;apply List.ext_getElem?
  intro a;by_cases c:a<O vs
  ·have e:vs[a]? =some vs[a]:=gG c;have r:=hl _ (List.getElem_mem c);rw[List.getElem?_map,List.getElem?_range c,e];show some _=some _;congr 1
   apply List.ext_getElem?
   intro b;by_cases i:b<size
   ·rw[List.getElem?_map,List.getElem?_range i]
    have m:a*size+b<O vs*size:=by
     have:(a+1)*size<=O vs*size:=Nat.mul_le_mul_right _ c;rw[Nat.add_mul] at this;omega
    have o:vs.flatten[a*size+b]? =vs[a][b]? :=lY hl e b i;show some ((w.cell? ⟨g,a*size+b,I⟩).getD undef)=_;rw[l _ m,o,gG oM];rfl
   ·rw[List.getElem?_eq_none (by simp;omega),List.getElem?_eq_none oM]
  ·rw[List.getElem?_eq_none (by simp;omega),List.getElem?_eq_none oM]
def xh:List Value->Value
 |[_,_,v,_]=>v
 |_=>undef
def lF:List Value->Value
 |[_,_,_,v]=>v
 |_=>undef
def enc:Nat->World->List Value->Value
 |0,_,_=>undef
 |h+1,w,cs=>.agg #[.agg (cs.take 2).toArray,.agg (rowAt w 1 (xh cs)).flatten.toArray,.agg ((rowAt w 4 (lF cs)).map (enc h w)).toArray]
def cS:Nat->World->List Value->Value
 |0,_,_=>undef
 |h+1,w,cs=>.agg #[.agg (cs.take 2).toArray,.agg ((rowAt w 4 (lF cs)).map (cS h w)).toArray]
section
variable{S:Nat->Prop} {G:Int->Int->Nat->Nat->Prop} {w w':World}
theorem kH (h:ro w S 1 v (O ls) (aN ls)):rowAt w 1 v=ls.map (λa=>[vN a]):=by
 have b:ro w S 1 v (O (ls.map (λa=>[Value.int .i64 a]))) (ls.map (λa=>[Value.int .i64 a])).flatten:=by
  rw[iC,List.length_map];exact h
 exact fB b (λa c=>by obtain⟨d,_,rfl⟩:=List.mem_map.1 c;rfl)
theorem jC {n:Int} (a:ro w S 1 lv (O ls) (aN ls)) (b:ro w S 4 av (O vs) vs.flatten) (c:∀x∈vs,af S G h w x):enc (f+1) w (ak kind n lv av).toList=.agg #[.agg #[vN kind,vN n],.agg (aN ls).toArray,.agg (vs.map (enc f w)).toArray]:=by
 have d:=kH a;have e:=fB b (λx i=>af.four h x (c x i));show Value.agg #[_,.agg (rowAt w 1 lv).flatten.toArray,.agg ((rowAt w 4 av).map (enc f w)).toArray]=_;rw[d,e];rw[iC];rfl
theorem kf {n:Int} (a:ro w S 4 av (O vs) vs.flatten) (b:∀x∈vs,af S G h w x):cS (f+1) w (ak kind n lv av).toList=.agg #[.agg #[vN kind,vN n],.agg (vs.map (cS f w)).toArray]:=by
 have c:=fB a (λx d=>af.four h x (b x d));show Value.agg #[_,.agg ((rowAt w 4 av).map (cS f w)).toArray]=_;rw[c];rfl
theorem dO (b:aq S w w') (c:E (U w)<=E (U w')):(h:Nat)->(cs:List Value)->af S G h w cs->∀f,enc f w' cs=enc f w cs
 |0,_,hn,_=>absurd hn (λa=>a)
 |_+1,_,_,0=>rfl
 |h+1,_,⟨kind,n,lv,av,ls,vs,h1,h2,h3,h4,h5,h6,h7⟩,f+1=>by
  subst h1;rw[jC h2 h3 h7,jC (G:=G) (h2.frame b c) (h3.frame b c) (λa d=>af.frame b c h a (h7 a d))];have:vs.map (enc f w')=vs.map (enc f w):=List.map_congr_left (λa d=>dO b c h a (h7 a d) f);rw[this]
theorem fG (b:aq S w w') (c:E (U w)<=E (U w')):(h:Nat)->(cs:List Value)->af S G h w cs->∀f,cS f w' cs=cS f w cs
 |0,_,hn,_=>absurd hn (λa=>a)
 |_+1,_,_,0=>rfl
 |h+1,_,⟨kind,n,lv,av,ls,vs,h1,h2,h3,h4,h5,h6,h7⟩,f+1=>by
  subst h1;rw[kf h3 h7,kf (G:=G) (h3.frame b c) (λa d=>af.frame b c h a (h7 a d))];have:vs.map (cS f w')=vs.map (cS f w):=List.map_congr_left (λa d=>fG b c h a (h7 a d) f);rw[this]
theorem nT:(h:Nat)->(cs:List Value)->af S G h w cs->∀f,h<=f->enc f w cs=enc h w cs
 |0,_,hn,_,_=>absurd hn (λa=>a)
 |h+1,_,_,0,hf=>absurd hf oM
 |h+1,_,⟨kind,n,lv,av,ls,vs,h1,h2,h3,h4,h5,h6,h7⟩,f+1,hf=>by
  subst h1;rw[jC h2 h3 h7,jC h2 h3 h7];have:vs.map (enc f w)=vs.map (enc h w):=List.map_congr_left (λa b=>nT h a (h7 a b) f oM);rw[this]
theorem ro.nth (h:ro w S 4 v (O vs) vs.flatten) (hl:∀x∈vs,O x=4) {i:Nat} (c:i<O vs):∃g b,v=J (aS g) (O vs) b/\S g/\g<E (U w)/\∀a,a<4->w.cell? ⟨g,i*4+a,I⟩=vs[i][a]? :=by
 obtain⟨l,b,rfl,m,d⟩:=h;obtain⟨g,rfl,hS,e,j⟩:=d oM;exact⟨g,b,Q,hS,e,λa k=>by rw[j _ oM,lZ hl (gG c) a k]⟩
end
end
end Go.Proofs.YtdghkacbpebcoaaGreat
