import Derived.Test.YtcnnibahjmekdaaGreatS04
import Derived.Test.YtcnnibahjmekdaaGreatS24
import Derived.Test.YtcnnibahjmekdaaGreatS25
namespace Go.Proofs.YtcnnibahjmekdaaGreat
open Go.RowKit
open Value renaming slice→J
open List renaming length→O
open Option renaming none→I
open World renaming heap→U
open _root_.Array renaming size→E
open Obj renaming cells→Ob
set_option linter.all false
set_option maxRecDepth 100000
set_option maxHeartbeats 0
section
variable{g:Prop}
theorem isNode.eH {S:Nat->Prop} {h:Nat} {w:World} {kind pos n m:Int} {name:ByteArray} {ko:Option Addr} {kl kc:Nat} (r:isNode S g (h+1) w (ae kind pos n m name (J ko kl kc)).toList):(0<=pos/\pos<=7000)/\kl<=20000/\∀a,a<kl->∃d,ko=some ⟨d,0,I⟩/\S d/\d<E (U w)/\∃kind pos n m name ko kl kc,isNode S g h w (ae kind pos n m name (J ko kl kc)).toList/\∀e,e<11->w.cell? ⟨d,a*11+e,I⟩=(ae kind pos n m name (J ko kl kc))[e]? :=by
 obtain⟨V,s,W,X,Y,t,b,i,Z,u,aa,l,v,o,ab⟩:=r;simp only[Array.toList_inj] at i;have x:pos=s/\Value.slice ko kl kc=t:=by simp at i;exact⟨i.2.1,i.2.2.2.2.2⟩
 obtain⟨rfl,rfl⟩:=x
 have ac:kl=O b:=by
  rcases l.2 with⟨c,A⟩|⟨f,y,z,c,_⟩
  ·simp at c;omega
  ·simp at c;omega
 refine⟨u,oM,λa ad=>?_⟩;have p:a<O b:=oM;have j:b[a]? =some b[a]:=gG p;have B:b[a]∈b:=List.getElem_mem p;have k:=o _ B;have C:∀f∈b,O f=11:=λf j=>(isNode.ry _ _ (o f j)).1;rcases l.2 with⟨c,A⟩|⟨d,cap,cur,c,hb,hg,hnc,hcm,hcs,htake⟩
 ·omega
 ·obtain⟨rfl,-,rfl⟩:ko=some ⟨d,0,I⟩/\kl=O b/\kc=cap:=sU c;refine⟨d,Q,v d Q,(gE hg).1,?_⟩
  cases h with
  |zero=>exact absurd k (λf=>f)
  |succ h=>
   have D:=k;obtain⟨kind,pos,n,m,name,F,af,q,ag,ah,ai,G,aj,ak,al⟩:=k
   have H:∃ko kl kc,F=J ko kl kc:=by
    rcases G.2 with⟨c,_⟩|⟨f,y,z,c,_⟩
    ·exact⟨_,_,_,c⟩
    ·exact⟨_,_,_,c⟩
   obtain⟨K,L,M,rfl⟩:=H;refine⟨kind,pos,n,m,name,K,L,M,q▸D,λe N=>?_⟩;have P:=kY C j e N;have R:a*11+e<O b*11:=oM;rw[cell_of_row w d (a*11+e) cur 46 (0,0) hg];have T:(cur.toList.take (O b*11))[a*11+e]? =cur[a*11+e]? :=by rw[List.getElem?_take,if_pos R];simp
   rw[<-T,htake,P,q];simp
def oL (w:World) (e:Ending) (w':World):Prop:=∃r:Int,e=.returned (.int .i64 r)/\(-1<=r/\r<=7000)/\Below (E (U w)) w w'
theorem ug:(h:Nat)->∀{o:Nat->Prop} {w:World} {i pos j k:Int} {l:ByteArray} {d:Option Addr} {a m:Nat},isNode o g h w (ae i pos j k l (J d a m)).toList->∀e:Int,0<=e->e<=100->Calls Tryz.prog 24 #[.agg (ae i pos j k l (J d a m)),.int .i64 e] w (oL w)
 |0,_,_,_,_,_,_,_,_,_,_,hn=>absurd hn (λL=>L)
 |h+1,o,w,i,pos,j,k,l,d,a,m,hn=>by
  intro e ag ah;obtain⟨ai,aj,C⟩:=hn.eH;have M:Hid (∀{o:Nat->Prop} {w:World} {i pos j k:Int} {l:ByteArray} {d:Option Addr} {a m:Nat},isNode o g h w (ae i pos j k l (J d a m)).toList->∀e:Int,0<=e->e<=100->Calls Tryz.prog 24 #[.agg (ae i pos j k l (J d a m)),.int .i64 e] w (oL w)):=ug h;have N:Hid (∀b,b<a->∃n,d=some ⟨n,0,I⟩/\o n/\n<E (U w)/\∃i pos j k l d a m,isNode o g h w (ae i pos j k l (J d a m)).toList/\∀f,f<11->w.cell? ⟨n,b*11+f,I⟩=(ae i pos j k l (J d a m))[f]?):=C;clear C hn;by_cases P:80<e
  ·go_enter Tryz.func24,Tryz.ntmps24
   go_wp2_with fail;go_ret;exact⟨pos,Q,oM,(Below.refl _ _).alloc (lR _) _⟩
  ·have ak:decide (80<e)=false:=sU P;go_enter Tryz.func24,Tryz.ntmps24
   go_wp2_with fail;go_loopg [6,7,15] a (λR _ _ S wr=>∃b:Nat,R=a - b/\S=.int .i64 b/\b<=a/\Below (E (U w)) w wr)
   case atStart=>exact⟨0,Q,Q,zL _,(Below.refl _ _).alloc (lR _) _⟩
   case round=>
    obtain⟨b,D,rfl,ao,q⟩:=hrel;have T:Hid (gk=a - b):=D;clear D;by_cases F:b<a
    ·obtain⟨n,rfl,hS,V,s,t,u,v,x,y,z,A,W,G⟩:=N.out b F;have H:(b:Int)<(a:Int):=oM;have ap:=q.size;have aq:n<E (U wr):=oM;have c:∀f,f<11->wr.cell? ⟨n,b*11+f,I⟩=(ae s t u v x (J y z A))[f]? :=λf X=>(q.cell (p:=⟨n,b*11+f,I⟩) V).trans (G f X);clear G;have Y:=c 0 dC;have ar:=c 1 dC;have au:=c 2 dC;have av:=c 3 dC;have aw:=c 4 dC;have ax:=c 5 dC;have ay:=c 6 dC;have az:=c 7 dC;have aA:=c 8 dC;have aB:=c 9 dC;have aC:=c 10 dC;clear c;simp only[Nat.add_zero] at Y;have Z:isNode (λr=>o r/\r<E (U w)) g h (wr.alloc (Ob (ae s t u v x (J y z A)) 46)) (ae s t u v x (J y z A)).toList:=isNode.frame (al.alloc _ _ _) _ _ (isNode.frame (λr aa _=>q.block r aa.2) _ _ (isNode.low _ _ W));go_wp2_with fail;refine(M.out Z _ oM oM).mono ?_;rintro aD ab ⟨B,rfl,ac,ad⟩;have K:Below (E (U w)) w ab:=(q.alloc q.size _).trans (ad.mono (by simp;omega));by_cases af:0<=B
     ·go_wp2_with fail;go_ret;exact⟨B,Q,ac,K⟩
     ·have aE:decide (0<=B)=false:=sU af;go_wp2_with fail;go_roundg (a - (b+1))
      case measure=>rw[T.out];omega
      case rel=>exact⟨b+1,Q,by go_num,F,K⟩
    ·have H:¬(b:Int)<(a:Int):=oM;have aF:decide ((b:Int)<(a:Int))=false:=sU H;go_wp2_with fail;go_ret;exact⟨-1,Q,oM,q⟩
end
section
variable{s:ByteArray} {i:Nat}
structure gN where
 kind:Nat
 pos:Nat
 text:ByteArray
 num:Nat
def gN.cells (r:gN):List Value:=fp r.kind r.pos r.text r.num
structure gN.ok (r:gN):Prop where
 name:r.kind=2->ig r.text
 aO:r.pos<=6000
 pQ:r.text.size<=6000
 xX:r.num<=9223372036854775807
theorem ox (x:ByteArray):O x.data.toList=x.size:=by rw[Array.length_toList];rfl
theorem vl (c:i<s.size) (hl:eN (cX s i)=true):ig (s.extract i (az bK s i)):=by
 have f:bK (cX s i)=true:=by simp[bK,hl]
 have l:=eW c f;have m:=eD bK s i (Nat.le_of_lt c);have n:(s.extract i (az bK s i)).size=az bK s i - i:=by simp;omega
 refine⟨λb=>?_,λd=>?_⟩
 ·have:O (s.extract i (az bK s i)).toList=0:=by rw[b];rfl
  rw[Lib.toList_data,ox] at this;omega
 ·rw[Lib.toList_data] at d;obtain⟨a,o,b⟩:=List.getElem_of_mem d
  have p:a<az bK s i - i:=by
   have q:=ox (s.extract i (az bK s i));omega
  have j:(s.extract i (az bK s i))[a]'oM=s[i+a]'oM:=by
   rw[ByteArray.getElem_extract]
  have k:s[i+a]'oM=58:=by rw[<-j];exact b
  have e:=o8 bK s i (i+a) oM oM;rw[dJ oM,k] at e;exact absurd e dC
theorem th (n:s.size<=6000) (j:i<s.size) (m:(one s i).err=0):gN.ok ⟨(one s i).kind,i,cS s i (one s i),(one s i).n⟩:=by
 have o:=kM j m;refine⟨λa=>?_,by show i<=6000;omega,?_,?_⟩
 ·have a:(one s i).kind=2:=a;show ig (cS s i (one s i));by_cases f:eN (cX s i)=true
  ·have b:=kN f;unfold cS;rw[if_neg oM];rw[b] at a⊢;by_cases k:isWord (s.extract i (az bK s i)).toList=true
   ·rw[if_pos k] at a;exact absurd a (λb=>by simp at b)
   ·rw[if_neg k] at a⊢;by_cases l:20<az bK s i - i
    ·rw[if_pos l] at a;exact absurd a (λb=>by simp at b)
    ·rw[if_neg l];exact vl j f
  ·exfalso
   unfold one at a;simp only[f] at a;by_cases d:cr (cX s i)=true
   ·rw[if_pos d] at a;by_cases c:cI s i (az cr s i - i)<=9223372036854775807
    ·rw[if_pos c] at a;exact absurd a (λb=>by simp at b)
    ·rw[if_neg c] at a;exact absurd a (λb=>by simp at b)
   ·rw[if_neg d] at a;rw[if_neg dC] at a;by_cases c:(cX s i==39&&eN (cX s (i+1)))=true
    ·rw[if_pos c] at a;by_cases e:21<az bK s (i+1) - i
     ·rw[if_pos e] at a;exact absurd a (λb=>by simp at b)
     ·rw[if_neg e] at a;exact absurd a (λb=>by simp at b)
    ·rw[if_neg c] at a;by_cases e:aP s i=0
     ·rw[if_pos e] at a;exact absurd a (λb=>by simp at b)
     ·rw[if_neg e] at a;exact absurd a (λb=>by simp at b)
 ·show(cS s i (one s i)).size<=6000;unfold cS;split
  ·decide
  ·simp;omega
 ·show(one s i).n<=9223372036854775807;unfold one;by_cases d:cr (cX s i)=true
  ·rw[if_pos d];by_cases c:cI s i (az cr s i - i)<=9223372036854775807
   ·rw[if_pos c];exact c
   ·rw[if_neg c];exact zL _
  ·rw[if_neg d];split
   ·split
    ·exact zL _
    ·split<;>exact zL _
   ·split
    ·split<;>exact zL _
    ·split<;>exact zL _
theorem tM (t:s.size<=6000):∀(j i:Nat) (a:List gN) (b:List (List Value)),i<=s.size->O a<=i->(∀d∈a,d.ok)->lexFrom j s i (a.map gN.cells)=.inr b->
 ∃l:List gN,b=(l++[(⟨0,s.size,⟨#[]⟩,0⟩:gN)]).map gN.cells/\O l<=6000/\∀d∈l,d.ok:=by
 intro j;induction j with
 |zero=>
  intro i a b q u e h;have v:Sum.inr (a.map gN.cells++[fp 0 s.size ⟨#[]⟩ 0])=(Sum.inr b:pN):=h;refine⟨a,?_,oM,e⟩;have:=Sum.inr.inj v;rw[<-this];simp[gN.cells]
 |succ j m=>
  intro i a b q u e h;by_cases c:i<s.size
  ·cases n:fH (cX s i)
   ·by_cases o:cX s i=35
    ·rw[j3 c o] at h;have p:=eD iG s i q;have r:=jx iG s i;exact m _ a b p oM e h
    ·by_cases k:(one s i).err=0
     ·rw[mM c n o k] at h;have p:=kM c k;have r:=th t c k;refine m (one s i).stop (a++[⟨(one s i).kind,i,cS s i (one s i),(one s i).n⟩]) b p.2 (by simp;omega) ?_ (by simpa[gN.cells,fZ] using h);intro d f;rcases List.mem_append.1 f with f|f
      ·exact e d f
      ·obtain rfl:d=_:=sU f;exact r
     ·rw[mO c n o k] at h;exact absurd h sQ
   ·rw[gj c n] at h;exact m _ a b oM oM e h
  ·rw[mN c] at h;refine⟨a,?_,oM,e⟩;have:=Sum.inr.inj h;rw[<-this];simp[gN.cells]
theorem l8 {us:List (List Value)} (b:∀x∈us,O x=4):∀{idx:Nat} {x:List Value},us[idx]? =some x->∀a,a<4->us.flatten[idx*4+a]? =x[a]? :=by
 induction us with
 |nil=>intro idx x h;simp at h
 |cons c l d=>
  intro idx x h a e;have f:=b c (List.mem_cons_self ..);rw[List.flatten_cons]
  cases idx with
  |zero=>
   obtain rfl:c=x:=sU h;rw[List.getElem?_append_left oM];congr 1
   omega
  |succ idx=>
   rw[List.getElem?_append_right oM,f];have:=d (λj k=>b j (List.mem_cons_of_mem _ k)) (idx:=idx) (x:=x) (sU h) a e;rw[<-this];congr 1
   omega
def oX:gN:=⟨0,0,⟨#[]⟩,0⟩
def y8 (rs:List gN):Tk:=⟨O rs,λj=>((rs[j]?).getD oX).kind,λj=>((rs[j]?).getD oX).pos,λj=>((rs[j]?).getD oX).text,λj=>((rs[j]?).getD oX).num⟩
theorem oW {w':World} {base:Nat} {v:Value} {d:List (List Value)} (t:s.size<=6000) (hl:eM s=.inr d) (z:w'.ownsRow base 103 4 v (O d) d.flatten):
 ∃(r:Tk) (f l:Nat),v=J (some ⟨f,0,I⟩) r.len l/\base<=f/\r.Good/\Row w' f r:=by
 have A:lexFrom s.size s 0 ([].map gN.cells)=.inr d:=by
  unfold eM at hl;rw[if_neg oM] at hl;exact hl
 obtain⟨u,m,M,B⟩:=tM t s.size 0 [] d (zL _) (zL _) (λj k=>by cases k) A;obtain⟨b,n⟩:∃b,b=u++[(⟨0,s.size,⟨#[]⟩,0⟩:gN)]:=⟨_,Q⟩;rw[<-n] at m
 have C:∀j∈b,j.ok:=by
  intro j k;rw[n] at k;rcases List.mem_append.1 k with k|k
  ·exact B j k
  ·obtain rfl:j=_:=sU k;exact⟨λh=>absurd h (show ¬(0:Nat)=2 by decide),t,show(⟨#[]⟩:ByteArray).size<=6000 by decide,zL _⟩
 have o:∀a:Nat,((b[a]?).getD oX).ok:=by
  intro a
  cases h:b[a]? with
  |none=>exact⟨λh=>absurd h dC,dC,dC,dC⟩
  |some j=>exact C j (mG h)
 have N:O b=O u+1:=by rw[n];simp
 have D:O d=O b:=by rw[m];simp
 rcases z.2 with⟨_,P⟩|⟨f,l,cur,h1,hb,hg,hnc,hcm,hcs,htake⟩
 ·omega
 ·refine⟨y8 b,f,l,?_,hb,⟨λa c=>(o a).name c,by show 0<O b;omega,by show O b<=6001;omega,?_,λa=>(o a).aO,λa=>(o a).pQ,λa=>(o a).xX⟩,?_⟩
  ·show v=J (some ⟨f,0,I⟩) (O b) l;rw[h1,D]
  ·show((b[O b - 1]?).getD oX).kind=0;have:b[O b - 1]? =some ⟨0,s.size,⟨#[]⟩,0⟩:=by rw[n];simp
   rw[this];rfl
  ·have F:∀x∈d,O x=4:=by
    intro x p;rw[m] at p;obtain⟨j,_,rfl⟩:=List.mem_map.1 p;rfl
   have q:∀a:Nat,a<O b->∀e:Nat,e<4->w'.cell? ⟨f,a*4+e,I⟩=((b[a]?).getD oX).cells[e]? :=by
    intro a c e G;have y:b[a]? =some b[a]:=gG c;have p:d[a]? =some b[a].cells:=by rw[m,List.getElem?_map,y];rfl
    have H:=l8 F p e G;have K:a*4+e<O d*4:=oM;rw[cell_of_row w' f (a*4+e) cur 103 (0,0) hg];have L:(cur.toList.take (O d*4))[a*4+e]? =cur[a*4+e]? :=by rw[List.getElem?_take,if_pos K];simp
    rw[<-L,htake,H,y];rfl
   exact⟨(gE hg).1,λa c=>q a c 0 dC,λa c=>q a c 1 dC,λa c=>q a c 2 dC,λa c=>q a c 3 dC⟩
end
section
variable{a k:Int} {cap i rb tb:Nat} {t:Tk} {W w w0:World}
def iw (w0:World) (e:Ending) (w':World):Prop:=
 ∃(kind pos n m:Int) (name:ByteArray) (ko:Option Addr) (kl kc:Nat) (k a:Int),e=.returned (.tuple #[.agg (ae kind pos n m name (J ko kl kc)),.agg #[.int .i64 k,.int .i64 a]])/\Below (E (U w0)) w0 w'/\(k=0->kind=0/\eC (E (U w0)) True w' (ae kind pos n m name (J ko kl kc)).toList/\∀f,aG f w' (ae kind pos n m name (J ko kl kc)).toList<=96100)
structure PF (w0 w:World) (rb tb cap:Nat) (t:Tk):Prop where
 rd:Rd w rb tb cap t 0 0 0
 z1:dO w (E (U w0)) aB
 z2:w.heap[E (U w0)+1]? =some (Ob #[.int .i64 0,.int .i64 0] 33 (0,0))
 below:Below (E (U w0)) w0 w
 lt:E (U w0)+1<rb
section
variable{w0 w W:World} {rb tb cap j:Nat} {t:Tk} {kj aj:Int}
theorem PF.dH (b:PF w0 w rb tb cap t) (c:St w rb tb cap t W j kj aj):dO W (E (U w0)) aB/\W.heap[E (U w0)+1]? =some (Ob #[.int .i64 0,.int .i64 0] 33 (0,0))/\E (U w0)≠rb/\E (U w0)+1≠rb/\E (U w0)≠E (U w0)+1:=by
 have d:=b.lt;have e:=c.lb;exact⟨b.z1.kp c.kp oM,(c.kp.block _ oM oM).trans b.z2,oM,oM,oM⟩
theorem PF.down (d:PF w0 w rb tb cap t) (b:St w rb tb cap t W j kj aj):Below (E (U w0)) w0 W:=by
 have f:=d.lt;have l:=b.lb;have c:=d.below;exact⟨b.kp.os.trans c.os,b.kp.tape.trans c.tape,b.kp.output.trans c.output,lT c.size b.kp.size,λk e=>(b.kp.block k (oH c.size) oM).trans (c.block k e)⟩
end
theorem nR {b:Array Value} {e c:Nat} (r:b.getD 2 undef=.pointer (some ⟨e,0,I⟩)) (s:b.getD 3 undef=.pointer (some ⟨c,0,I⟩)) {c0 c1 c2 c3 f l m n o p q:Value} (u:dO W e #[c0,c1,c2,c3,f,l,m,n,o,p,q]) (v:W.heap[c]? =some (Ob #[.int .i64 k,.int .i64 a] 33 (0,0))):
 (results Tryz.f12 b).run Tryz.prog W=.ok (.tuple #[.agg #[c0,c1,c2,c3,f,l,m,n,o,p,q],.agg #[.int .i64 k,.int .i64 a]]) W:=by
 have x:=u.cell;have y:∀d,W.cell? ⟨c,d,I⟩=(#[.int .i64 k,.int .i64 a]:Array Value)[d]? :=λd=>cell_of_row _ _ d _ 33 (0,0) v;have z:b[2]?.getD undef=.pointer (some ⟨e,0,I⟩):=sU r;have A:b[3]?.getD undef=.pointer (some ⟨c,0,I⟩):=sU s;simp[results,Tryz.results12,z,A,go_sem,x,y]
theorem jz {c:Act} {b:World} (d:c.defers=[]) (e:c.tmps.getD 2 undef=.pointer (some ⟨E (U w0),0,I⟩)) (l:c.tmps.getD 3 undef=.pointer (some ⟨E (U w0)+1,0,I⟩)) {kind pos n m:Int} {name:ByteArray} {ko:Option Addr} {kl kc:Nat}
 (o:dO b (E (U w0)) (ae kind pos n m name (J ko kl kc))) (p:b.heap[E (U w0)+1]? =some (Ob #[.int .i64 k,.int .i64 a] 33 (0,0))) (q:Below (E (U w0)) w0 b) (r:k=0->kind=0/\eC (E (U w0)) True b (ae kind pos n m name (J ko kl kc)).toList/\∀f,aG f b (ae kind pos n m name (J ko kl kc)).toList<=96100):
  bodyPost Tryz.prog Tryz.f12 (iw w0) .ret c b:=
  bodyPost_ret (nR e l o p) d ⟨kind,pos,n,m,name,ko,kl,kc,k,a,Q,q,r⟩
theorem jg {b:Nat} (r:dO W b aB) (o:W.heap[b+1]? =some (Ob #[.int .i64 0,.int .i64 0] 33 (0,0))) (c0 c1 c2 c3 c d e f l m n:Value) (k a:Int):
 dO (((bA W b c0 c1 c2 c3 c d e f l m n).setCell ⟨b+1,0,I⟩ (.int .i64 k)).setCell ⟨b+1,1,I⟩ (.int .i64 a)) b #[c0,c1,c2,c3,c,d,e,f,l,m,n]/\(((bA W b c0 c1 c2 c3 c d e f l m n).setCell ⟨b+1,0,I⟩ (.int .i64 k)).setCell ⟨b+1,1,I⟩ (.int .i64 a)).heap[b+1]? =some (Ob #[.int .i64 k,.int .i64 a] 33 (0,0)):=by
 have q:b≠b+1:=oM;refine⟨((dO.bA r c0 c1 c2 c3 c d e f l m n).other (p:=⟨b+1,0,I⟩) q _).other (p:=⟨b+1,1,I⟩) q _,?_⟩;have s:(bA W b c0 c1 c2 c3 c d e f l m n).heap[b+1]? =W.heap[b+1]? :=al.bA (S:=λu=>u=b+1) oM c0 c1 c2 c3 c d e f l m n (b+1) Q (gE o).1
 have v:((bA W b c0 c1 c2 c3 c d e f l m n).setCell ⟨b+1,0,I⟩ (.int .i64 k)).heap[b+1]? =some (Ob #[.int .i64 k,.int .i64 0] 33 (0,0)):=by
  rw[heap_setCell_same _ (b+1) 0 _ 33 _ (s.trans o)];rfl
 rw[heap_setCell_same _ (b+1) 1 _ 33 _ v];rfl
theorem kh (h:Below (E (U w0)) w0 W) (c0 c1 c2 c3 b c f l m n o d e:Value):Below (E (U w0)) w0 (((bA W (E (U w0)) c0 c1 c2 c3 b c f l m n o).setCell ⟨E (U w0)+1,0,I⟩ d).setCell ⟨E (U w0)+1,1,I⟩ e):=
 ((Below.bA h (lR _) c0 c1 c2 c3 b c f l m n o).setCell (p:=⟨E (U w0)+1,0,I⟩) (Nat.le_succ _) d).setCell (p:=⟨E (U w0)+1,1,I⟩) (Nat.le_succ _) e
theorem tP (h:Rd w rb tb cap t i k a) (b:Nat) (c:b<=2) (q:Int) (d:cq t i k b q=true):Calls Tryz.prog 22 #[.pointer (some ⟨rb,0,I⟩),.int .i64 b,.int .i64 q] w λe f=>e=.returned (.bool true)/\Below (E (U w)) w f:=by
 have:=bH h b c q;rwa [d] at this
theorem vt (h:Rd w rb tb cap t i k a) (b:Nat) (c:b<=2) (q:Int) (d:cq t i k b q=false):Calls Tryz.prog 22 #[.pointer (some ⟨rb,0,I⟩),.int .i64 b,.int .i64 q] w λe f=>e=.returned (.bool false)/\Below (E (U w)) w f:=by
 have:=bH h b c q;rwa [d] at this
theorem vq {s:ByteArray} {k:Nat} (h:eM s=.inl (k,i)):k≠0:=by
 have o:∀(d b:Nat) (e:List (List Value)),lexFrom d s b e=.inl (k,i)->k≠0:=by
  intro d;induction d with
  |zero=>intro b e h;exact absurd h (by simp[lexFrom])
  |succ d f=>
   intro b e h;by_cases c:b<s.size
   ·cases l:fH (cX s b)
    ·by_cases m:cX s b=35
     ·rw[j3 c m] at h;exact f _ _ h
     ·by_cases n:(one s b).err=0
      ·rw[mM c l m n] at h;exact f _ _ h
      ·rw[mO c l m n] at h;simp at h;rw[<-h.1];exact n
    ·rw[gj c l] at h;exact f _ _ h
   ·rw[mN c] at h;exact absurd h sQ
 unfold eM at h;split at h
 ·simp at h;omega
 ·exact o _ _ _ h
end
section
variable{act:Act} {name:ByteArray} {a k kind m n pos:Int} {kc kl:Nat} {ko:Option Addr} {W w0:World}
theorem pO (w0:World):dO ((w0.alloc (Ob aB 46)).alloc (Ob #[.int .i64 0,.int .i64 0] 33)) (E (U w0)) aB/\((w0.alloc (Ob aB 46)).alloc (Ob #[.int .i64 0,.int .i64 0] 33)).heap[E (U w0)+1]? =some (Ob #[.int .i64 0,.int .i64 0] 33 (0,0))/\Below (E (U w0)) w0 ((w0.alloc (Ob aB 46)).alloc (Ob #[.int .i64 0,.int .i64 0] 33)):=by
 refine⟨(dO.new w0 aB).alloc _,?_,bV w0 _ _⟩;have:=heap_alloc_new (w0.alloc (Ob aB 46)) (Ob #[.int .i64 0,.int .i64 0] 33);simpa using this
theorem mB (c:act.defers=[]) (d:act.tmps.getD 2 undef=.pointer (some ⟨E (U w0),0,I⟩)) (e:act.tmps.getD 3 undef=.pointer (some ⟨E (U w0)+1,0,I⟩)) (o:Obj)
 (hS:dO W (E (U w0)) (ae kind pos n m name (J ko kl kc))/\W.heap[E (U w0)+1]? =some (Ob #[.int .i64 k,.int .i64 a] 33 (0,0))) (b:Below (E (U w0)) w0 W) (f:k≠0):
  bodyPost Tryz.prog Tryz.f12 (iw w0) .ret act (W.alloc o).drew:=
  jz c d e (hS.1.alloc o).drew ((Below.heap_alloc _ _ _ (gE hS.2).1).trans hS.2) ((b.alloc b.size o).drew) (λi=>absurd i f)
theorem jL (b:act.defers=[]) (c:act.tmps.getD 2 undef=.pointer (some ⟨E (U w0),0,I⟩)) (d:act.tmps.getD 3 undef=.pointer (some ⟨E (U w0)+1,0,I⟩))
 (hS:dO W (E (U w0)) (ae kind pos n m name (J ko kl kc))/\W.heap[E (U w0)+1]? =some (Ob #[.int .i64 k,.int .i64 a] 33 (0,0))) (e:Below (E (U w0)) w0 W) (f:k≠0):
  bodyPost Tryz.prog Tryz.f12 (iw w0) .ret act W.drew:=
  jz b c d hS.1.drew hS.2 e.drew (λi=>absurd i f)
theorem jK (b:act.defers=[]) (c:act.tmps.getD 2 undef=.pointer (some ⟨E (U w0),0,I⟩)) (d:act.tmps.getD 3 undef=.pointer (some ⟨E (U w0)+1,0,I⟩))
 (hS:dO W (E (U w0)) (ae kind pos n m name (J ko kl kc))/\W.heap[E (U w0)+1]? =some (Ob #[.int .i64 k,.int .i64 a] 33 (0,0))) (e:Below (E (U w0)) w0 W) (i:k=0->kind=0/\eC (E (U w0)) True W (ae kind pos n m name (J ko kl kc)).toList/\∀f,aG f W (ae kind pos n m name (J ko kl kc)).toList<=96100):
  bodyPost Tryz.prog Tryz.f12 (iw w0) .ret act W:=jz b c d hS.1 hS.2 e i
theorem rj (s:ByteArray) (w0:World) (r:s.size<=maxLen) {kk ii:Nat} (l:eM s=.inl (kk,ii)):Calls Tryz.prog 12 #[.string s] w0 (iw w0):=by
 have v:=vq l;have t:(((kk:Nat):Int)==0)=false:=by simp;omega
 obtain⟨o,p,i⟩:=pO w0;go_enter Tryz.func12,Tryz.ntmps12
 go_wp2_with fail;refine(jI s _ r).mono ?_;rintro x c ⟨j,d⟩;unfold fQ at j;rw[l] at j;obtain rfl:=j;have e:dO c (E (U w0)) aB:=o.below d;have f:c.heap[E (U w0)+1]? =some (Ob #[.int .i64 0,.int .i64 0] 33 (0,0)):=(d.block _ sQ).trans p;have q:Below (E (U w0)) w0 c:=i.trans (d.mono i.size);clear o p i d;have u:Hid (Below (E (U w0)) w0 c):=q;clear q;have y:=e.cell;have z:=e.fz;have A:=e.lt;have B:∀b,c.cell? ⟨E (U w0)+1,b,I⟩=(#[.int .i64 0,.int .i64 0]:Array Value)[b]? :=λb=>cell_of_row _ _ b _ 33 (0,0) f;have C:∀b,c.frozen? ⟨E (U w0)+1,b,I⟩=false:=λb=>frozen_of_row _ _ b _ 33 f;have D:=(gE f).1;have F:E (U w0)≠E (U w0)+1:=oM;have G:E (U w0)+1≠E (U w0):=oM;go_wp2_with fail;go_region
 all_goals
  go_wp2_with fail;go_light;exact mB (kind:=0) (pos:=0) (n:=0) (m:=0) (name:=⟨#[]⟩) (ko:=I) (kl:=0) (kc:=0) (k:=(kk:Int)) (a:=(ii:Int)) Q Q Q (Ob #[.int .i64 (kk:Int),.int .i64 (ii:Int)] 33) (jg e f (.int .i64 0) (.int .i64 0) (.int .i64 0) (.int .i64 0) (.string ⟨#[]⟩) (J I 0 0) (.int .i64 0) (.int .i64 0) (J I 0 0) (J I 0 0) (J I 0 0) (kk:Int) (ii:Int)) (kh u.out (.int .i64 0) (.int .i64 0) (.int .i64 0) (.int .i64 0) (.string ⟨#[]⟩) (J I 0 0) (.int .i64 0) (.int .i64 0) (J I 0 0) (J I 0 0) (J I 0 0) (.int .i64 (kk:Int)) (.int .i64 (ii:Int))) (sU t)
end
theorem qT {a w W:World} {rb r s:Nat} {t:Tk} (u:PF a w rb r s t) (hl:rb<E (U w)) {o:List Nat} {kv:Value} {g:Prop} {h:Nat} {cs:List Value} (p:isNode (Out w o kv) g h W cs) (v:∀f,aG f W cs<=96100) (x:g) (c0 c1 c2 c3 c i j k l m n d e:Value):
 eC (E (U a)) True (((bA W (E (U a)) c0 c1 c2 c3 c i j k l m n).setCell ⟨E (U a)+1,0,I⟩ d).setCell ⟨E (U a)+1,1,I⟩ e) cs/\∀f,aG f (((bA W (E (U a)) c0 c1 c2 c3 c i j k l m n).setCell ⟨E (U a)+1,0,I⟩ d).setCell ⟨E (U a)+1,1,I⟩ e) cs<=96100:=by
 have z:=u.lt
 have q:al (Out w o kv) W (((bA W (E (U a)) c0 c1 c2 c3 c i j k l m n).setCell ⟨E (U a)+1,0,I⟩ d).setCell ⟨E (U a)+1,1,I⟩ e):=
  ((al.bA (λb=>oH b.1) c0 c1 c2 c3 c i j k l m n).trans (al.setCell _ ⟨E (U a)+1,0,I⟩ d (λb=>by have:=b.1;simp only at this;omega)) sQ).trans (al.setCell _ ⟨E (U a)+1,1,I⟩ e (λb=>by have:=b.1;simp only at this;omega)) sQ
 exact⟨⟨h,isNode.weaken (λA y=>oH y.1) (λ_=>x) _ _ (isNode.frame q _ _ p)⟩,λf=>by rw[aQ q _ _ p f];exact v f⟩
theorem rh (s:ByteArray) (c:World) (aI:s.size<=maxLen) {aJ:List (List Value)} (A:eM s=.inr aJ):Calls Tryz.prog 12 #[.string s] c (iw c):=by
 have aK:s.size<=6000:=by
  unfold eM at A;split at A
  ·exact absurd A sQ
  ·omega
 obtain⟨ag,ah,V⟩:=pO c;go_enter Tryz.func12,Tryz.ntmps12
 go_wp2_with fail;refine(jI s _ aI).mono ?_;rintro d e ⟨W,z⟩;unfold fQ at W;rw[A] at W;obtain⟨H,rfl,ai⟩:=W;obtain⟨t,X,Y,rfl,bd,aj,K⟩:=oW aK A ai;have ak:dO e (E (U c)) aB:=ag.below z;have Z:e.heap[E (U c)+1]? =some (Ob #[.int .i64 0,.int .i64 0] 33 (0,0)):=(z.block _ sQ).trans ah;have ao:Below (E (U c)) c e:=V.trans (z.mono V.size);have L:Hid (Below (E (U c)) c e):=ao;have aa:Hid (E (U c)+1<E (U e)):=(gE Z).1;clear ag ah V z ao ai;go_upto_region 4 with fail
 go_cut [6] (λaL aN=>∃M,aL=.pointer (some ⟨M,0,I⟩)/\PF c aN M X Y t)
 case first=>
  go_wp2_with fail;go_meet;refine⟨E (U e)+1,Q,⟨?_,K.fF ?_,?_,aj,aj.some_⟩,(ak.alloc _).alloc _,?_,?_,?_⟩
  ·have:=heap_alloc_new (e.alloc (Ob #[.int .i64 0,.int .i64 0] 33)) (Ob #[J (some ⟨X,0,I⟩) t.len Y,.int .i64 0,.int .i64 0,.int .i64 0] 80);simpa using this
  ·have u:=K.lt;exact(Below.heap_alloc _ _ _ (by simp;omega)).trans (Below.heap_alloc _ _ _ u)
  ·have u:=K.lt;omega
  ·have u:=aa.out;exact((Below.heap_alloc _ _ _ (by simp;omega)).trans (Below.heap_alloc _ _ _ u)).trans Z
  ·exact(L.out.alloc L.out.size _).alloc (by have:=L.out.size;simp;omega) _
  ·have u:=aa.out;omega
 case rest=>
  obtain⟨M,rfl,v⟩:=hcut;clear ak Z L aa K;obtain⟨w,aO⟩:∃q,q=wc:=⟨_,Q⟩;subst aO;have bf:=v.rd.l;have h:=v.rd;have b:=Mz.start (wt:=1) h;have ap:(0:Int)<=(t.pos 0:Int)/\(t.pos 0:Int)<=7000:=oH (h.ar.aO 0);go_wp2_with fail;refine b.lf (aE · 0) ?_;clear b;intro e b;go_wp2_with fail;go_loopg [] (ml t 0 0) (λg wr=>∃(H:Value) (l:List (List Value)) (r:Nat) (j x:Int),g=ml t r j/\ez 4 l r j/\(j=0->∀q∈l.map aA,q=1)/\Mz 1 w M X Y t 0 0 False (0) wr r j x [(E (U e),nk 0 (t.pos 0) H)] [] H l)
  case atStart=>exact⟨nl,[],0,0,0,Q,⟨λ_=>by simp,sQ⟩,(λ_ q aP=>by cases aP),((b.ne' (E (U e)) (nk 0 (t.pos 0) nl)).less oM)⟩
  case round=>
   clear b;obtain⟨H,l,r,j,x,aq,hF,ar,b⟩:=hrel;have au:=b.st.rd.lt;have bg:(0:Int)<=(t.pos r:Int)/\(t.pos r:Int)<=7000:=oH (h.ar.aO r);have aR:Hid (gk=ml t r j):=aq;clear aq;obtain⟨B,D,rfl⟩:=b.shape;have f:=b.f1
   cases av:(j==0)
   ·go_wp2_with fail;refine b.lf aV ?_;clear b f;intro bh b;have f:=b.f1;have aw:j≠0:=sU av;go_wp2_with fail;refine b.lf aV ?_;clear b f;intro ab b;have f:=b.f1;obtain⟨o,p,aS,aT,ac⟩:=v.dH b.st;have aU:=o.cell;have aW:=o.fz;have aX:=o.lt;have aY:∀i,ab.cell? ⟨E (U c)+1,i,I⟩=(#[.int .i64 0,.int .i64 0]:Array Value)[i]? :=λi=>cell_of_row _ _ i _ 33 (0,0) p;have aZ:∀i,ab.frozen? ⟨E (U c)+1,i,I⟩=false:=λi=>frozen_of_row _ _ i _ 33 p;have a0:=(gE p).1;have a1:E (U c)+1≠E (U c):=λd=>ac d.symm;obtain⟨ad,ae⟩:E (U e)≠E (U c)/\E (U e)≠E (U c)+1:=by have u:=v.lt;have ax:=h.l;have N:=(b.dt.eG 0 _ Q).1;simp only[jb] at N;omega
    have a2:E (U c)≠E (U e):=λd=>ad d.symm;have a3:E (U c)+1≠E (U e):=λd=>ae d.symm;have F:Hid (Below (E (U c)) c ab):=v.down b.st;have bi:=b.st.rd.r2;have bj:=b.st.rd.r3;have bk:=b.st.rd.l;go_wp2_with fail;go_region
    all_goals
     go_wp2_with fail;go_light;first
     |exact jL (kind:=0) (pos:=0) (n:=0) (m:=0) (name:=⟨#[]⟩) (ko:=I) (kl:=0) (kc:=0) (k:=j) (a:=x) Q Q Q (jg o p (.int .i64 0) (.int .i64 0) (.int .i64 0) (.int .i64 0) (.string ⟨#[]⟩) nl (.int .i64 0) (.int .i64 0) nl nl nl j x) (kh F.out (.int .i64 0) (.int .i64 0) (.int .i64 0) (.int .i64 0) (.string ⟨#[]⟩) nl (.int .i64 0) (.int .i64 0) nl nl nl (.int .i64 j) (.int .i64 x)) aw
     |exact jL (kind:=0) (pos:=0) (n:=0) (m:=0) (name:=⟨#[]⟩) (ko:=I) (kl:=0) (kc:=0) (k:=j) (a:=x) Q Q Q (stored_b o p (.int .i64 0) (.int .i64 0) (.int .i64 0) (.int .i64 0) (.string ⟨#[]⟩) nl (.int .i64 0) (.int .i64 0) nl nl nl j x) (below_b F.out (.int .i64 0) (.int .i64 0) (.int .i64 0) (.int .i64 0) (.string ⟨#[]⟩) nl (.int .i64 0) (.int .i64 0) nl nl nl (.int .i64 j) (.int .i64 x)) aw
   ·obtain rfl:j=0:=sU av;have z:Hid ((0:Nat)<=r):=zL _;have af:Hid (∀q∈l.map aA,q=1):=ar Q;clear ar;have a4:O l<=6005:=oI (hF.1 Q) h.ar.bB;replace b:=b.bU;go_wp2_with fail;refine b.lf aV ?_;clear b f;intro bl b;have f:=b.f1
    cases P:cq t r 0 0 0
    ·go_wp2_with fail;refine b.lf (vt · 0 dC 0 P) ?_;clear b f;intro bm b;have f:=b.f1;clear P;go_wp2_with fail;go_region_law (first|(refine b.as (E (U a5)) (lT a4 dC) ?_;clear b f;intro bn ay az b;have f:=b.f1)|(go_simp;refine b.drew.nd (vm yA ·) ?_;clear b f;intro a5 a6 aC aD a7 a8 _ b;have f:=b.f1))
     all_goals
      go_wp2_with fail;replace b:=b.ek (J ay (O l+1) az);go_roundg (ml t aC aD)
      case measure=>rw[aR.out];exact bO au b.le (b.go trivial)
      case rel=>exact⟨(J ay (O l+1) az),(l++[a6.t]),aC,aD,a7,Q,ez.snoc (t:=t) hF Q au h.ar (b.go trivial),(λd=>by rw[List.map_append];exact aM (C:=λq=>q=1) af.out (a8 d)),b.aD (s':=0) z.out (λ_=>rfl) (λd=>absurd d (λq=>q)) oM⟩
    ·go_wp2_with fail;refine b.lf (tP · 0 dC 0 P) ?_;clear b f;intro bo b;have f:=b.f1;clear P;go_wp2_with fail;refine b.lf aV ?_;clear b f;intro a9 b;have f:=b.f1;have aF:∀y,aG y a9 (nk 0 (t.pos 0) (J B (O l) D)).toList<=96100:=λy=>by have u:=((b.fk 0 (t.pos 0) (lT hF.2 dC) ap (λd=>Gr.qg af.out))).sz Q y;have ax:=b.st.rd.lt;have N:=h.ar.bB;rw[du,cU,du,jl] at u;omega
     obtain⟨a',aH⟩:=((b.fk 0 (t.pos 0) (lT hF.2 dC) ap (λd=>Gr.qg af.out))).dt.all;have R:=aH _ (.inr (List.mem_cons_self ..));clear aH;go_wp2_with fail;refine(ug a' R 1 dC dC).mono ?_;rintro d S ⟨G,rfl,bp,T⟩;have ba:=isNode.frame (al.below T) _ _ R;have bb:∀y,aG y S (nk 0 (t.pos 0) (J B (O l) D)).toList<=96100:=λy=>by rw[aQ (al.below T) _ _ R y];exact aF y
     replace b:=b.below T;clear R T aF;replace f:=b.f1;obtain⟨o,p,aS,aT,ac⟩:=v.dH b.st;have aU:=o.cell;have aW:=o.fz;have aX:=o.lt;have aY:∀i,S.cell? ⟨E (U c)+1,i,I⟩=(#[.int .i64 0,.int .i64 0]:Array Value)[i]? :=λi=>cell_of_row _ _ i _ 33 (0,0) p;have aZ:∀i,S.frozen? ⟨E (U c)+1,i,I⟩=false:=λi=>frozen_of_row _ _ i _ 33 p;have a0:=(gE p).1;have a1:E (U c)+1≠E (U c):=λd=>ac d.symm;obtain⟨ad,ae⟩:E (U e)≠E (U c)/\E (U e)≠E (U c)+1:=by have u:=v.lt;have ax:=h.l;have N:=(b.dt.eG 0 _ Q).1;simp only[jb] at N;omega
     have a2:E (U c)≠E (U e):=λd=>ad d.symm;have a3:E (U c)+1≠E (U e):=λd=>ae d.symm;have F:Hid (Below (E (U c)) c S):=v.down b.st;by_cases bc:0<=G
     ·go_wp2_with fail;go_light;exact jK (kind:=0) (pos:=0) (n:=0) (m:=0) (name:=⟨#[]⟩) (ko:=I) (kl:=0) (kc:=0) (k:=5) (a:=G) Q Q Q (jg o p (.int .i64 0) (.int .i64 0) (.int .i64 0) (.int .i64 0) (.string ⟨#[]⟩) nl (.int .i64 0) (.int .i64 0) nl nl nl 5 G) (kh F.out (.int .i64 0) (.int .i64 0) (.int .i64 0) (.int .i64 0) (.string ⟨#[]⟩) nl (.int .i64 0) (.int .i64 0) nl nl nl (.int .i64 5) (.int .i64 G)) (λd=>absurd d dC)
     ·have bq:decide (0<=G)=false:=sU bc;go_wp2_with fail;go_light;exact jK (kind:=0) (pos:=(t.pos 0:Int)) (n:=0) (m:=0) (name:=⟨#[]⟩) (ko:=B) (kl:=O l) (kc:=D) (k:=0) (a:=0) Q Q Q (jg o p (.int .i64 0) (.int .i64 (t.pos 0)) (.int .i64 0) (.int .i64 0) (.string ⟨#[]⟩) (J B (O l) D) (.int .i64 0) (.int .i64 0) nl nl nl 0 0) (kh F.out (.int .i64 0) (.int .i64 (t.pos 0)) (.int .i64 0) (.int .i64 0) (.string ⟨#[]⟩) (J B (O l) D) (.int .i64 0) (.int .i64 0) nl nl nl (.int .i64 0) (.int .i64 0)) (λ_=>⟨Q,qT v h.l ba bb (by first|rfl|trivial) _ _ _ _ _ _ _ _ _ _ _ _ _⟩)
theorem wK (s:ByteArray) (a:World) (b:s.size<=maxLen):Calls Tryz.prog 12 #[.string s] a (iw a):=by
 cases c:eM s with
 |inl d=>exact rj s a b (kk:=d.1) (ii:=d.2) c
 |inr e=>exact rh s a b c
section
variable{kind:Int} {ls:List Int} {xs:List Value} {f h n size:Nat} {S S':Nat->Prop} {vs:VV} {av lv v:Value} {w w':World}
def ro (w:World) (S:Nat->Prop) (size:Nat) (v:Value) (n:Nat) (xs:List Value):Prop:=
 ∃a c,v=J a n c/\O xs=n*size/\(0<n->∃g,a=some ⟨g,0,I⟩/\S g/\g<E (U w)/\∀j,j<n*size->w.cell? ⟨g,j,I⟩=xs[j]?)
theorem ro.frame (h:ro w S size v n xs) (c:al S w w') (q:E (U w)<=E (U w')):ro w' S size v n xs:=by
 obtain⟨a,d,e,i,j⟩:=h;refine⟨a,d,e,i,λk=>?_⟩;obtain⟨g,l,hS,m,o⟩:=j k;exact⟨g,l,hS,oM,λb p=>(World.cell?_of_block (w:=w) (a:=⟨g,b,I⟩) (c g hS m)).trans (o b p)⟩
theorem ro.weaken (h:ro w S size v n xs) (c:∀b,S b->b<E (U w)->S' b):ro w S' size v n xs:=by
 obtain⟨d,e,i,j,k⟩:=h;refine⟨d,e,i,j,λl=>?_⟩;obtain⟨g,m,hS,a,o⟩:=k l;exact⟨g,m,c g hS a,a,o⟩
theorem ro.bJ {base e:Nat} (h:w.ownsRow base e size v n xs) (c:∀b,v.ownBlock=some b->S b):ro w S size v n xs:=by
 rcases h.2 with⟨a,d⟩|⟨g,cap,cur,a,hb,hg,hnc,hcm,hcs,htake⟩
 ·exact⟨I,0,by rw[a,d],h.1,λk=>by omega⟩
 ·refine⟨_,_,a,h.1,λ_=>⟨g,Q,c g (by rw[a];rfl),(gE hg).1,λi j=>?_⟩⟩;rw[cell_of_row w g i cur e (0,0) hg,<-htake,List.getElem?_take,if_pos j];simp
abbrev ai (kind n:Int) (lv av:Value):Array Value:=#[vN kind,vN n,lv,av]
def aC (ls:List Int):List Value:=ls.map (λx=>vN x)
def af (S:Nat->Prop) (G:Int->Int->Nat->Nat->Prop):Nat->World->List Value->Prop
 |0,_,_=>False
 |h+1,w,cs=>∃(kind n:Int) (lv av:Value) (ls:List Int) (vs:VV),cs=(ai kind n lv av).toList/\ro w S 1 lv (O ls) (aC ls)/\ro w S 4 av (O vs) vs.flatten/\O ls<=30000/\O vs<=30000/\G kind n (O ls) (O vs)/\∀x∈vs,af S G h w x
section
variable{S S':Nat->Prop} {G:Int->Int->Nat->Nat->Prop} {w w':World}
theorem af.frame (a:al S w w') (b:E (U w)<=E (U w')):(h:Nat)->(cs:List Value)->af S G h w cs->af S G h w' cs
 |0,_,hn=>hn
 |h+1,_,⟨kind,n,lv,av,ls,vs,h1,h2,h3,h4,h5,h6,h7⟩=>⟨kind,n,lv,av,ls,vs,h1,h2.frame a b,h3.frame a b,h4,h5,h6,λc d=>af.frame a b h c (h7 c d)⟩
theorem af.weaken (a:∀b,S b->b<E (U w)->S' b):(h:Nat)->(cs:List Value)->af S G h w cs->af S' G h w cs
 |0,_,hn=>hn
 |h+1,_,⟨kind,n,lv,av,ls,vs,h1,h2,h3,h4,h5,h6,h7⟩=>⟨kind,n,lv,av,ls,vs,h1,h2.weaken a,h3.weaken a,h4,h5,h6,λc d=>af.weaken a h c (h7 c d)⟩
theorem af.up:(h:Nat)->(cs:List Value)->af S G h w cs->af S G (h+1) w cs
 |0,_,hn=>absurd hn (λh=>h)
 |h+1,_,⟨kind,n,lv,av,ls,vs,h1,h2,h3,h4,h5,h6,h7⟩=>⟨kind,n,lv,av,ls,vs,h1,h2,h3,h4,h5,h6,λa b=>af.up h a (h7 a b)⟩
theorem af.le {cs:List Value} (a:af S G h w cs):(h':Nat)->h<=h'->af S G h' w cs
 |0,hl=>by
  obtain rfl:h=0:=oM;exact a
 |h'+1,hl=>by
  rcases Nat.lt_or_ge h' h with b|hge
  ·obtain rfl:h=h'+1:=oM;exact a
  ·exact af.up h' cs (af.le a h' hge)
theorem af.four:(h:Nat)->(cs:List Value)->af S G h w cs->O cs=4
 |0,_,hn=>absurd hn (λa=>a)
 |_+1,_,⟨_,_,_,_,_,_,h1,_⟩=>by rw[h1];rfl
end
theorem lZ {us:VV} (b:∀x∈us,O x=size):∀{idx:Nat} {x:List Value},us[idx]? =some x->∀a,a<size->us.flatten[idx*size+a]? =x[a]? :=by
 induction us with
 |nil=>intro idx x h;simp at h
 |cons c l d=>
  intro idx x h a e;have i:=b c (List.mem_cons_self ..);rw[List.flatten_cons]
  cases idx with
  |zero=>
   obtain rfl:c=x:=sU h;rw[List.getElem?_append_left oM];congr 1
   omega
  |succ idx=>
   have m:(idx+1)*size=idx*size+size:=by rw[Nat.add_mul,Nat.one_mul]
   rw[List.getElem?_append_right oM,i];have:=d (λj k=>b j (List.mem_cons_of_mem _ k)) (idx:=idx) (x:=x) (sU h) a e;rw[<-this];congr 1
   omega
theorem iF (ls:List Int):(ls.map (λa=>[Value.int .i64 a])).flatten=aC ls:=by
 unfold aC;induction ls with
 |nil=>rfl
 |cons c d b=>simp only[List.map_cons,List.flatten_cons];rw[b];rfl
def rowAt (w:World) (size:Nat):Value->VV
 |J (some p) n _=>(List.range n).map (λi=>(List.range size).map (λo=>(w.cell? ⟨p.block,i*size+o,I⟩).getD undef))
 |_=>[]
theorem gY (h:ro w S size v (O vs) vs.flatten) (hl:∀x∈vs,O x=size):rowAt w size v=vs:=by
 obtain⟨j,p,rfl,q,k⟩:=h;rcases Nat.eq_zero_or_pos (O vs) with d|d
 ·obtain rfl:vs=[]:=List.eq_nil_of_length_eq_zero d
  cases j<;>rfl
 ·obtain⟨g,rfl,_,_,l⟩:=k d;unfold rowAt;apply List.ext_getElem?
  intro a;by_cases c:a<O vs
  ·have e:vs[a]? =some vs[a]:=gG c;have r:=hl _ (List.getElem_mem c);rw[List.getElem?_map,List.getElem?_range c,e];show some _=some _;congr 1
   apply List.ext_getElem?
   intro b;by_cases i:b<size
   ·rw[List.getElem?_map,List.getElem?_range i]
    have m:a*size+b<O vs*size:=by
     have:(a+1)*size<=O vs*size:=Nat.mul_le_mul_right _ c;rw[Nat.add_mul] at this;omega
    have o:vs.flatten[a*size+b]? =vs[a][b]? :=lZ hl e b i;show some ((w.cell? ⟨g,a*size+b,I⟩).getD undef)=_;rw[l _ m,o,gG oM];rfl
   ·rw[List.getElem?_eq_none (by simp;omega),List.getElem?_eq_none oM]
  ·rw[List.getElem?_eq_none (by simp;omega),List.getElem?_eq_none oM]
def xP:List Value->Value
 |[_,_,v,_]=>v
 |_=>undef
def uP:List Value->Value
 |[_,_,_,v]=>v
 |_=>undef
def enc:Nat->World->List Value->Value
 |0,_,_=>undef
 |h+1,w,cs=>.agg #[.agg (cs.take 2).toArray,.agg (rowAt w 1 (xP cs)).flatten.toArray,.agg ((rowAt w 4 (uP cs)).map (enc h w)).toArray]
def bE:Nat->World->List Value->Value
 |0,_,_=>undef
 |h+1,w,cs=>.agg #[.agg (cs.take 2).toArray,.agg ((rowAt w 4 (uP cs)).map (bE h w)).toArray]
section
variable{S:Nat->Prop} {G:Int->Int->Nat->Nat->Prop} {w w':World}
theorem kH (h:ro w S 1 v (O ls) (aC ls)):rowAt w 1 v=ls.map (λa=>[vN a]):=by
 have b:ro w S 1 v (O (ls.map (λa=>[Value.int .i64 a]))) (ls.map (λa=>[Value.int .i64 a])).flatten:=by
  rw[iF,List.length_map];exact h
 exact gY b (λa c=>by obtain⟨d,_,rfl⟩:=List.mem_map.1 c;rfl)
theorem fU {n:Int} (a:ro w S 1 lv (O ls) (aC ls)) (b:ro w S 4 av (O vs) vs.flatten) (c:∀x∈vs,af S G h w x):enc (f+1) w (ai kind n lv av).toList=.agg #[.agg #[vN kind,vN n],.agg (aC ls).toArray,.agg (vs.map (enc f w)).toArray]:=by
 have d:=kH a;have e:=gY b (λx i=>af.four h x (c x i));show Value.agg #[_,.agg (rowAt w 1 lv).flatten.toArray,.agg ((rowAt w 4 av).map (enc f w)).toArray]=_;rw[d,e];rw[iF];rfl
theorem kg {n:Int} (a:ro w S 4 av (O vs) vs.flatten) (b:∀x∈vs,af S G h w x):bE (f+1) w (ai kind n lv av).toList=.agg #[.agg #[vN kind,vN n],.agg (vs.map (bE f w)).toArray]:=by
 have c:=gY a (λx d=>af.four h x (b x d));show Value.agg #[_,.agg ((rowAt w 4 av).map (bE f w)).toArray]=_;rw[c];rfl
theorem bj (b:al S w w') (c:E (U w)<=E (U w')):(h:Nat)->(cs:List Value)->af S G h w cs->∀f,enc f w' cs=enc f w cs
 |0,_,hn,_=>absurd hn (λa=>a)
 |_+1,_,_,0=>rfl
 |h+1,_,⟨kind,n,lv,av,ls,vs,h1,h2,h3,h4,h5,h6,h7⟩,f+1=>by
  subst h1;rw[fU h2 h3 h7,fU (G:=G) (h2.frame b c) (h3.frame b c) (λa d=>af.frame b c h a (h7 a d))];have:vs.map (enc f w')=vs.map (enc f w):=List.map_congr_left (λa d=>bj b c h a (h7 a d) f);rw[this]
theorem dy (b:al S w w') (c:E (U w)<=E (U w')):(h:Nat)->(cs:List Value)->af S G h w cs->∀f,bE f w' cs=bE f w cs
 |0,_,hn,_=>absurd hn (λa=>a)
 |_+1,_,_,0=>rfl
 |h+1,_,⟨kind,n,lv,av,ls,vs,h1,h2,h3,h4,h5,h6,h7⟩,f+1=>by
  subst h1;rw[kg h3 h7,kg (G:=G) (h3.frame b c) (λa d=>af.frame b c h a (h7 a d))];have:vs.map (bE f w')=vs.map (bE f w):=List.map_congr_left (λa d=>dy b c h a (h7 a d) f);rw[this]
theorem lh:(h:Nat)->(cs:List Value)->af S G h w cs->∀f,h<=f->enc f w cs=enc h w cs
 |0,_,hn,_,_=>absurd hn (λa=>a)
 |h+1,_,_,0,hf=>absurd hf oM
 |h+1,_,⟨kind,n,lv,av,ls,vs,h1,h2,h3,h4,h5,h6,h7⟩,f+1,hf=>by
  subst h1;rw[fU h2 h3 h7,fU h2 h3 h7];have:vs.map (enc f w)=vs.map (enc h w):=List.map_congr_left (λa b=>lh h a (h7 a b) f oM);rw[this]
theorem ro.nth (h:ro w S 4 v (O vs) vs.flatten) (hl:∀x∈vs,O x=4) {i:Nat} (c:i<O vs):∃g b,v=J (aS g) (O vs) b/\S g/\g<E (U w)/\∀a,a<4->w.cell? ⟨g,i*4+a,I⟩=vs[i][a]? :=by
 obtain⟨l,b,rfl,m,d⟩:=h;obtain⟨g,rfl,hS,e,j⟩:=d oM;exact⟨g,b,Q,hS,e,λa k=>by rw[j _ oM,l8 hl (gG c) a k]⟩
end
end
section
variable{h:Nat} {S S':Nat->Prop} {w:World}
def fB (w:World) (P:Prop) (e:Ending) (w':World):Prop:=∃b,e=.returned (.bool b)/\(b=true↔P)/\Below (E (U w)) w w'
theorem af.parts {G:Int->Int->Nat->Nat->Prop} {kind n:Int} {lv c:Value} (e:af S G (h+1) w (ai kind n lv c).toList):∃(b:List Int) (a:VV),ro w S 1 lv (O b) (aC b)/\ro w S 4 c (O a) a.flatten/\O b<=30000/\O a<=30000/\G kind n (O b) (O a)/\∀f∈a,af S G h w f:=by
 obtain⟨p,q,r,s,b,a,d,i,j,k,l,m,o⟩:=e;simp at d;obtain⟨rfl,rfl,rfl,rfl⟩:=d;exact⟨b,a,i,j,k,l,m,o⟩
theorem af.cells {G:Int->Int->Nat->Nat->Prop}:(h:Nat)->∀{w:World} {e:List Value},af S G h w e->∃b d f i j k l m,e=(ai b d (J f i j) (J k l m)).toList
 |0,_,_,hn=>absurd hn (λn=>n)
 |_+1,_,_,⟨b,d,lv,av,ls,vs,h1,⟨a,c,e1,_⟩,⟨a',c',e2,_⟩,_⟩=>⟨b,d,a,O ls,c,a',O vs,c',by rw[h1,e1,e2]⟩
theorem ro.len {size:Nat} {b:OA} {n m c:Nat} {xs:List Value} (h:ro w S size (J b n c) m xs):n=m:=by
 obtain⟨d,e,a,_⟩:=h;simp at a;exact a.2.1
theorem lj {G i:Int->Int->Nat->Nat->Prop} {j f:Nat} {ka na kb nb:Int} {la d lb e:Value} {b c:VV} (k:ro w S 4 d (O b) b.flatten) (l:∀x∈b,af S G h w x) (m:ro w S' 4 e (O c) c.flatten) (n:∀x∈c,af S' i j w x):
 bE (f+1) w (ai ka na la d).toList=bE (f+1) w (ai kb nb lb e).toList↔ka=kb/\na=nb/\b.map (bE f w)=c.map (bE f w):=by
 rw[kg k l,kg m n];constructor
 ·intro a;simp only[Value.agg.injEq,Array.mk.injEq,List.cons.injEq,Value.int.injEq,and_true,true_and] at a;exact⟨a.1.1,a.1.2,a.2⟩
 ·rintro⟨rfl,rfl,a⟩;rw[a]
theorem o6 {G aq:Int->Int->Nat->Nat->Prop}:(h o:Nat)->∀{w:World} {ka na kb nb:Int} {la lb:Value} {l m:OA} {q i r j:Nat},af S G h w (ai ka na la (J l q i)).toList->af S' aq o w (ai kb nb lb (J m r j)).toList->
 Calls Tryz.prog 11 #[.agg (ai ka na la (J l q i)),.agg (ai kb nb lb (J m r j))] w (fB w (bE h w (ai ka na la (J l q i)).toList=bE h w (ai kb nb lb (J m r j)).toList))
 |0,_,_,_,_,_,_,_,_,_,_,_,_,_,_,t,_=>absurd t (λu=>u)
 |_+1,0,_,_,_,_,_,_,_,_,_,_,_,_,_,_,t=>absurd t (λu=>u)
 |h+1,o+1,w,ka,na,kb,nb,la,lb,l,m,q,i,r,j,hA,hB=>by
  obtain⟨bl,b,aT,ah,bm,bn,aU,R⟩:=hA.parts;obtain⟨bo,d,aV,aj,bp,bq,aW,T⟩:=hB.parts;have aD:=lj (f:=h) (ka:=ka) (na:=na) (la:=la) (kb:=kb) (nb:=nb) (lb:=lb) ah R aj T;obtain rfl:=ah.len;obtain rfl:=aj.len;have V:Hid (bE (h+1) w (ai ka na la (J l (O b) i)).toList=bE (h+1) w (ai kb nb lb (J m (O d) j)).toList↔ka=kb/\na=nb/\b.map (bE h w)=d.map (bE h w)):=aD;clear aD
  have aX:Hid (∀(o:Nat) {w:World} {ka na kb nb:Int} {la lb:Value} {l m:OA} {q i r j:Nat},af S G h w (ai ka na la (J l q i)).toList->af S' aq o w (ai kb nb lb (J m r j)).toList->
   Calls Tryz.prog 11 #[.agg (ai ka na la (J l q i)),.agg (ai kb nb lb (J m r j))] w (fB w (bE h w (ai ka na la (J l q i)).toList=bE h w (ai kb nb lb (J m r j)).toList))):=λo=>o6 h o
  have W:Below (E (U w)) w ((w.alloc (Ob (ai ka na la (J l (O b) i)) 39)).alloc (Ob (ai kb nb lb (J m (O d) j)) 39)):=bV w _ _;by_cases ar:ka=kb
  ·subst ar;by_cases t:na=nb
   ·subst t;by_cases X:O b=O d
    ·have br:((O b:Int)==(O d:Int))=true:=by simp[X]
     have aY:((O b:Int) !=(O d:Int))=false:=by simp[X]
     have aE:Hid (O b=O d):=X;clear X;go_enter Tryz.func11,Tryz.ntmps11
     go_wp2_with fail;go_loopg [5,30] (O b) (λaZ _ a0 wr=>∃a:Nat,aZ=O b - a/\a0=vN a/\a<=O b/\(∀k:Nat,k<a->(b[k]?).map (bE h w)=(d[k]?).map (bE h w))/\Below (E (U w)+2) ((w.alloc (Ob (ai ka na la (J l (O b) i)) 39)).alloc (Ob (ai ka na lb (J m (O d) j)) 39)) wr)
     case atStart=>exact⟨0,Q,Q,zL _,λk aF=>absurd aF (Nat.not_lt_zero _),Below.refl _ _⟩
     case round=>
      obtain⟨a,aG,rfl,bs,aH,Y⟩:=hrel;have a1:Hid (gk=O b - a):=aG;have aI:Hid (∀k:Nat,k<a->(b[k]?).map (bE h w)=(d[k]?).map (bE h w)):=aH;clear aG aH;have n:Below (E (U w)) w wr:=W.trans (Y.mono (Nat.le_add_right _ 2));by_cases Z:a<O b
      ·have ak:a<O d:=by rw[<-aE.out];exact Z
       obtain⟨s,a2,aJ,bt,a3,au⟩:=ah.nth (λu av=>af.four _ _ (R u av)) Z;obtain⟨v,a4,aK,bu,a5,aw⟩:=aj.nth (λu av=>af.four _ _ (T u av)) ak;have ax:b[a]∈b:=List.getElem_mem Z;have ay:d[a]∈d:=List.getElem_mem ak;obtain⟨x,y,z,A,B,C,al1,D,az⟩:=af.cells _ (R _ ax);obtain⟨F,H,K,L,M,N,eI,P,aA⟩:=af.cells _ (T _ ay);have ao:=R _ ax;have ap:=T _ ay;rw[az] at au ao;rw[aA] at aw ap;have a6:Hid ((b[a]?).map (bE h w)=some (bE h w (ai x y (J z A B) (J C al1 D)).toList)):=by show(b[a]?).map (bE h w)=_;rw[gG Z,az];rfl
       have a7:Hid ((d[a]?).map (bE h w)=some (bE h w (ai F H (J K L M) (J N eI P)).toList)):=by show(d[a]?).map (bE h w)=_;rw[gG ak,aA];rfl
       clear az aA ax ay;obtain⟨rfl,rfl⟩:l=some ⟨s,0,I⟩/\i=a2:=sU aJ;obtain⟨rfl,rfl⟩:m=some ⟨v,0,I⟩/\j=a4:=sU aK;clear aJ aK;have a8:=Y.size;have a9:E (U w)+2<=E (U wr):=sU a8;have bv:s<E (U wr):=oM;have bw:v<E (U wr):=oM;have bx:E (U w)<E (U wr):=oM;have bz:E (U w)+1<E (U wr):=oM;have bA:∀c,wr.cell? ⟨E (U w),c,I⟩=(ai ka na la (J (aS s) (O b) i))[c]? :=λc=>(Y.cell (p:=⟨E (U w),c,I⟩) sQ).trans (by rw[World.cell?_of_block (w:=w.alloc (Ob (ai ka na la (J (aS s) (O b) i)) 39)) (Below.heap_alloc _ _ _ sQ),cell_of_row _ _ c _ 39 (0,0) (heap_alloc_new _ _)]);have bB:∀c,wr.cell? ⟨E (U w)+1,c,I⟩=(ai ka na lb (J (aS v) (O d) j))[c]? :=λc=>(Y.cell (p:=⟨E (U w)+1,c,I⟩) sQ).trans (by have:=cell_of_row _ _ c _ 39 (0,0) (heap_alloc_new (w.alloc (Ob (ai ka na la (J (aS s) (O b) i)) 39)) (Ob (ai ka na lb (J (aS v) (O d) j)) 39));first|(simp;done)|(simpa using this));have aa:∀c,c<4->wr.cell? ⟨s,a*4+c,I⟩=(ai x y (J z A B) (J C al1 D))[c]? :=λc aB=>(n.cell (p:=⟨s,a*4+c,I⟩) a3).trans ((au c aB).trans sQ);have ab:∀c,c<4->wr.cell? ⟨v,a*4+c,I⟩=(ai F H (J K L M) (J N eI P))[c]? :=λc aB=>(n.cell (p:=⟨v,a*4+c,I⟩) a5).trans ((aw c aB).trans sQ);clear au aw;have a':=aa 0 dC;have bC:=aa 1 dC;have ac:=aa 2 dC;have aC:=aa 3 dC;have ba:=ab 0 dC;have bD:=ab 1 dC;have bF:=ab 2 dC;have bG:=ab 3 dC;clear aa ab;simp only[Nat.add_zero] at a' ba;have aL:(a:Int)<(O b:Int):=oM;have bH:(a:Int)<(O d:Int):=oH ak;have bI:(O b:Int)<=30000:=oM;have aM:al S w wr:=al.below n;have aN:al S' w wr:=al.below n;have FA:Hid (bE h wr.drew (ai x y (J z A B) (J C al1 D)).toList=bE h w (ai x y (J z A B) (J C al1 D)).toList):=dy (al.below n.drew) n.size _ _ ao h;have aO:Hid (bE h wr.drew (ai F H (J K L M) (J N eI P)).toList=bE h w (ai F H (J K L M) (J N eI P)).toList):=dy (al.below n.drew) n.size _ _ ap h;have bb:Hid (af S G h wr (ai x y (J z A B) (J C al1 D)).toList):=af.frame aM n.size _ _ ao;have bc:Hid (af S' aq o wr (ai F H (J K L M) (J N eI P)).toList):=af.frame aN n.size _ _ ap;clear ao ap aM aN ah aj R T aT aV aU aW;go_upto_region 6 with fail
       go_cut [44] (λbd bf=>∃ad:Bool,bd=.bool (!ad)/\(ad=true↔(b[a]?).map (bE h w)=(d[a]?).map (bE h w))/\Below (E (U w)+2) ((w.alloc (Ob (ai ka na la (J (aS s) (O b) i)) 39)).alloc (Ob (ai ka na lb (J (aS v) (O d) j)) 39)) bf)
       case first=>
        go_region_with (go_at_call 11;refine(aX.out o (af.frame (al.drew _ _) (lR _) _ _ bb.out) (af.frame (al.drew _ _) (lR _) _ _ bc.out)).mono ?_;rintro e bJ ⟨bg,rfl,bh,bi⟩)
        all_goals
         go_wp2_with fail;go_meet;refine⟨bg,Q,?_,Y.trans ?_⟩
         ·rw[a6.out,a7.out];refine bh.trans ⟨λe=>?_,λe=>?_⟩
          ·have ae:bE h wr.drew (ai x y (J z A B) (J C al1 D)).toList=bE h wr.drew (ai F H (J K L M) (J N eI P)).toList:=e;rw[FA.out,aO.out] at ae;rw[ae]
          ·have ae:=Option.some.inj e;rw[<-FA.out,<-aO.out] at ae;exact ae
         ·exact(Below.refl _ wr).drew.trans (bi.mono a9)
       case rest=>
        obtain⟨ad,rfl,aP,aQ⟩:=hcut;have aR:Hid (ad=true↔(b[a]?).map (bE h w)=(d[a]?).map (bE h w)):=aP;clear aP;have bj:Below (E (U w)) w wc:=W.trans (aQ.mono (Nat.le_add_right _ 2))
        cases ad
        ·go_wp2_with fail;go_ret;refine⟨false,Q,⟨λe=>absurd e dC,λe=>?_⟩,bj⟩;have ac:=(V.out.1 e).2.2;have aC:=congrArg (λbk=>bk[a]?) ac;simp only[List.getElem?_map] at aC;exact absurd (aR.out.2 aC) sQ
        ·go_wp2_with fail;go_roundg (O b - (a+1))
         case measure=>rw[a1.out];omega
         case rel=>
          refine⟨a+1,Q,by go_num,Z,λk aF=>?_,aQ⟩;rcases Nat.lt_or_ge k a with ag|ag
          ·exact aI.out k ag
          ·obtain rfl:k=a:=oM;exact aR.out.1 (by first|rfl|trivial)
      ·have aL:¬(a:Int)<(O b:Int):=oM;have bK:decide ((a:Int)<(O b:Int))=false:=sU aL;go_wp2_with fail;go_ret;refine⟨true,Q,⟨λ_=>V.out.2 ⟨by first|rfl|trivial,by first|rfl|trivial,?_⟩,λ_=>rfl⟩,n⟩;apply List.ext_getElem?
       intro k;rw[List.getElem?_map,List.getElem?_map];rcases Nat.lt_or_ge k a with ag|ag
       ·exact aI.out k ag
       ·have bL:=aE.out;rw[List.getElem?_eq_none oM,List.getElem?_eq_none oM]
    ·have aY:((O b:Int) !=(O d:Int))=true:=by simp;omega
     go_enter Tryz.func11,Tryz.ntmps11
     go_wp2_with fail;go_ret;refine⟨false,Q,⟨λe=>absurd e dC,λe=>?_⟩,W⟩;have ac:=congrArg List.length (V.out.1 e).2.2;simp at ac;exact absurd ac X
   ·have bM:(na !=nb)=true:=sU t;go_enter Tryz.func11,Tryz.ntmps11
    go_wp2_with fail;go_ret;exact⟨false,Q,⟨λe=>absurd e dC,λe=>absurd (V.out.1 e).2.1 t⟩,W⟩
  ·have bN:(ka !=kb)=true:=sU ar;go_enter Tryz.func11,Tryz.ntmps11
   go_wp2_with fail;go_ret;exact⟨false,Q,⟨λe=>absurd e dC,λe=>absurd (V.out.1 e).1 ar⟩,W⟩
end
end Go.Proofs.YtcnnibahjmekdaaGreat
