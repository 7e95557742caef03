import Derived.Deep.Light
import Derived.Deep.RegionWith
import Derived.Deep.RegionLaw
import Derived.Laws.OwnMore
import Derived.Deep.DeepCutAuto
import Derived.Test.YtcnnibahjmekdaaGreatS00
namespace Go.Proofs.YtcnnibahjmekdaaGreat
open Go.RowKit
open Value renaming slice→J
open List renaming length→O
open Option renaming none→I
open World renaming heap→U
open _root_.Array renaming size→E
open Obj renaming cells→Ob
set_option linter.all false
set_option maxRecDepth 100000
set_option maxHeartbeats 0
section
variable{c:Array Value} {a k:Int} {b cap i rb tb:Nat} {t:Tk} {w w':World}
theorem pF (d:List (List UInt8)) (m:List UInt8) (h:d≠[]):fM (d++[m])=fM d++58::58::m:=by
 induction d with
 |nil=>exact absurd Q h
 |cons a e f=>
  cases e with
  |nil=>rfl
  |cons b e=>show a++58::58::fM (b::e++[m])=(a++58::58::fM (b::e))++_;rw[f sQ];simp
theorem fP (a b:ByteArray):(a++b).toList=a.toList++b.toList:=by
 rw[Lib.toList_data,Lib.toList_data,Lib.toList_data];simp[ByteArray.data_append]
theorem fO (a b:ByteArray):(a++b).size=a.size+b.size:=sQ
structure vR (w:World) (rb tb cap:Nat) (t:Tk) (i:Nat) (k:Int) (most:Nat) (wr:World) (s:ByteArray) (n:Nat) (j:Nat) (kj aj:Int):Prop where
 nx:Nx w rb tb cap t i k True wr j kj aj
 le:n<=most
 size:s.size<=6002*n
 ok:kj=0->∃ns,ns≠[]/\O ns=n/\(∀n∈ns,n≠[]/\(58:UInt8)∉n)/\s.toList=fM ns
theorem jy (h:Rd w rb tb cap t i k a) (o:Nat) (ag:1<=o) (aC:o<=3):
 Calls Tryz.prog 80 #[.pointer (aS rb),vN o] w λd w'=>∃m,d=.returned (.string m)/\m.size<=20000/\∃s q u,Nx w rb tb cap t i k True w' s q u/\(q=0->cD o m):=by
 have aD:(t.len:Int)<=6001:=oH h.ar.bB;go_enter Tryz.func80,Tryz.ntmps80
 go_wp2_with (go_at_call 40;refine(cJ h).mono ?_;rintro d aE ⟨V,rfl,aF,X,Y,ah,ai,ak⟩)
 go_loopg [5,6] (ml t X Y) (λg al ao wr=>∃(m:ByteArray) (v j:Nat) (kj aj:Int),g=ml t j kj/\al=.string m/\ao=vN v/\vR w rb tb cap t i k o wr m v j kj aj)
 case atStart=>exact⟨V,1,X,Y,ah,Q,Q,Q,ai,ag,oM,λd=>⟨[V.toList],sQ,Q,by simpa[ig] using ak d,Q⟩⟩
 case round=>
  obtain⟨m,v,j,kj,aj,Z,rfl,rfl,e⟩:=hrel;have ap:Hid (gk=ml t j kj):=Z;clear Z;have aa:=e.nx.rd.lt;have aG:=e.le;have aH:=e.size
  have out:∀aq,aq=wr->∃x,Ending.returned (.string m)=.returned (.string x)/\x.size<=20000/\∃s q u,Nx w rb tb cap t i k True wr s q u/\(q=0->cD o x):=λ_ _=>
   ⟨m,Q,oM,j,kj,aj,e.nx,λd=>by obtain⟨B,K,ab,L,n⟩:=e.ok d;exact⟨B,K,oM,L,n⟩⟩
  cases ar:(kj==0)
  ·go_wp2_with (go_at_call 21;refine(jA e.nx.rd).mono ?_;rintro d C ⟨rfl,rfl⟩)
   go_ret;exact out _ Q
  ·have ac:Hid (kj=0):=by show kj=0;simpa using ar
   cases au:bW t j kj 0 ⟨#[58,58]⟩
   ·go_wp2_with (first|(go_at_call 21;refine(jA e.nx.rd).mono ?_;rintro d C ⟨rfl,rfl⟩)|(go_at_call 41;refine(aW e.nx.rd 0 oM _).mono ?_;rintro d M ⟨rfl,f⟩))
    go_ret;obtain⟨x,N,P,s,q,u,l,R⟩:=out _ Q;refine⟨x,N,P,s,q,u,⟨?_,?_,l.le,l.ok,l.go⟩,R⟩
    ·exact l.rd.below f
    ·exact l.kp.trans ((Kp.aq f).mono l.kp.size)
   ·have av:=(dI h.ar aa au).2
    cases aI:cq t j kj 1 2
    ·go_wp2_with (first|(go_at_call 21;refine(jA e.nx.rd).mono ?_;rintro d C ⟨rfl,rfl⟩)|(go_at_call 41;refine(aW e.nx.rd 0 oM _).mono ?_;rintro d M ⟨rfl,f⟩)|(go_at_call 22;refine(bH (e.nx.rd.below f) 1 oM 2).mono ?_;rintro d S ⟨rfl,r⟩))
     go_ret;obtain⟨x,N,P,s,q,u,l,R⟩:=out _ Q;refine⟨x,N,P,s,q,u,⟨?_,?_,l.le,l.ok,l.go⟩,R⟩
     ·exact(l.rd.below f).below r
     ·exact l.kp.trans ((Kp.aq (f.trans (r.mono f.size))).mono l.kp.size)
    ·by_cases aw:v=o
     ·subst aw;go_wp2_with (first|(go_at_call 21;refine(jA e.nx.rd).mono ?_;rintro d C ⟨rfl,rfl⟩)|(go_at_call 41;refine(aW e.nx.rd 0 oM _).mono ?_;rintro d M ⟨rfl,f⟩)|(go_at_call 22;refine(bH (e.nx.rd.below f) 1 oM 2).mono ?_;rintro d S ⟨rfl,r⟩;have n:=(e.nx.rd.below f).below r)|(go_at_call 64;refine(ir n).mono ?_;rintro d ad ⟨rfl,⟨z,D,T,ax⟩,ay⟩))
      go_ret;refine⟨⟨#[]⟩,Q,dC,j,z,D,⟨ax,?_,e.nx.le,λd=>absurd d T,λ_ d=>absurd d T⟩,λd=>absurd d T⟩;have F:=f.trans (r.mono f.size);exact e.nx.kp.trans (((Kp.aq F).trans (ay.mono F.size)).mono e.nx.kp.size)
     ·have aJ:((v:Int)==(o:Int))=false:=by simp;omega
      go_wp2_with (first|(go_at_call 21;refine(jA e.nx.rd).mono ?_;rintro d C ⟨rfl,rfl⟩)|(go_at_call 41;refine(aW e.nx.rd 0 oM _).mono ?_;rintro d M ⟨rfl,f⟩)|(go_at_call 22;refine(bH (e.nx.rd.below f) 1 oM 2).mono ?_;rintro d S ⟨rfl,r⟩;have n:=(e.nx.rd.below f).below r;have aK:=n.r1;have aL:=n.l;have aM:=n.fz 1)|(go_at_call 40;refine(cJ (n.uZ av)).mono ?_;rintro d ad ⟨G,rfl,aN,H,z,D,y,az⟩))
      have F:=f.trans (r.mono f.size);have ae:Kp (E (U w)) rb w (S.setCell ⟨rb,1,I⟩ (vN (j+1:Nat))):=Kp.setCell (p:=⟨rb,1,I⟩) (e.nx.kp.trans ((Kp.aq F).mono e.nx.kp.size)) (.inr Q) _
      have aA:vR w rb tb cap t i k o ad (m++⟨#[58,58]⟩++G) (v+1) H z D:=by
       refine⟨⟨y.rd,ae.trans (y.kp.mono ae.size),?_,λd=>e.nx.ok (y.ok d),λ_ d=>?_⟩,oM,?_,λd=>?_⟩
       ·have:=e.nx.le;have:=y.le;omega
       ·have:=e.nx.le;have:=y.le;omega
       ·rw[fO,fO];show m.size+2+G.size<=_;omega
       ·obtain⟨B,K,ab,L,n⟩:=e.ok ac.out;refine⟨B++[G.toList],sQ,by simp[ab],λaf A=>?_,?_⟩
        ·rcases List.mem_append.1 A with A|A
         ·exact L af A
         ·obtain rfl:af=G.toList:=sU A;exact az d
        ·rw[fP,fP,pF B _ K,n];rw[show(⟨#[58,58]⟩:ByteArray).toList=[58,58] by rw[Lib.toList_data]];simp
      have aB:ml t H z<gk:=by
       rw[ap.out,ac.out];exact bO aa (oH y.le) (λd=>oH y.le)
      go_roundg (ml t H z)
      case measure=>exact aB
      case rel=>exact⟨_,v+1,H,z,D,Q,Q,by go_num,aA⟩
def dO (w:World) (b:Nat) (c:Array Value):Prop:=w.heap[b]? =some (Ob c 46 (0,0))
theorem dO.cell (h:dO w b c) (o:Nat):w.cell? ⟨b,o,I⟩=c[o]? :=cell_of_row w b o c 46 (0,0) h
theorem dO.fz (h:dO w b c) (o:Nat):w.frozen? ⟨b,o,I⟩=false:=frozen_of_row w b o c 46 h
theorem dO.lt (h:dO w b c):b<E (U w):=(gE h).1
theorem dO.new (w:World) (c:Array Value):dO (w.alloc (Ob c 46)) (E (U w)) c:=heap_alloc_new w _
theorem dO.alloc (h:dO w b c) (o:Obj):dO (w.alloc o) b c:=(Below.heap_alloc _ _ _ h.lt).trans h
theorem dO.below (h:dO w b c) (d:Below (E (U w)) w w'):dO w' b c:=(d.block b h.lt).trans h
theorem dO.kp (h:dO w b c) (d:Kp (E (U w)) rb w w') (e:b≠rb):dO w' b c:=(d.block b h.lt e).trans h
theorem dO.grown {d:Option Nat} (h:dO w b c) (e:w.grownBy w' d) (f:some b≠d):dO w' b c:=(e.block b h.lt f).trans h
theorem dO.other (h:dO w b c) {p:Addr} (d:b≠p.block) (u:Value):dO (w.setCell p u) b c:=(Below.heap_setCell _ _ _ _ d).trans h
theorem dO.set (h:dO w b c) (o:Nat) (u:Value):dO (w.setCell ⟨b,o,I⟩ u) b (c.setIfInBounds o u):=heap_setCell_same w b o c 46 u h
theorem dO.drew (h:dO w b c):dO w.drew b c:=h
theorem al.bA {S:Nat->Prop} (h:¬S b) (c0 c1 c2 c3 d e f l m n o:Value):al S w (bA w b c0 c1 c2 c3 d e f l m n o):=
 (((((((((((al.setCell w ⟨b,0,I⟩ c0 h).trans (al.setCell _ ⟨b,1,I⟩ c1 h) sQ).trans (al.setCell _ ⟨b,2,I⟩ c2 h) sQ).trans (al.setCell _ ⟨b,3,I⟩ c3 h) sQ).trans (al.setCell _ ⟨b,4,I⟩ d h) sQ).trans (al.setCell _ ⟨b,5,I⟩ e h) sQ).trans (al.setCell _ ⟨b,6,I⟩ f h) sQ).trans (al.setCell _ ⟨b,7,I⟩ l h) sQ).trans (al.setCell _ ⟨b,8,I⟩ m h) sQ).trans (al.setCell _ ⟨b,9,I⟩ n h) sQ).trans (al.setCell _ ⟨b,10,I⟩ o h) sQ)
structure St (w:World) (rb tb cap:Nat) (t:Tk) (W:World) (j:Nat) (kj aj:Int):Prop where
 rd:Rd W rb tb cap t j kj aj
 kp:Kp (E (U w)) rb w W
 lb:rb<E (U w)
 lt:tb<E (U w)
theorem Rd.st (h:Rd w rb tb cap t i k a):St w rb tb cap t w i k a:=⟨h,Kp.refl _ _ _,h.l,h.row.lt⟩
section
variable{w W:World} {rb tb cap j:Nat} {t:Tk} {kj aj:Int}
theorem St.size (h:St w rb tb cap t W j kj aj):E (U w)<=E (U W):=h.kp.size
theorem St.rk (h:St w rb tb cap t W j kj aj) {i':Nat} {k' d:Int} (e:Rd w' rb tb cap t i' k' d) (f:Kp (E (U W)) rb W w'):St w rb tb cap t w' i' k' d:=⟨e,h.kp.trans (f.mono h.size),h.lb,h.lt⟩
theorem St.put (h:St w rb tb cap t W j kj aj) (d:E (U w)<=b) (o:Nat) (u:Value):St w rb tb cap t (W.setCell ⟨b,o,I⟩ u) j kj aj:=⟨h.rd.setCell (p:=⟨b,o,I⟩) (by have:=h.lb;show b≠rb;omega) (by have:=h.lt;show b≠tb;omega) u,h.kp.setCell (p:=⟨b,o,I⟩) (.inl d) u,h.lb,h.lt⟩
theorem St.grown (h:St w rb tb cap t W j kj aj) {f:Option Nat} (l:W.grownBy w' f) (d:∀b,f=some b->E (U w)<=b):St w rb tb cap t w' j kj aj:=
 ⟨h.rd.grown l (λe=>oI (d _ e) h.lb) (λe=>oI (d _ e) h.lt),h.kp.grown l h.size d,h.lb,h.lt⟩
end
end
section
variable{a k n:Int} {ks:List Int} {b base cap i rb tb:Nat} {g:Prop} {t:Tk} {kv:Value} {W w:World}
abbrev aB:Array Value:=ae 0 0 0 0 ⟨#[]⟩ (J I 0 0)
section
variable{w W w':World} {rb tb cap j:Nat} {t:Tk} {kj aj:Int} {b:Nat} {c:Array Value}
end
theorem bu (h:Rd w rb tb cap t i k a) (s:ByteArray) (f:bW t i k 0 s=false):
 Calls Tryz.prog 42 #[.pointer (aS rb),.string s] w λd w'=>d=.returned (.bool false)/\Below (E (U w)) w w':=by
 go_enter Tryz.func42,Tryz.ntmps42
 go_wp2_with (go_at_call 41;refine(aW h 0 oM s).mono ?_;rintro d l ⟨rfl,e⟩)
 go_ret;exact⟨Q,e⟩
theorem eP (h:Rd w rb tb cap t i k a) (s:ByteArray) (f:bW t i k 0 s=true):
 Calls Tryz.prog 42 #[.pointer (aS rb),.string s] w λd w'=>d=.returned (.bool true)/\Nx w rb tb cap t i k True w' (i+1) k a:=by
 refine(aR h s).mono ?_;rintro d o ⟨b,p,rfl,e,l,m⟩;obtain rfl:b=true:=by rw[e.zP];exact f
 obtain⟨rfl,_⟩:=e.yes Q;exact⟨Q,l,m,oM,λd=>d,λ_ _=>by omega⟩
theorem Kids.first {D:OA} {H:Nat} {v:List Value} (h:Kids base g w (J D 1 H) [v]):∃l,D=some ⟨l,0,I⟩/\base<=l/\l<E (U w)/\∃o pos n p q d e f,v=(ae o pos n p q (J d e f)).toList/\(∀m,m<11->w.cell? ⟨l,m,I⟩=(ae o pos n p q (J d e f))[m]?)/\eC base g w v:=by
 obtain⟨K,u,L⟩:=h;have F:=L v sQ;rcases K.2 with⟨x,M⟩|⟨l,cap,cur,x,s,hg,hnc,hcm,hcs,htake⟩
 ·simp at M
 ·simp only[Value.slice.injEq] at x;obtain⟨rfl,_,rfl⟩:=x;refine⟨l,Q,s,(gE hg).1,?_⟩
  cases u with
  |zero=>exact absurd F (λr=>r)
  |succ u=>
   obtain⟨o,pos,n,p,q,kv,N,A,B,P,R,G,S,T,V⟩:=F
   have X:∃d e f,kv=J d e f:=by
    rcases G.2 with⟨C,_⟩|⟨r,y,z,C,_⟩
    ·exact⟨_,_,_,C⟩
    ·exact⟨_,_,_,C⟩
   obtain⟨d,e,f,rfl⟩:=X;refine⟨o,pos,n,p,q,d,e,f,A,λm Y=>?_,u+1,o,pos,n,p,q,J d e f,N,A,B,P,R,G,λb s=>(S b s).1,λr Z=>isNode.weaken (λb s=>s.1) (λr=>r) _ _ (T r Z),V⟩;rw[cell_of_row w l m cur 46 (0,0) hg]
   have aa:cur.toList.take 11=(ae o pos n p q (J d e f)).toList:=by
    have:=htake;simp only[List.length_cons,List.length_nil,List.flatten_cons,List.flatten_nil,List.append_nil] at this;rw[<-A];exact this
   have B:(cur.toList.take 11)[m]? =cur[m]? :=by rw[List.getElem?_take,if_pos Y];simp
   rw[<-B,aa];simp
theorem dO.bA {C B A z x v s r p o l:Value} (h:dO w b #[C,B,A,z,x,v,s,r,p,o,l]) (c0 c1 c2 c3 d e f m q u y:Value):dO (Go.Proofs.YtcnnibahjmekdaaGreat.bA w b c0 c1 c2 c3 d e f m q u y) b #[c0,c1,c2,c3,d,e,f,m,q,u,y]:=by
 have D:dO (w.setCell ⟨b,0,I⟩ c0) b #[c0,B,A,z,x,v,s,r,p,o,l]:=dO.set h 0 c0;have F:dO ((w.setCell ⟨b,0,I⟩ c0).setCell ⟨b,1,I⟩ c1) b #[c0,c1,A,z,x,v,s,r,p,o,l]:=dO.set D 1 c1;have G:dO (((w.setCell ⟨b,0,I⟩ c0).setCell ⟨b,1,I⟩ c1).setCell ⟨b,2,I⟩ c2) b #[c0,c1,c2,z,x,v,s,r,p,o,l]:=dO.set F 2 c2;have H:dO ((((w.setCell ⟨b,0,I⟩ c0).setCell ⟨b,1,I⟩ c1).setCell ⟨b,2,I⟩ c2).setCell ⟨b,3,I⟩ c3) b #[c0,c1,c2,c3,x,v,s,r,p,o,l]:=dO.set G 3 c3;have K:dO (((((w.setCell ⟨b,0,I⟩ c0).setCell ⟨b,1,I⟩ c1).setCell ⟨b,2,I⟩ c2).setCell ⟨b,3,I⟩ c3).setCell ⟨b,4,I⟩ d) b #[c0,c1,c2,c3,d,v,s,r,p,o,l]:=dO.set H 4 d;have L:dO ((((((w.setCell ⟨b,0,I⟩ c0).setCell ⟨b,1,I⟩ c1).setCell ⟨b,2,I⟩ c2).setCell ⟨b,3,I⟩ c3).setCell ⟨b,4,I⟩ d).setCell ⟨b,5,I⟩ e) b #[c0,c1,c2,c3,d,e,s,r,p,o,l]:=dO.set K 5 e;have M:dO (((((((w.setCell ⟨b,0,I⟩ c0).setCell ⟨b,1,I⟩ c1).setCell ⟨b,2,I⟩ c2).setCell ⟨b,3,I⟩ c3).setCell ⟨b,4,I⟩ d).setCell ⟨b,5,I⟩ e).setCell ⟨b,6,I⟩ f) b #[c0,c1,c2,c3,d,e,f,r,p,o,l]:=dO.set L 6 f;have N:dO ((((((((w.setCell ⟨b,0,I⟩ c0).setCell ⟨b,1,I⟩ c1).setCell ⟨b,2,I⟩ c2).setCell ⟨b,3,I⟩ c3).setCell ⟨b,4,I⟩ d).setCell ⟨b,5,I⟩ e).setCell ⟨b,6,I⟩ f).setCell ⟨b,7,I⟩ m) b #[c0,c1,c2,c3,d,e,f,m,p,o,l]:=dO.set M 7 m;have P:dO (((((((((w.setCell ⟨b,0,I⟩ c0).setCell ⟨b,1,I⟩ c1).setCell ⟨b,2,I⟩ c2).setCell ⟨b,3,I⟩ c3).setCell ⟨b,4,I⟩ d).setCell ⟨b,5,I⟩ e).setCell ⟨b,6,I⟩ f).setCell ⟨b,7,I⟩ m).setCell ⟨b,8,I⟩ q) b #[c0,c1,c2,c3,d,e,f,m,q,o,l]:=dO.set N 8 q;have R:dO ((((((((((w.setCell ⟨b,0,I⟩ c0).setCell ⟨b,1,I⟩ c1).setCell ⟨b,2,I⟩ c2).setCell ⟨b,3,I⟩ c3).setCell ⟨b,4,I⟩ d).setCell ⟨b,5,I⟩ e).setCell ⟨b,6,I⟩ f).setCell ⟨b,7,I⟩ m).setCell ⟨b,8,I⟩ q).setCell ⟨b,9,I⟩ u) b #[c0,c1,c2,c3,d,e,f,m,q,u,l]:=dO.set P 9 u;have S:dO (((((((((((w.setCell ⟨b,0,I⟩ c0).setCell ⟨b,1,I⟩ c1).setCell ⟨b,2,I⟩ c2).setCell ⟨b,3,I⟩ c3).setCell ⟨b,4,I⟩ d).setCell ⟨b,5,I⟩ e).setCell ⟨b,6,I⟩ f).setCell ⟨b,7,I⟩ m).setCell ⟨b,8,I⟩ q).setCell ⟨b,9,I⟩ u).setCell ⟨b,10,I⟩ y) b #[c0,c1,c2,c3,d,e,f,m,q,u,y]:=dO.set R 10 y;exact S
theorem ji {e:Func} {r:Nat} (u:e.results=#[.cell r 46]) {d:Array Value} (v:d.getD r undef=.pointer (aS b)) {c0 c1 c2 c3 f l m o p q s:Value} (x:dO W b #[c0,c1,c2,c3,f,l,m,o,p,q,s]):
 (results e d).run Tryz.prog W=.ok (.agg #[c0,c1,c2,c3,f,l,m,o,p,q,s]) W:=by
 have y:=x.cell;have z:d[r]?.getD undef=.pointer (aS b):=sU v;simp[results,u,z,go_sem,y]
theorem Kids.put {vs:VV} (h:Kids base g w kv vs) (d:b<base) (o:Nat) (u:Value):Kids base g (w.setCell ⟨b,o,I⟩ u) kv vs:=
 h.same (al.setCell _ ⟨b,o,I⟩ _ (by show ¬base<=b;omega))
theorem eC.name {kind pos m:Int} {name:ByteArray} (h:eC base g w (ae kind pos n m name kv).toList):name.size<=20000:=by
 obtain⟨d,h⟩:=h
 cases d with
 |zero=>exact absurd h (λf=>f)
 |succ d=>
  obtain⟨o,p,q,r,s,u,v,e,l,_⟩:=h;simp at e;rw[e.2.2.2.2.1];exact l
theorem Gr.qg {name:ByteArray} (h:∀x∈ks,x=1):Gr 0 n name ks:=by
 constructor<;>intro d<;>first|exact absurd d dC|exact h
theorem Gr.tC {name:ByteArray} (h:∀x∈ks,x=2\/x=3\/x=6\/x=7\/x=108):Gr 1 n name ks:=by
 constructor<;>intro d<;>first|exact absurd d dC|exact h
theorem Gr.wO {name:ByteArray} (h:cD 2 name/\¬cD 1 name):Gr 2 n name ks:=by
 constructor<;>intro d<;>first|exact absurd d dC|exact h
theorem Gr.qh {name:ByteArray} (h:∃vs,ks=9::vs/\∀x∈vs,x=4):Gr 3 n name ks:=by
 constructor<;>intro d<;>first|exact absurd d dC|exact h
theorem Gr.kO {name:ByteArray} (h:∀x∈ks,x=5):Gr 4 n name ks:=by
 constructor<;>intro d<;>first|exact absurd d dC|exact h
theorem Gr.nW {name:ByteArray} (h:∃x,ks=[x]/\cH x):Gr 5 n name ks:=by
 constructor<;>intro d<;>first|exact absurd d dC|exact h
theorem Gr.tu {name:ByteArray} (h:∀x∈ks,x=8):Gr 6 n name ks:=by
 constructor<;>intro d<;>first|exact absurd d dC|exact h
theorem Gr.vi {name:ByteArray} (h:cD 2 name/\∃x d,ks=9::x::d/\cH x/\∀f∈d,f=108):Gr 7 n name ks:=by
 constructor<;>intro e<;>first|exact absurd e dC|exact h
theorem Gr.tE {name:ByteArray} (h:∃d x e,ks=9::(d++x::e)/\(O d:Int)=n/\(∀p∈d,p=12)/\cH x/\O e<=1):Gr 8 n name ks:=by
 constructor<;>intro f<;>first|exact absurd f dC|exact h
theorem Gr.fw {name:ByteArray} (h:∀x∈ks,x=10\/x=11) (hl:O ks<=6100:=by simp):Gr 9 n name ks:=by
 constructor<;>intro d<;>first|exact absurd d dC|exact⟨hl,h⟩
theorem Gr.nV {name:ByteArray} (h:∀x∈ks,x=19):Gr 10 n name ks:=by
 constructor<;>intro d<;>first|exact absurd d dC|exact h
theorem Gr.jk {name:ByteArray} (h:∀x∈ks,x=19\/x=18):Gr 11 n name ks:=by
 constructor<;>intro d<;>first|exact absurd d dC|exact h
theorem Gr.tB {name:ByteArray} (h:∃x,ks=[x]/\cH x):Gr 12 n name ks:=by
 constructor<;>intro d<;>first|exact absurd d dC|exact h
theorem Gr.nU {name:ByteArray} (h:∀x∈ks,cH x):Gr 15 n name ks:=by
 constructor<;>intro d<;>first|exact absurd d dC|exact h
theorem Gr.fq {name:ByteArray} (h:(n=0\/n=1)/\∃x,ks=[x]/\cH x):Gr 16 n name ks:=by
 constructor<;>intro d<;>first|exact absurd d dC|exact h
theorem Gr.tD {name:ByteArray} (h:ks≠[]/\∀x∈ks,cH x):Gr 17 n name ks:=by
 constructor<;>intro d<;>first|exact absurd d dC|exact h
theorem Gr.mH {name:ByteArray} (h:cD 2 name/\∃ls d,ks=ls++d/\(∀x∈ls,x=19)/\∀x∈d,cH x):Gr 18 n name ks:=by
 constructor<;>intro e<;>first|exact absurd e dC|exact h
end
def lQ (ks:List Int):Prop:=∃ls ts,ks=ls++ts/\(∀x∈ls,x=19)/\∀x∈ts,cH x
section
variable{w:World}
theorem aV {rb d e i:Nat} {t:Tk} {k a:Int} (h:Rd w rb d e t i k a):
 Calls Tryz.prog 21 #[.pointer (aS rb)] w λb c=>b=.returned (.bool (k==0))/\Below (E (U w)) w c:=by
 refine(jA h).mono ?_;rintro b c ⟨rfl,rfl⟩;exact⟨Q,Below.refl _ _⟩
theorem Kids.alloc {a:Nat} {g:Prop} {kv:Value} {vs:VV} (h:Kids a g w kv vs) (o:Obj):Kids a g (w.alloc o) kv vs:=h.same (al.alloc _ _ _)
end

theorem isNode.low {S:Nat->Prop} {g:Prop} {w:World}:(h:Nat)->(cs:List Value)->isNode S g h w cs->isNode (λa=>S a/\a<E (U w)) g h w cs
 |0,_,hn=>hn
 |h+1,_,⟨kind,pos,n,m,name,kv,vs,h1,h2,h3,h3',h4,h5,h6,h7⟩=>
  ⟨kind,pos,n,m,name,kv,vs,h1,h2,h3,h3',h4,λa b=>⟨h5 a b,(h4.lt a b).2⟩,λc d=>isNode.low h c (h6 c d),h7⟩
abbrev mJ (akind apos an am:Int) (aname:ByteArray) (akv:Value) (bkind bpos bn bm:Int) (bname:ByteArray) (bkv:Value):Array Value:=#[vN akind,vN apos,vN an,vN am,.string aname,akv,vN 0,vN 0,J I 0 0,J I 0 0,J I 0 0,vN bkind,vN bpos,vN bn,vN bm,.string bname,bkv,vN 0,vN 0,J I 0 0,J I 0 0,J I 0 0]
theorem j0 {w:World} {rb u v i:Nat} {t:Tk} {k a:Int} (h:Rd w rb u v t i k a) {sb:Nat} (b:List ByteArray) (n:∀(j:Nat) (y:j<O b),w.cell? ⟨sb,j,I⟩=some (.string b[j])) (z:sb<E (U w)) (L:O b<=10) (A:∀x∈b,x.size<=10):
 Calls Tryz.prog 118 #[.pointer (aS rb),J (aS sb) (O b) (O b)] w λe B=>∃f:ByteArray,e=.returned (.string f)/\Below (E (U w)) w B/\f.size<=10/\(f.toList.isEmpty=false->bW t i k 0 f=true/\f∈b):=by
 have C:Hid (∀(j:Nat) (y:j<O b),w.cell? ⟨sb,j,I⟩=some (.string b[j])):=n;clear n;go_enter Tryz.func118,Tryz.ntmps118
 go_wp2_with fail;go_loopg [9,6] (O b) (λg D _ wr=>∃c:Nat,c<=O b/\g=O b - c/\D=vN c/\Below (E (U w)) w wr)
 case atStart=>exact⟨0,zL _,oM,Q,Below.refl _ _⟩
 case round=>
  obtain⟨c,M,o,rfl,d⟩:=hrel;have F:Hid (gk=O b - c):=o;clear o;by_cases q:c<O b
  ·have N:(c:Int)<(O b:Int):=oM;have G:wr.cell? ⟨sb,c,I⟩=some (.string b[c]):=by rw[d.cell (p:=⟨sb,c,I⟩) z];exact C.out c q
   have r:=h.below d;obtain⟨x,l⟩:∃x,x=b[c]:=⟨_,Q⟩;have s:Hid (x=b[c]):=l;rw[<-l] at G;clear l
   cases H:bW t i k 0 x
   ·go_wp2_with (go_at_call 41;refine(aW r 0 dC _).mono ?_;rintro e K ⟨rfl,m⟩)
    go_roundg (O b - (c+1))
    case measure=>rw[F.out];omega
    case rel=>exact⟨c+1,q,Q,by go_num,d.trans (m.mono d.size)⟩
   ·go_wp2_with (go_at_call 41;refine(aW r 0 dC _).mono ?_;rintro e K ⟨rfl,m⟩)
    go_ret;exact⟨x,Q,d.trans (m.mono d.size),by rw[s.out];exact A _ (List.getElem_mem _),λ_=>⟨H,by rw[s.out];exact List.getElem_mem _⟩⟩
  ·go_wp2_with fail;go_ret;exact⟨⟨#[]⟩,Q,d,dC,λe=>by simp[Lib.toList_data] at e⟩
theorem jZ (w:World) (b:List ByteArray):∀(a:Nat) (c:a<O b),(w.alloc (Ob (b.map Value.string).toArray 9)).cell? ⟨E (U w),a,I⟩=some (.string b[a]):=by
 intro a c;rw[cell_of_row _ (E (U w)) a _ 9 (0,0) (heap_alloc_new w _)];simp[c]

section
variable{c c':Array Value} {a' k':Int} {b i' n:Nat} {must:Prop} {us vs':VV} {kv':Value}
def Out (w:World) (A:List Nat) (kv:Value) (b:Nat):Prop:=E (U w)<=b/\b∉A/\kv.ownBlock≠some b
def jb (p:Nat × Array Value):Nat:=p.1
structure bI (w:World) (rb tb cap:Nat) (t:Tk) (i:Nat) (k:Int) (g:Prop) (W:World) (j:Nat) (kj aj:Int) (L:List (Nat × Array Value)) (T:VV) (kv:Value) (vs:VV):Prop where
 st:St w rb tb cap t W j kj aj
 le:i<=j
 ok:kj=0->k=0
 go:g->kj=0->i<j
 eG:∀(n:Nat) (p:Nat × Array Value),L[n]? =some p->E (U w)<=jb p/\dO W (jb p) p.2
 nd:(L.map jb).Nodup
 row:W.ownsRow (E (U w)) 46 11 kv (O vs) vs.flatten
 ef:∀b,kv.ownBlock=some b->b∉L.map jb
 all:∃h,∀x,x∈vs\/x∈T->isNode (Out w (L.map jb) kv) (kj=0) h W x
section
variable{w W w':World} {rb tb cap i j:Nat} {t:Tk} {k kj aj:Int} {g:Prop} {L:List (Nat × Array Value)} {T:VV} {kv:Value} {vs:VV}
theorem bI.start {a:Int} (h:Rd w rb tb cap t i k a):bI w rb tb cap t i k False w i k a [] [] (J I 0 0) []:=
 ⟨h.st,lR _,λd=>d,λd=>absurd d (λe=>e),λn l d=>by simp at d,sQ,World.ownsRow_nil _ _ _ _,λb d=>by simp,0,λe f=>by simp at f⟩
theorem bI.lt (q:bI w rb tb cap t i k g W j kj aj L T kv vs):∀b∈L.map jb,b<E (U W):=by
 intro b a;obtain⟨d,e,rfl⟩:=List.mem_map.1 a;obtain⟨n,f⟩:=List.getElem?_of_mem e;exact(q.eG n d f).2.lt
theorem bI.ye (q:bI w rb tb cap t i k g W j kj aj L T kv vs):∀b,kv.ownBlock=some b->b<E (U W):=λb a=>(q.row.lt b a).2
theorem bI.rk (q:bI w rb tb cap t i k g W j kj aj L T kv vs) (p:Rd w' rb tb cap t i' k' a') (d:Kp (E (U W)) rb W w') (o:j<=i') (e:k'=0->kj=0):bI w rb tb cap t i k g w' i' k' a' L T kv vs:=by
 have v:=q.st.lb;refine⟨q.st.rk p d,lT q.le o,λa=>q.ok (e a),λf a=>Nat.lt_of_lt_of_le (q.go f (e a)) o,λn l a=>⟨(q.eG n l a).1,(q.eG n l a).2.kp d (oH (q.eG n l a).1)⟩,q.nd,ag q.row (λb m r=>d.block b r (oH (q.row.lt b m).1)),q.ef,?_⟩;obtain⟨h,s⟩:=q.all;exact⟨h,λf u=>isNode.weaken (λb m=>m) e _ _ (isNode.frame (al.kp d (λa=>oH a.1)) _ _ (s f u))⟩
theorem bI.nx (q:bI w rb tb cap t i k g W j kj aj L T kv vs) (a:Nx W rb tb cap t j kj must w' i' k' a'):bI w rb tb cap t i k g w' i' k' a' L T kv vs:=q.rk a.rd a.kp a.le a.ok
theorem bI.up (q:bI w rb tb cap t i k g W j kj aj L T kv vs) {g':Prop} (a:g'->kj=0->i<j):bI w rb tb cap t i k g' W j kj aj L T kv vs:=⟨q.st,q.le,q.ok,a,q.eG,q.nd,q.row,q.ef,q.all⟩
theorem bI.qi (q:bI w rb tb cap t i k g W j kj aj L T kv vs) (a:Nx W rb tb cap t j kj True w' i' k' a'):bI w rb tb cap t i k True w' i' k' a' L T kv vs:=(q.nx a).up (λ_ d=>Nat.lt_of_le_of_lt q.le (a.go trivial d))
theorem bI.below (q:bI w rb tb cap t i k g W j kj aj L T kv vs) (a:Below (E (U W)) W w'):bI w rb tb cap t i k g w' j kj aj L T kv vs:=q.nx (Nx.below q.st.rd a)
theorem bI.alloc (q:bI w rb tb cap t i k g W j kj aj L T kv vs) (o:Obj):bI w rb tb cap t i k g (W.alloc o) j kj aj L T kv vs:=q.below ((Below.refl _ _).alloc (lR _) o)
theorem bI.new (q:bI w rb tb cap t i k g W j kj aj L T kv vs) (c:Array Value):bI w rb tb cap t i k g (W.alloc (Ob c 46)) j kj aj ((E (U W),c)::L) T kv vs:=by
 have d:=q.alloc (Ob c 46);refine⟨d.st,d.le,d.ok,d.go,?_,?_,d.row,?_,?_⟩
 ·intro n f a
  cases n with
  |zero=>
   obtain rfl:(E (U W),c)=f:=sU a;exact⟨q.st.size,dO.new W c⟩
  |succ n=>exact d.eG n f (sU a)
 ·rw[List.map_cons,List.nodup_cons];exact⟨λa=>absurd (q.lt _ a) (Nat.lt_irrefl _),q.nd⟩
 ·intro b l a;rw[List.map_cons,List.mem_cons] at a;rcases a with a|a
  ·have:=q.ye b l;simp[jb] at a;omega
  ·exact q.ef b l a
 ·obtain⟨h,m⟩:=q.all;refine⟨h,λe o=>isNode.frame (al.alloc _ _ _) _ _ (isNode.weaken ?_ (λe=>e) _ _ (isNode.low _ _ (m e o)))⟩;rintro b ⟨⟨p,r,s⟩,u⟩;refine⟨p,?_,s⟩;rw[List.map_cons,List.mem_cons];rintro(a|a)
  ·simp[jb] at a;omega
  ·exact r a
theorem nZ (a:L[n]? =some (b,c)):(L.set n (b,c')).map jb=L.map jb:=by
 apply List.ext_getElem?
 intro e;rw[List.getElem?_map,List.getElem?_map,List.getElem?_set];by_cases d:n=e
 ·subst d;rw[if_pos Q,a];have:n<O L:=(gS a).1;simp[this,jb]
 ·rw[if_neg d]
theorem bI.put (q:bI w rb tb cap t i k g W j kj aj L T kv vs) (n:Nat) (d:L[n]? =some (b,c)) (o:Nat) (u:Value):bI w rb tb cap t i k g (W.setCell ⟨b,o,I⟩ u) j kj aj (L.set n (b,c.setIfInBounds o u)) T kv vs:=by
 have v:=(q.eG n _ d).1;have y:=(q.eG n _ d).2;have x:b∈L.map jb:=List.mem_map.2 ⟨_,mG d,Q⟩;have e:(L.set n (b,c.setIfInBounds o u)).map jb=L.map jb:=nZ d;refine⟨q.st.put v o u,q.le,q.ok,q.go,?_,by rw[e];exact q.nd,?_,by rw[e];exact q.ef,?_⟩
 ·intro f p a;rw[List.getElem?_set] at a;by_cases l:n=f
  ·subst l;rw[if_pos rfl] at a;have m:n<O L:=(gS d).1;rw[if_pos m] at a;obtain rfl:(b,c.setIfInBounds o u)=p:=sU a;exact⟨v,y.set o u⟩
  ·rw[if_neg l] at a;refine⟨(q.eG f p a).1,(q.eG f p a).2.other (p:=⟨b,o,I⟩) (λz=>l ?_) u⟩;have m:n<O (L.map jb):=by rw[List.length_map];exact(gS d).1
   refine(List.getElem?_inj m q.nd).1 ?_;rw[List.getElem?_map,List.getElem?_map,d,a];show some b=some (jb p);rw[z]
 ·exact ag q.row (λr s _=>Below.heap_setCell _ _ _ _ (λa=>q.ef r s (by rw[a];exact x)))
 ·obtain⟨h,A⟩:=q.all;rw[e];exact⟨h,λr s=>isNode.frame (al.setCell _ ⟨b,o,I⟩ _ (λa=>a.2.1 x)) _ _ (A r s)⟩
theorem bI.jE (q:bI w rb tb cap t i k g W j kj aj L T kv vs) {j':Nat} (d:j'<t.len) (a:j<j'):bI w rb tb cap t i k True (W.setCell ⟨rb,1,I⟩ (vN j')) j' kj aj L T kv vs:=
 (q.rk (q.st.rd.uZ d) (Kp.setCell (p:=⟨rb,1,I⟩) (Kp.refl _ _ _) (.inr Q) _) (Nat.le_of_lt a) (λe=>e)).up (λ_ _=>Nat.lt_of_le_of_lt q.le a)
theorem bI.hold (q:bI w rb tb cap t i k g W j kj aj L T kv vs) {e:Nat} (m:E (U w)<=e) (o:∀b∈L.map jb,b<e) (p:∀b,kv.ownBlock=some b->b<e) {c:List Value} (r:eC e (kj=0) W c):bI w rb tb cap t i k g W j kj aj L (c::T) kv vs:=by
 obtain⟨h,s⟩:=q.all;obtain⟨u,v⟩:=r;refine⟨q.st,q.le,q.ok,q.go,q.eG,q.nd,q.row,q.ef,max h u,λd a=>?_⟩
 have x:(d∈vs\/d∈T)\/d=c:=by
  rcases a with a|a
  ·exact .inl (.inl a)
  ·rcases List.mem_cons.1 a with a|a
   ·exact .inr a
   ·exact .inl (.inr a)
 rcases x with a|rfl
 ·exact isNode.le (s d a) _ (Nat.le_max_left _ _)
 ·exact isNode.le (isNode.weaken (λb f=>⟨lT m f,λl=>absurd (o b l) (Nat.not_lt.2 f),λl=>absurd (p b l) (Nat.not_lt.2 f)⟩) (λd=>d) _ _ v) _ (Nat.le_max_right _ _)
theorem bI.node (q:bI w rb tb cap t i k g W j kj aj L T kv vs) (a:Nx W rb tb cap t j kj must w' i' k' a') {c:List Value} (d:eC (E (U W)) (k'=0) w' c):bI w rb tb cap t i k g w' i' k' a' L (c::T) kv vs:=
 (q.nx a).hold q.st.size q.lt q.ye d
theorem bI.tH (q:bI w rb tb cap t i k g W j kj aj L T kv vs) (a:Nx W rb tb cap t j kj True w' i' k' a') {c:List Value} (d:eC (E (U W)) (k'=0) w' c):bI w rb tb cap t i k True w' i' k' a' L (c::T) kv vs:=
 (q.qi a).hold q.st.size q.lt q.ye d
theorem bI.holds (q:bI w rb tb cap t i k g W j kj aj L T kv vs) (a:Nx W rb tb cap t j kj must w' i' k' a') (hK:Kids (E (U W)) (k'=0) w' kv' vs'):bI w rb tb cap t i k g w' i' k' a' L (vs'++T) kv vs:=by
 have d:=q.nx a;obtain⟨h,m⟩:=d.all;obtain⟨o,p⟩:=hK.all;refine⟨d.st,d.le,d.ok,d.go,d.eG,d.nd,d.row,d.ef,max h o,λe a=>?_⟩
 have r:(e∈vs\/e∈T)\/e∈vs':=by
  rcases a with a|a
  ·exact .inl (.inl a)
  ·rcases List.mem_append.1 a with a|a
   ·exact .inr a
   ·exact .inl (.inr a)
 rcases r with a|a
 ·exact isNode.le (m e a) _ (Nat.le_max_left _ _)
 ·exact isNode.le (isNode.weaken (λb f=>⟨lT q.st.size f.1,λl=>absurd (q.lt b l) (Nat.not_lt.2 f.1),λl=>absurd (q.ye b l) (Nat.not_lt.2 f.1)⟩) (λe=>e) _ _ (p e a)) _ (Nat.le_max_right _ _)
theorem bI.list (q:bI w rb tb cap t i k g W j kj aj L T (J I 0 0) []) (m:Nx W rb tb cap t j kj must w' i' k' a') (hK:Kids (E (U W)) (k'=0) w' kv' vs'):bI w rb tb cap t i k g w' i' k' a' L T kv' vs':=by
 have d:=q.nx m;obtain⟨h,o⟩:=q.all;obtain⟨p,r⟩:=hK.all;refine⟨d.st,d.le,d.ok,d.go,d.eG,d.nd,eL hK.row q.st.size,λb e a=>absurd (q.lt b a) (Nat.not_lt.2 (hK.row.lt b e).1),max h p,λl f=>?_⟩;rcases f with f|f
 ·exact isNode.le (isNode.weaken (λb e=>⟨lT q.st.size e.1,λa=>absurd (q.lt b a) (Nat.not_lt.2 e.1),e.2⟩) (λl=>l) _ _ (r l f)) _ (Nat.le_max_right _ _)
 ·have s:=isNode.frame (al.kp m.kp (λa=>oI a.1.1 q.st.lb)) _ _ (isNode.low _ _ (o l (.inr f)));refine isNode.le (isNode.weaken ?_ m.ok _ _ s) _ (Nat.le_max_left _ _);rintro b ⟨⟨u,v,_⟩,x⟩;exact⟨u,v,λa=>absurd (hK.row.lt b a).1 (Nat.not_le.2 x)⟩
theorem bI.sub (q:bI w rb tb cap t i k g W j kj aj L T kv vs) {T':VV} (a:∀x∈T',x∈T):bI w rb tb cap t i k g W j kj aj L T' kv vs:=by
 obtain⟨h,d⟩:=q.all;exact⟨q.st,q.le,q.ok,q.go,q.eG,q.nd,q.row,q.ef,h,λx e=>d x (e.imp (λx=>x) (a x))⟩
theorem bI.app (q:bI w rb tb cap t i k g W j kj aj L (us++T) kv vs) {m:Value} (r:w'.ownsRow (E (U w)) 46 11 m (O vs+O us) (vs.flatten++us.flatten)) (o:W.grownBy w' kv.ownBlock) (a:m.ownBlock=kv.ownBlock\/m.ownBlock=some (E (U W))):bI w rb tb cap t i k g w' j kj aj L T m (vs++us):=by
 obtain⟨h,s⟩:=q.all;refine⟨q.st.grown o (λb f=>(q.row.lt b f).1),q.le,q.ok,q.go,λn p d=>⟨(q.eG n p d).1,(q.eG n p d).2.grown o (λu=>q.ef _ u.symm (List.mem_map.2 ⟨p,mG d,Q⟩))⟩,q.nd,sU r,?_,h,λl e=>?_⟩
 ·intro b f d;rcases a with a|a
  ·exact q.ef b (by rw[<-a];exact f) d
  ·rw[a] at f;have:=q.lt b d;simp at f;omega
 ·have v:l∈vs\/l∈us++T:=by
   rcases e with e|e
   ·rcases List.mem_append.1 e with e|e
    ·exact .inl e
    ·exact .inr (List.mem_append.2 (.inl e))
   ·exact .inr (List.mem_append.2 (.inr e))
  refine isNode.weaken ?_ (λl=>l) _ _ (isNode.frame (al.grown o (λb d f=>f.1.2.2 d)) _ _ (isNode.low _ _ (s l v)));rintro b ⟨⟨x,y,z⟩,A⟩;refine⟨x,y,?_⟩;rcases a with a|a
  ·rw[a];exact z
  ·rw[a];intro d;simp at d;omega
theorem bI.made (q:bI w rb tb cap t i k g W j kj aj L (us++T) (J I 0 0) []) (cs:Array Value) (d:cs.toList=us.flatten) (hl:O us<=20000) (f:∀x∈us,O x=11) {ad:Nat} (m:ad=E (U W)) (o:n=O us):
 bI w rb tb cap t i k g (W.alloc (Ob cs 46)) j kj aj L T (J (aS ad) n n) us:=by
 subst m o;have a:=q.alloc (Ob cs 46)
 have p:O us.flatten=O us*11:=by
  clear d hl q a;induction us with
  |nil=>rfl
  |cons x C r=>simp only[List.flatten_cons,List.length_append,List.length_cons];rw[r (λs u=>f s (List.mem_cons_of_mem _ u)),f x (List.mem_cons_self ..)];omega
 have l:=World.ownsRow_lit (base:=E (U w)) (e:=46) (size:=11) W cs (O us) q.st.size (by unfold maxLen;omega) (by rw[<-Array.length_toList,d,p]);rw[d] at l;obtain⟨h,v⟩:=q.all;refine⟨a.st,a.le,a.ok,a.go,a.eG,a.nd,l,?_,h,λx y=>isNode.frame (al.alloc _ _ _) _ _ (isNode.weaken ?_ (λx=>x) _ _ (isNode.low _ _ (v x (.inr (List.mem_append.2 y)))))⟩
 ·intro b z e;have:=q.lt b e;simp[Value.ownBlock] at z;omega
 ·rintro b ⟨⟨A,B,_⟩,D⟩;refine⟨A,B,λe=>?_⟩;simp[Value.ownBlock] at e;omega
theorem bI.fold (q:bI w rb tb cap t i k g W j kj aj L T kv vs) (hl:O vs<=20000) {kind pos n m:Int} {name:ByteArray} (l:name.size<=20000) (o:0<=pos/\pos<=7000) (p:kj=0->Gr kind n name (vs.map aA)):bI w rb tb cap t i k g W j kj aj L ((ae kind pos n m name kv).toList::T) (J I 0 0) []:=by
 obtain⟨h,r⟩:=q.all;have f:∀a,a∈vs\/a∈T->isNode (Out w (L.map jb) (J I 0 0)) (kj=0) h W a:=λa d=>isNode.weaken (λb e=>⟨e.1,e.2.1,by simp[Value.ownBlock]⟩) (λa=>a) _ _ (r a d);refine⟨q.st,q.le,q.ok,q.go,q.eG,q.nd,World.ownsRow_nil _ _ _ _,λb s=>by simp[Value.ownBlock] at s,h+1,λa d=>?_⟩
 have u:a=(ae kind pos n m name kv).toList\/a∈T:=by
  rcases d with d|d
  ·simp at d
  ·exact List.mem_cons.1 d
 rcases u with rfl|d
 ·exact⟨kind,pos,n,m,name,kv,vs,Q,l,o,hl,eL q.row (zL _),λb e=>⟨(q.row.lt b e).1,q.ef b e,by simp[Value.ownBlock]⟩,λa d=>f a (.inl d),p⟩
 ·exact isNode.up _ _ (f a (.inr d))
theorem bI.bd {a r:Nat} (q:bI w rb tb cap t i k True W j kj aj L T kv vs) (e:∀i' k' d,(k'=0->i<i')->d<64->Bd a t i' k' d) (f:r<64):Bd a t j kj r:=e _ _ _ (q.go trivial) f
theorem bI.at (q:bI w rb tb cap t i k g W j kj aj L T kv vs) (n:Nat) (d:L[n]? =some (b,c)):(Ce W b c)/\(∀e,W.frozen? ⟨b,e,I⟩=false)/\b<E (U W)/\b≠rb:=by
 have a:=q.eG n _ d;have f:=q.st.lb;exact⟨a.2.cell,a.2.fz,a.2.lt,by have:=a.1;simp only[jb] at this;omega⟩
theorem bI.ne (q:bI w rb tb cap t i k g W j kj aj L T kv vs) (n m:Nat) {a:Nat} (e:L[n]? =some (b,c)) (f:L[m]? =some (a,c')) (h:n≠m):b≠a/\a≠b:=by
 have:b≠a:=by
  intro d;have l:n<O (L.map jb):=by rw[List.length_map];exact(gS e).1
  refine h ((List.getElem?_inj l q.nd).1 ?_);rw[List.getElem?_map,List.getElem?_map,e,f];show some b=some a;rw[d]
 exact⟨this,λd=>this d.symm⟩
theorem bI.shape (q:bI w rb tb cap t i k g W j kj aj L T kv vs):∃d e,kv=J d (O vs) e:=by
 rcases q.row.2 with⟨a,f⟩|⟨b,cap,cur,a,_⟩
 ·exact⟨I,0,by rw[a,f]⟩
 ·exact⟨_,_,a⟩
end
def ez (c:Nat) (vs:VV) (j:Nat) (kj:Int):Prop:=(kj=0->O vs<=j+c)/\O vs<=6002+c
end
section
variable{a:Act} {name:ByteArray} {k' kind m n pos:Int} {ad b i':Nat} {g:Prop} {us:VV} {v xv:Value} {w:World}
theorem isNode.ry {S:Nat->Prop}:(h:Nat)->(cs:List Value)->isNode S g h w cs->O cs=11/\∀o∈cs,o.oneCell'=true
 |0,_,hn=>absurd hn (λd=>d)
 |h+1,_,⟨kind,pos,n,m,name,kv,vs,h1,h2,h3,h3',h4,h5,h6,h7⟩=>by
  subst h1;refine⟨Q,?_⟩
  have p:∃e f l,kv=J e f l:=by
   rcases h4.2 with⟨c,_⟩|⟨d,y,z,c,_⟩
   ·exact⟨_,_,_,c⟩
   ·exact⟨_,_,_,c⟩
  obtain⟨e,f,l,rfl⟩:=p;exact oz
theorem rN (h:∀x∈us,O x=11/\∀u∈x,u.oneCell'=true):O us.flatten=O us*11/\∀u∈us.flatten,u.oneCell'=true:=by
 induction us with
 |nil=>exact⟨Q,λu c=>by simp at c⟩
 |cons x p d=>
  obtain⟨q,e⟩:=d (λf l=>h f (List.mem_cons_of_mem _ l));obtain⟨r,o⟩:=h x (List.mem_cons_self ..);refine⟨by simp only[List.flatten_cons,List.length_append,List.length_cons];omega,λu c=>?_⟩;rw[List.flatten_cons,List.mem_append] at c;exact c.elim (o u) (e u)
section
variable{w W w':World} {rb tb cap i j:Nat} {t:Tk} {k kj aj:Int} {g:Prop} {L:List (Nat × Array Value)} {T:VV} {kv:Value} {vs:VV}
theorem oP {e:Array Oper} {f:List Oper} {o:Oper} {l:Exit->Act->World->Prop} (p:o.guard=I) {s x:Operand} (q:o.op=.call {callee:=.builtin .append,args:=#[s,x],argTypes:=#[44,44]}) (r:a.eval s=v) (u:a.eval x=xv) {R:Value->World->Prop}
 (d:∃c w',(Builtin.append_ #[44,44] o.type #[v,xv]).run Tryz.prog W=.ok c w'/\R c w') (h:∀c w',R c w'->wpList Tryz.prog e l f (a.put o.dst c) w'):wpList Tryz.prog e l (o::f) a W:=by
  refine wpList_plain p λz hK=>?_;obtain⟨c,w',d,y⟩:=d;unfold Oper.wp execOp;simp only[q,resolve,invoke,builtin,Sem.run_bind,Sem.run_pure,Result.andThen_ok,List.map_toArray,List.map_cons,List.map_nil,r,u,d];exact hK _ _ (h c w' y)
theorem jh {e:Array Oper} {o:Oper} {K:Act->World->Prop} {f:Exit->Act->World->Prop} {l:Prop} (p:o.guard=I) {s x:Operand} (q:o.op=.call {callee:=.builtin .append,args:=#[s,x],argTypes:=#[44,44]}) (r:a.eval s=v) (u:a.eval x=xv) {R:Value->World->Prop}
 (d:∃c w',(Builtin.append_ #[44,44] o.type #[v,xv]).run Tryz.prog W=.ok c w'/\R c w') (h:∀c w',R c w'->K (a.put o.dst c) w'):if Region.wanted o (yielded e a.tmps)=true then Oper.wp Tryz.prog o a W K f else l:=by
  have y:Region.wanted o (yielded e a.tmps)=true:=by simp[Region.wanted,p]
  rw[if_pos y];obtain⟨c,w',d,z⟩:=d;unfold Oper.wp execOp;simp only[q,resolve,invoke,builtin,Sem.run_bind,Sem.run_pure,Result.andThen_ok,List.map_toArray,List.map_cons,List.map_nil,r,u,d];exact h c w' z
theorem bI.newAt (q:bI w rb tb cap t i k g W j kj aj L T kv vs) (d:ad=E (U W)) (c:Array Value):bI w rb tb cap t i k g (W.alloc (Ob c 46)) j kj aj ((ad,c)::L) T kv vs:=d▸q.new c
theorem bI.lJ {n:Nat} {c:Array Value} (q:bI w rb tb cap t i k g W j kj aj (L.set n (b,c)) T kv vs) (hl:n<O L) (o:Nat) (u:Value):bI w rb tb cap t i k g (W.setCell ⟨b,o,I⟩ u) j kj aj (L.set n (b,c.setIfInBounds o u)) T kv vs:=by
 have:=q.put n (b:=b) (c:=c) (by rw[List.getElem?_set,if_pos Q,if_pos hl]) o u;rwa [List.set_set] at this
theorem bI.lV (q:bI w rb tb cap t i k g W j kj aj L T kv vs) (n:Nat) {H F D C A z x u r o f:Value} (G:L[n]? =some (b,#[H,F,D,C,A,z,x,u,r,o,f])) (c0 c1 c2 c3 c d e l s y B:Value):bI w rb tb cap t i k g (bA W b c0 c1 c2 c3 c d e l s y B) j kj aj (L.set n (b,#[c0,c1,c2,c3,c,d,e,l,s,y,B])) T kv vs:=by
 have p:n<O L:=(gS G).1;have K:bI w rb tb cap t i k g (W.setCell ⟨b,0,I⟩ c0) j kj aj (L.set n (b,#[c0,F,D,C,A,z,x,u,r,o,f])) T kv vs:=q.put n G 0 c0;have M:bI w rb tb cap t i k g ((W.setCell ⟨b,0,I⟩ c0).setCell ⟨b,1,I⟩ c1) j kj aj (L.set n (b,#[c0,c1,D,C,A,z,x,u,r,o,f])) T kv vs:=K.lJ p 1 c1;have N:bI w rb tb cap t i k g (((W.setCell ⟨b,0,I⟩ c0).setCell ⟨b,1,I⟩ c1).setCell ⟨b,2,I⟩ c2) j kj aj (L.set n (b,#[c0,c1,c2,C,A,z,x,u,r,o,f])) T kv vs:=M.lJ p 2 c2;have P:bI w rb tb cap t i k g ((((W.setCell ⟨b,0,I⟩ c0).setCell ⟨b,1,I⟩ c1).setCell ⟨b,2,I⟩ c2).setCell ⟨b,3,I⟩ c3) j kj aj (L.set n (b,#[c0,c1,c2,c3,A,z,x,u,r,o,f])) T kv vs:=N.lJ p 3 c3;have R:bI w rb tb cap t i k g (((((W.setCell ⟨b,0,I⟩ c0).setCell ⟨b,1,I⟩ c1).setCell ⟨b,2,I⟩ c2).setCell ⟨b,3,I⟩ c3).setCell ⟨b,4,I⟩ c) j kj aj (L.set n (b,#[c0,c1,c2,c3,c,z,x,u,r,o,f])) T kv vs:=P.lJ p 4 c;have S:bI w rb tb cap t i k g ((((((W.setCell ⟨b,0,I⟩ c0).setCell ⟨b,1,I⟩ c1).setCell ⟨b,2,I⟩ c2).setCell ⟨b,3,I⟩ c3).setCell ⟨b,4,I⟩ c).setCell ⟨b,5,I⟩ d) j kj aj (L.set n (b,#[c0,c1,c2,c3,c,d,x,u,r,o,f])) T kv vs:=R.lJ p 5 d;have V:bI w rb tb cap t i k g (((((((W.setCell ⟨b,0,I⟩ c0).setCell ⟨b,1,I⟩ c1).setCell ⟨b,2,I⟩ c2).setCell ⟨b,3,I⟩ c3).setCell ⟨b,4,I⟩ c).setCell ⟨b,5,I⟩ d).setCell ⟨b,6,I⟩ e) j kj aj (L.set n (b,#[c0,c1,c2,c3,c,d,e,u,r,o,f])) T kv vs:=S.lJ p 6 e;have X:bI w rb tb cap t i k g ((((((((W.setCell ⟨b,0,I⟩ c0).setCell ⟨b,1,I⟩ c1).setCell ⟨b,2,I⟩ c2).setCell ⟨b,3,I⟩ c3).setCell ⟨b,4,I⟩ c).setCell ⟨b,5,I⟩ d).setCell ⟨b,6,I⟩ e).setCell ⟨b,7,I⟩ l) j kj aj (L.set n (b,#[c0,c1,c2,c3,c,d,e,l,r,o,f])) T kv vs:=V.lJ p 7 l;have Y:bI w rb tb cap t i k g (((((((((W.setCell ⟨b,0,I⟩ c0).setCell ⟨b,1,I⟩ c1).setCell ⟨b,2,I⟩ c2).setCell ⟨b,3,I⟩ c3).setCell ⟨b,4,I⟩ c).setCell ⟨b,5,I⟩ d).setCell ⟨b,6,I⟩ e).setCell ⟨b,7,I⟩ l).setCell ⟨b,8,I⟩ s) j kj aj (L.set n (b,#[c0,c1,c2,c3,c,d,e,l,s,o,f])) T kv vs:=X.lJ p 8 s;have Z:bI w rb tb cap t i k g ((((((((((W.setCell ⟨b,0,I⟩ c0).setCell ⟨b,1,I⟩ c1).setCell ⟨b,2,I⟩ c2).setCell ⟨b,3,I⟩ c3).setCell ⟨b,4,I⟩ c).setCell ⟨b,5,I⟩ d).setCell ⟨b,6,I⟩ e).setCell ⟨b,7,I⟩ l).setCell ⟨b,8,I⟩ s).setCell ⟨b,9,I⟩ y) j kj aj (L.set n (b,#[c0,c1,c2,c3,c,d,e,l,s,y,f])) T kv vs:=Y.lJ p 9 y;have aa:bI w rb tb cap t i k g (((((((((((W.setCell ⟨b,0,I⟩ c0).setCell ⟨b,1,I⟩ c1).setCell ⟨b,2,I⟩ c2).setCell ⟨b,3,I⟩ c3).setCell ⟨b,4,I⟩ c).setCell ⟨b,5,I⟩ d).setCell ⟨b,6,I⟩ e).setCell ⟨b,7,I⟩ l).setCell ⟨b,8,I⟩ s).setCell ⟨b,9,I⟩ y).setCell ⟨b,10,I⟩ B) j kj aj (L.set n (b,#[c0,c1,c2,c3,c,d,e,l,s,y,B])) T kv vs:=Z.lJ p 10 B;exact aa
theorem bI.swap {a b:List Value} (q:bI w rb tb cap t i k g W j kj aj L (a::b::T) kv vs):bI w rb tb cap t i k g W j kj aj L (b::a::T) kv vs:=
 q.sub (λd c=>by simp only[List.mem_cons] at c⊢;rcases c with h|h|h<;>simp[h])
theorem bI.lit (q:bI w rb tb cap t i k g W j kj aj L (us++T) kv vs) (cs:Array Value) (l:cs.toList=us.flatten) (hl:O us<=20000) (o:∀x∈us,O x=11) {c:Nat} (u:ad=E (U W)) (y:c=O us)
 (z:name.size<=20000) (A:0<=pos/\pos<=7000) (p:kj=0->Gr kind n name (us.map aA)):bI w rb tb cap t i k g (W.alloc (Ob cs 46)) j kj aj L ((ae kind pos n m name (J (aS ad) c c)).toList::T) kv vs:=by
  subst u y;have f:=q.alloc (Ob cs 46)
  have B:O us.flatten=O us*11:=by
   clear l hl q f p;induction us with
   |nil=>rfl
   |cons x K C=>simp only[List.flatten_cons,List.length_append,List.length_cons];rw[C (λD F=>o D (List.mem_cons_of_mem _ F)),o x (List.mem_cons_self ..)];omega
  have r:=World.ownsRow_lit (base:=0) (e:=46) (size:=11) W cs (O us) (zL _) (by unfold maxLen;omega) (by rw[<-Array.length_toList,l,B]);rw[l] at r;obtain⟨h,s⟩:=f.all;refine⟨f.st,f.le,f.ok,f.go,f.eG,f.nd,f.row,f.ef,h+1,λx d=>?_⟩
  have G:x=(ae kind pos n m name (J (aS (E (U W))) (O us) (O us))).toList\/(x∈vs\/x∈us++T):=by
   rcases d with d|d
   ·exact .inr (.inl d)
   ·rcases List.mem_cons.1 d with d|d
    ·exact .inl d
    ·exact .inr (.inr (List.mem_append.2 (.inr d)))
  rcases G with rfl|d
  ·refine⟨kind,pos,n,m,name,_,us,Q,z,A,hl,r,λb H=>?_,λx d=>s x (.inr (List.mem_append.2 (.inl d))),p⟩;obtain rfl:E (U W)=b:=by simpa[Value.ownBlock] using H
   exact⟨q.st.size,λe=>absurd (q.lt _ e) (Nat.lt_irrefl _),λe=>absurd (q.ye _ e) (Nat.lt_irrefl _)⟩
  ·exact isNode.up _ _ (s x d)
theorem bI.leaf (q:bI w rb tb cap t i k g W j kj aj L T kv vs) (e:name.size<=20000) (f:0<=pos/\pos<=7000) (l:kj=0->Gr kind n name []):bI w rb tb cap t i k g W j kj aj L ((ae kind pos n m name (J I 0 0)).toList::T) kv vs:=by
 obtain⟨h,o⟩:=q.all;refine⟨q.st,q.le,q.ok,q.go,q.eG,q.nd,q.row,q.ef,h+1,λd c=>?_⟩
 have p:d=(ae kind pos n m name (J I 0 0)).toList\/(d∈vs\/d∈T):=by
  rcases c with c|c
  ·exact .inr (.inl c)
  ·exact(List.mem_cons.1 c).imp (λd=>d) .inr
 rcases p with rfl|c
 ·exact⟨kind,pos,n,m,name,_,[],Q,e,f,sQ,World.ownsRow_nil _ _ _ _,λb r=>by simp[Value.ownBlock] at r,λd c=>by simp at c,l⟩
 ·exact isNode.up _ _ (o d c)
theorem bI.bU (q:bI w rb tb cap t i k g W j kj aj L T kv vs):bI w rb tb cap t j kj False W j kj aj L T kv vs:=⟨q.st,lR _,λc=>c,λc=>absurd c (λd=>d),q.eG,q.nd,q.row,q.ef,q.all⟩
theorem bI.aD {g':Prop} (q:bI w rb tb cap t i k g W j kj aj L T kv vs) (d:i'<=i) (e:k=0->k'=0) (f:g'->k=0->i'<i):bI w rb tb cap t i' k' g' W j kj aj L T kv vs:=
 ⟨q.st,lT d q.le,λc=>e (q.ok c),λl c=>Nat.lt_of_lt_of_le (f l (q.ok c)) q.le,q.eG,q.nd,q.row,q.ef,q.all⟩
theorem bI.pop {p:Nat × Array Value} (q:bI w rb tb cap t i k g W j kj aj (p::L) T kv vs):bI w rb tb cap t i k g W j kj aj L T kv vs:=by
 obtain⟨h,l⟩:=q.all;have f:=q.nd;rw[List.map_cons,List.nodup_cons] at f;refine⟨q.st,q.le,q.ok,q.go,λn c d=>q.eG (n+1) c (sU d),f.2,q.row,λb e d=>q.ef b e (by rw[List.map_cons];exact List.mem_cons_of_mem _ d),h,λc o=>isNode.weaken (λb e=>⟨e.1,λd=>e.2.1 (by rw[List.map_cons];exact List.mem_cons_of_mem _ d),e.2.2⟩) (λc=>c) _ _ (l c o)⟩
theorem ez.snoc {m:Nat} {c:List Value} (h:ez m vs j kj) (d:kj=0) (o:j<t.len) (e:t.Good) (f:k'=0->j<i'):ez m (vs++[c]) i' k':=by
 have p:=h.1 d;have q:=e.bB;refine⟨λl=>?_,?_⟩
 ·have:=f l;simp;omega
 ·simp;omega
end
end
section
variable{i:Nat} {t:Tk}
theorem dx (c:t.Good) (e:i<t.len) (h:t.kind i≠0):i+1<t.len:=by
 rcases Nat.lt_or_ge (i+1) t.len with a|a
 ·exact a
 ·have d:i=t.len - 1:=oM;have b:=c.last;rw[<-d] at b;exact absurd b h
section
variable{w W w':World} {rb tb cap i j:Nat} {t:Tk} {k kj aj:Int} {g:Prop} {L:List (Nat × Array Value)} {T:VV} {kv:Value} {vs:VV}
theorem bI.kids (q:bI w rb tb cap t i k g W j kj aj L T kv vs):Kids (E (U w)) (kj=0) W kv vs:=by
 obtain⟨h,c⟩:=q.all;exact⟨q.row,h,λa d=>isNode.weaken (λe b=>⟨b.1,b.2.2⟩) (λa=>a) _ _ (c a (.inl d))⟩
theorem bI.xH (q:bI w rb tb cap t i k g W j kj aj L T kv vs):bI w rb tb cap t i k g W j kj aj L (vs++T) (J I 0 0) []:=by
 obtain⟨h,d⟩:=q.all;refine⟨q.st,q.le,q.ok,q.go,q.eG,q.nd,World.ownsRow_nil _ _ _ _,λe f=>by simp[Value.ownBlock] at f,h,λb a=>isNode.weaken (λe c=>⟨c.1,c.2.1,by simp[Value.ownBlock]⟩) (λb=>b) _ _ (d b ?_)⟩;rcases a with a|a
 ·simp at a
 ·exact List.mem_append.1 a
theorem bI.first {n:OA} {p:Nat} (q:bI w rb tb cap t i k g W j kj aj L T (J n (O vs) p) vs) (r:O vs=1):∃a,n=some ⟨a,0,I⟩/\a<E (U W)/\a≠rb/\a∉L.map jb/\∃b pos c d e f l m,vs=[(ae b pos c d e (J f l m)).toList]/\∀o,o<11->W.cell? ⟨a,o,I⟩=(ae b pos c d e (J f l m))[o]? :=by
 obtain⟨s,rfl⟩:=List.length_eq_one_iff.1 r;have hK:Kids (E (U w)) (kj=0) W (J n 1 p) [s]:=q.kids;obtain⟨a,rfl,x,u,b,pos,c,d,e,f,l,m,rfl,v,_⟩:=hK.first
 have y:=q.st.lb;exact⟨a,Q,u,oM,q.ef a Q,b,pos,c,d,e,f,l,m,Q,v⟩
theorem bI.jM {b:Nat} (q:bI w rb tb cap t i k g W j kj aj L T kv vs) (f:b∉L.map jb) (n:Nat) {a:Nat} {c:Array Value} (l:L[n]? =some (a,c)):b≠a/\a≠b:=by
 have _:=q.nd;have e:b≠a:=λd=>f (List.mem_map.2 ⟨_,mG l,d▸rfl⟩);exact⟨e,λd=>e d.symm⟩
end
end
def oN (e:Ending):Prop:=∃b:Bool,e=.returned (.bool b)
theorem pJ {w:World} {rb d e i:Nat} {t:Tk} {k a:Int} (h:Rd w rb d e t i k a):
 Calls Tryz.prog 86 #[.pointer (aS rb)] w λc f=>oN c/\Below (E (U w)) w f:=by
 have b:=Below.refl (E (U w)) w;go_enter Tryz.func86,Tryz.ntmps86
 go_wp2_with (go_at_call 41;refine(aW (h.below b) 0 dC _).mono ?_;rintro c l ⟨rfl,j⟩;have b:=b.trans (j.mono b.size))
 all_goals
  go_ret;exact⟨⟨_,Q⟩,b⟩
theorem sV (s:ByteArray) (w:World) (f:s.size<=20000):
 Calls Tryz.prog 116 #[.string s] w λd e=>oN d/\e=w:=by
 go_enter Tryz.func116,Tryz.ntmps116
 go_wp2_with fail;go_loop [3] (λb=>∃a:Nat,a<=s.size/\b=vN a) (λb=>s.size - (intOf b).toNat)
 case atStart=>exact⟨0,zL _,Q⟩
 case round=>
  obtain⟨a,i,rfl⟩:=hrel;by_cases c:a<s.size
  ·cases j:(((s[a]'c).toNat:Int)==58)
   ·go_wp2_with fail;go_round
    case rel=>exact⟨a+1,c,by go_num⟩
    case measure=>simp[intOf];omega
   ·go_wp2_with fail;go_ret;exact⟨⟨_,Q⟩,Q⟩
  ·go_wp2_with fail;go_ret;exact⟨⟨_,Q⟩,Q⟩
section
variable{k:Int} {cp gb i:Nat} {t:Tk}
theorem Bd.dA {d:Nat} {r:Nat} (h:Bd (d+1) t i k r) (e:k=0) (hl:i<t.len):∀a b c,(b=0->i<a)->c<64->Bd d t a b c:=by
 intro a b c f m;have n:=h.1 e;have o:1*64<=(t.len - i)*64:=Nat.mul_le_mul_right _ oM;refine⟨λl=>?_,oM⟩;have:=f l;have p:(t.len - a+1)*64<=(t.len - i)*64:=Nat.mul_le_mul_right _ oM;omega
theorem fN (t:Tk) (i:Nat) (k:Int) (r:Nat):Bd ((t.len - i)*64+r) t i k r:=⟨λ_=>lR _,oM⟩
section
variable{w W w':World} {rb tb cap i j:Nat} {t:Tk} {k kj aj:Int} {g:Prop} {L:List (Nat × Array Value)} {T:VV} {kv:Value} {vs:VV}
def Rest (c:Array Value) (vs:VV) (cp:Nat):Prop:=O vs<=cp/\cp<=maxLen/\c.size=cp*11/\c.toList.take (O vs*11)=vs.flatten/\O vs.flatten=O vs*11
theorem bI.sX (q:bI w rb tb cap t i k g W j kj aj L T (J (aS gb) (O vs) cp) vs):∃l,Rest l vs cp/\bI w rb tb cap t i k g W j kj aj ((gb,l)::L) (vs++T) (J I 0 0) []:=by
 obtain⟨h,o⟩:=q.all;have m:=q.row;rcases m.2 with⟨d,_⟩|⟨g',cap',cur,d,b,hg,hnc,hcm,hcs,htake⟩
 ·simp at d
 ·obtain⟨rfl,rfl⟩:gb=g'/\cp=cap':=sU d;have p:gb∉L.map jb:=q.ef gb Q;refine⟨cur,⟨hnc,hcm,hcs,htake,m.1⟩,q.st,q.le,q.ok,q.go,?_,?_,World.ownsRow_nil _ _ _ _,λr a=>by simp[Value.ownBlock] at a,h,λe c=>?_⟩
  ·intro f n a
   cases f with
   |zero=>
    obtain rfl:(gb,cur)=n:=sU a;exact⟨b,hg⟩
   |succ f=>exact q.eG f n (sU a)
  ·rw[List.map_cons,List.nodup_cons];exact⟨p,q.nd⟩
  ·refine isNode.weaken (λr b=>⟨b.1,?_,by simp[Value.ownBlock]⟩) (λe=>e) _ _ (o e ?_)
   ·rcases c with c|c
    ·simp at c
    ·exact List.mem_append.1 c
   ·rw[List.map_cons,List.mem_cons];rintro(a|a)
    ·exact b.2.2 (by rw[a];rfl)
    ·exact b.2.1 a
theorem bI.l' {c:Array Value} (l:Rest c vs cp) (q:bI w rb tb cap t i k g W j kj aj ((gb,c)::L) (vs++T) (J I 0 0) []):bI w rb tb cap t i k g W j kj aj L T (J (aS gb) (O vs) cp) vs:=by
 obtain⟨h,m⟩:=q.all;obtain⟨n,o,p,r,s⟩:=l;have e:=q.nd;rw[List.map_cons,List.nodup_cons] at e;have b:=q.eG 0 (gb,c) Q;refine⟨q.st,q.le,q.ok,q.go,λu d a=>q.eG (u+1) d (sU a),e.2,⟨s,.inr ⟨gb,cp,c,Q,b.1,b.2,n,o,p,r⟩⟩,?_,h,λd v=>?_⟩
 ·intro f a;obtain rfl:gb=f:=by simpa[Value.ownBlock] using a
  exact e.1
 ·refine isNode.weaken (λf b=>⟨b.1,λa=>b.2.1 (by rw[List.map_cons];exact List.mem_cons_of_mem _ a),λa=>b.2.1 ?_⟩) (λd=>d) _ _ (m d (.inr (List.mem_append.2 v)));obtain rfl:gb=f:=by simpa[Value.ownBlock] using a
  rw[List.map_cons];exact List.mem_cons_self ..
theorem dw {kind n:Int} {l:Nat} (h:kind≠8/\kind≠108):fL kind n l=kind:=by unfold fL;rw[if_neg (λa=>h.1 a.1),if_neg h.2]
end
end
section
section
variable{w W w':World} {rb tb cap i j:Nat} {t:Tk} {k kj aj:Int} {g:Prop} {L:List (Nat × Array Value)} {T:VV} {kv:Value} {vs:VV}
theorem bI.pR {a b:Nat × Array Value} (q:bI w rb tb cap t i k g W j kj aj (a::b::L) T kv vs):bI w rb tb cap t i k g W j kj aj (b::a::L) T kv vs:=by
 obtain⟨h,p⟩:=q.all
 have o:∀d,d∈(b::a::L).map jb↔d∈(a::b::L).map jb:=by
  intro d;simp only[List.map_cons,List.mem_cons];constructor<;>(rintro(c|c|c)<;>simp[c])
 refine⟨q.st,q.le,q.ok,q.go,?_,?_,q.row,λd f c=>q.ef d f ((o d).1 c),h,λd f=>isNode.weaken (λr l=>⟨l.1,λc=>l.2.1 ((o r).1 c),l.2.2⟩) (λd=>d) _ _ (p d f)⟩
 ·intro m n c;match m,c with
  |0,c=>exact q.eG 1 n c
  |1,c=>exact q.eG 0 n c
  |m+2,c=>exact q.eG (m+2) n c
 ·have e:=q.nd;simp only[List.map_cons,List.nodup_cons,List.mem_cons,not_or] at e⊢;exact⟨⟨λc=>e.1.1 c.symm,e.2.1⟩,e.1.2,e.2.2⟩
theorem bI.wm (q:bI w rb tb cap t i k g W j kj aj L T kv vs) (h:1<=O vs):∃a c,kv=J (aS a) (O vs) c:=by
 rcases q.row.2 with⟨_,d⟩|⟨b,cap,cur,h1,_⟩
 ·omega
 ·exact⟨_,_,h1⟩
theorem bI.kE {b:OA} {d:Nat} (q:bI w rb tb cap t i k g W j kj aj L T (J b (O vs) d) vs) (h:1<=O vs):∃a,b=some ⟨a,0,I⟩:=by
 obtain⟨a,e,c⟩:=q.wm h;exact⟨a,by simp at c;exact c.1⟩
end
end
section
variable{us:VV}
theorem kY (b:∀x∈us,O x=11):∀{idx:Nat} {x:List Value},us[idx]? =some x->∀a,a<11->us.flatten[idx*11+a]? =x[a]? :=by
 induction us with
 |nil=>intro idx x h;simp at h
 |cons c n d=>
  intro idx x h a e;have f:=b c (List.mem_cons_self ..);rw[List.flatten_cons]
  cases idx with
  |zero=>
   obtain rfl:c=x:=sU h;rw[List.getElem?_append_left oM];congr 1
   omega
  |succ idx=>
   rw[List.getElem?_append_right oM,f];have:=d (λl m=>b l (List.mem_cons_of_mem _ m)) (idx:=idx) (x:=x) (sU h) a e;rw[<-this];congr 1
   omega
section
variable{w W w':World} {rb tb cap i j:Nat} {t:Tk} {k kj aj:Int} {g:Prop} {L:List (Nat × Array Value)} {T:VV} {kv:Value} {vs:VV}
theorem bI.look (q:bI w rb tb cap t i k g W j kj aj L T kv vs) {x:List Value} (o:x∈T):∃d pos e f l a b c,x=(ae d pos e f l (J a b c)).toList/\(0<=pos/\pos<=7000):=by
 obtain⟨h,p⟩:=q.all;have n:=p x (.inr o)
 cases h with
 |zero=>exact absurd n (λx=>x)
 |succ h=>
  obtain⟨d,pos,e,f,l,r,B,s,C,u,D,v,F,G,H⟩:=n
  have A:∃a b c,r=J a b c:=by
   rcases v.2 with⟨m,_⟩|⟨x,y,z,m,_⟩
   ·exact⟨_,_,_,m⟩
   ·exact⟨_,_,_,m⟩
  obtain⟨a,b,c,rfl⟩:=A;exact⟨d,pos,e,f,l,a,b,c,s,u⟩
theorem bI.nth {p v:Nat} {c:Array Value} (q:bI w rb tb cap t i k g W j kj aj L T kv vs) (y:Rest c us v) (n:Nat) (z:L[n]? =some (p,c)) (r:∀x∈us,x∈T) {idx:Nat} (s:idx<O us):
 ∃b pos n d e f l m,us[idx]? =some (ae b pos n d e (J f l m)).toList/\(0<=pos/\pos<=7000)/\∀a,a<11->W.cell? ⟨p,idx*11+a,I⟩=(ae b pos n d e (J f l m))[a]? :=by
 have o:us[idx]? =some us[idx]:=gG s;have A:us[idx]∈us:=List.getElem_mem s;obtain⟨b,pos,B,d,e,f,l,m,u,C⟩:=q.look (r _ A);refine⟨b,pos,B,d,e,f,l,m,by rw[o,u],C,λa D=>?_⟩;obtain⟨h,F⟩:=q.all;have G:∀x∈us,O x=11:=λx o=>(isNode.ry _ _ (F x (.inr (r x o)))).1;have H:=kY G o a D;have K:=(q.eG n _ z).2;have M:idx*11+a<O us*11:=oM;have N:W.cell? ⟨p,idx*11+a,I⟩=c[idx*11+a]? :=K.cell _;rw[N];have P:(c.toList.take (O us*11))[idx*11+a]? =c[idx*11+a]? :=by rw[List.getElem?_take,if_pos M];simp
 rw[<-P,y.2.2.2.1,H,u];simp
end
end
end Go.Proofs.YtcnnibahjmekdaaGreat
