import Derived.Test.YtdghkacbpebcoaaGreatS03
import Derived.Test.YtdghkacbpebcoaaGreatS05
import Derived.Test.YtdghkacbpebcoaaGreatS07
import Derived.Test.YtdghkacbpebcoaaGreatS08
import Derived.Test.YtdghkacbpebcoaaGreatS09
import Derived.Test.YtdghkacbpebcoaaGreatS10
import Derived.Test.YtdghkacbpebcoaaGreatS11
import Derived.Test.YtdghkacbpebcoaaGreatS12
import Derived.Test.YtdghkacbpebcoaaGreatS13
import Derived.Test.YtdghkacbpebcoaaGreatS14
import Derived.Test.YtdghkacbpebcoaaGreatS15
import Derived.Test.YtdghkacbpebcoaaGreatS16
import Derived.Test.YtdghkacbpebcoaaGreatS17
import Derived.Test.YtdghkacbpebcoaaGreatS18
import Derived.Test.YtdghkacbpebcoaaGreatS19
namespace Go.Proofs.YtdghkacbpebcoaaGreat
open Go.RowKit
open Value renaming slice→J
open List renaming length→O
open Option renaming none→I
open World renaming heap→U
open _root_.Array renaming size→E
open Obj renaming cells→Ob
set_option linter.all false
set_option maxRecDepth 100000
set_option maxHeartbeats 0
theorem qH {e:Nat} {w:World} {rb f j i:Nat} {t:Tk} {k a:Int} (h:Rd w rb f j t i k a) (l:Bd (e+1) t i k 3) (m:bS t i k 0 ⟨#[105,110,116]⟩=false) (n:bS t i k 0 ⟨#[98,111,111,108]⟩=true):Calls Tryz.prog 75 #[.pointer (some ⟨rb,0,I⟩)] w (aZ 3 w rb f j t i k True 8 cx):=by
 have q:=h.l;have r:Hid (Bd (e+1) t i k 3):=l;clear l;have o:(0:Int)<=(t.pos i:Int)/\(t.pos i:Int)<=7000:=oH (h.ar.aQ i);go_enter Tryz.func75,Tryz.ntmps75
 have s:=dx;have u:(i:Int)<(t.len:Int):=oH h.lt;have v:(t.len:Int)<=6001:=oH h.ar.bj;have b:=Mz.start (wt:=3) h;go_wp2_with fail;refine(b.ne' (sz w) (aB)).lf (aF · 0) ?_;clear b;intro p b;have c:=b.f1;go_wp2_with fail;refine(b.ne' (sz p) (nk 0 (t.pos i) nl)).lf (bw · _ m) ?_;clear b c;intro x b;have c:=b.f2;go_wp2_with fail;refine b.ey (eH · _ n) ?_;clear b c;intro y b;have c:=b.f2;go_wp2_with fail;go_light;exact Mz.cq (C:=cx) (d:=8) Tryz.results75 Q Q ((b.fA 14).lk 14 (t.pos i) 0 0 ⟨#[]⟩ o dC (λ_=>Gr.free (.inr (.inr (.inl Q))))) 1 Q (λ_=>⟨by show(13:Int)<=14;decide,by show(14:Int)<=18;decide⟩) oM Q
theorem rO {e:Nat} (n:sF 3 e) {w:World} {rb f j i:Nat} {t:Tk} {k a:Int} (h:Rd w rb f j t i k a) (l:Bd (e+1) t i k 3) (o:bS t i k 0 ⟨#[105,110,116]⟩=false) (p:bS t i k 0 ⟨#[98,111,111,108]⟩=false) (q:bS t i k 0 ⟨#[40]⟩=false) (m:bS t i k 0 ⟨#[38]⟩=true):Calls Tryz.prog 75 #[.pointer (some ⟨rb,0,I⟩)] w (aZ 3 w rb f j t i k True 8 cx):=by
 have v:=h.l;have r:Hid (Bd (e+1) t i k 3):=l;clear l;have x:(0:Int)<=(t.pos i:Int)/\(t.pos i:Int)<=7000:=oH (h.ar.aQ i);go_enter Tryz.func75,Tryz.ntmps75
 have y:=dx;have z:(i:Int)<(t.len:Int):=oH h.lt;have A:(t.len:Int)<=6001:=oH h.ar.bj;have b:=Mz.start (wt:=3) h;go_wp2_with fail;refine(b.ne' (sz w) (aB)).lf (aF · 0) ?_;clear b;intro s b;have c:=b.f1;go_wp2_with fail;refine(b.ne' (sz s) (nk 0 (t.pos i) nl)).lf (bw · _ o) ?_;clear b c;intro B b;have c:=b.f2;go_wp2_with fail;refine b.lf (bw · _ p) ?_;clear b c;intro D b;have c:=b.f2;go_wp2_with fail;refine b.lf (bw · _ q) ?_;clear b c;intro F b;have c:=b.f2;go_wp2_with fail;refine b.lf (aX · 0 dC _) ?_;clear b c;intro G b;have c:=b.f2;go_wp2_with fail;refine b.nd (n · (du h.ar h.lt m).1 (du h.ar h.lt m).2 (r.out.down b.le b.ok dC)) ?_;clear b c;intro H K L M N u P b;have c:=b.f2;go_wp2_with fail;go_light;exact Mz.cq (C:=cx) (d:=8) Tryz.results75 Q Q b 1 Q u oM Q
theorem vF {n:Nat} (H:nh 3 n):qC 3 (n+1):=by
 intro w s u v k t j K h x ab;have ac:=h.l;have L:Hid (Bd (n+1) t k j 4):=x;clear x;go_enter Tryz.func76,Tryz.ntmps76
 have a:=Mz.start (wt:=3) h;go_wp2_with fail;refine a.et (aU · _) ?_;clear a;intro ad M y N a;go_wp2_with fail
 ·go_wp2_with fail;go_ret;exact Mz.post (d:=0) (a.up (g':=True) (λ_ _=>oH (N.yes ‹_›).1)) (λ_=>trivial) sQ (λ_ b p=>by cases p) oM
 ·obtain rfl:M=false:= ‹_›;go_wp2_with fail;go_loopg [5] (ml t y j) (λg P wr=>∃(e:List (List Value)) (c:Nat) (i q:Int),g=ml t c i/\dQ 0 e c i/\(i=0->(λl=>∀b∈l,cx b) (e.map az))/\Mz 3 w s u v t k j False (0) wr c i q [] [] P e)
  case atStart=>exact⟨[],y,j,K,Q,⟨λ_=>by simp,sQ⟩,(λf=>(λb p=>by cases p)),(a.up (λb=>b.elim)).less oM⟩
  case round=>
   clear a;obtain⟨e,c,i,q,z,hF,A,a⟩:=hrel;have o:Hid (i=0->(λl=>∀b∈l,cx b) (e.map az)):=A;clear A;have B:=a.st.rd.lt;have ae:(0:Int)<=(t.pos c:Int)/\(t.pos c:Int)<=7000:=oH (h.ar.aQ c);have R:Hid (gk=ml t c i):=z;clear z;obtain⟨S,T,rfl⟩:=a.shape
   cases r:(i==0)
   ·go_wp2_with fail;refine a.lf aW ?_;clear a;intro af a;go_wp2_with fail;go_ret;exact Mz.post (d:=0) (a.up (g':=True) (λ_ f=>absurd f (sU r))) (λ_=>trivial) hF.2 (λf=>absurd f (sU r)) oM
   ·obtain rfl:i=0:=sU r;have m:Hid (k<=c/\j=0):=⟨a.le,a.ok Q⟩;replace o:Hid ((λl=>∀b∈l,cx b) (e.map az)):=o.out Q;have V:Hid (∀i' k',c<=i'->Bd n t i' k' 3):=λi' k' C=>L.out.down (lT a.le C) (λ_=>a.ok Q) dC;have W:O e<=6001:=oI (hF.1 Q) h.ar.bj;replace a:Mz 3 w s u v t c 0 False (16*((c:Int) - (k:Int))+(0)) wr c 0 q [] [] (J S (O e) T) e:=a.bP.less oM;go_wp2_with fail;refine a.lf aW ?_;clear a;intro ag a;go_wp2_with fail;refine a.nd (H · (V.out _ _ a.le)) ?_;clear a;intro X Y ah ai aj D _ a;go_wp2_with (at_builtin;refine a.ap (sz X) (lT W dC) ?_;clear a;intro ak al ao a)
    go_wp2_with fail;refine a.et (aU · _) ?_;clear a;intro ap aq ar au a;go_wp2_with fail
    ·go_wp2_with fail;go_ret;exact Mz.post (d:=0) ((a.aE (i':=k) (k':=j) (g':=False) (s':= -8) m.out.1 (λ_=>m.out.2) (λb=>b.elim) oM).up (g':=True) (λ_ f=>Nat.lt_of_le_of_lt m.out.1 (a.go trivial f))) (λ_=>trivial) (by have C:=hF.1 rfl;have av:=h.ar.bj;simp only[List.length_append,List.length_cons,List.length_nil];omega) (λf=>by rw[List.map_append];exact aO o.out (D f)) oM
    ·go_wp2_with fail;refine a.wn (aI · _) ?_;clear a;intro aw F G Z aa a;go_wp2_with fail;go_roundg (ml t F G)
     case measure=>rw[R.out];exact bN B a.le (a.go trivial)
     case rel=>exact⟨(e++[Y.t]),F,G,Z,Q,dQ.snoc (t:=t) hF Q B h.ar (a.go trivial),(λf=>by rw[List.map_append];exact aO o.out (D (aa.out f))),a.aE (s':=0) m.out.1 (λ_=>m.out.2) (λb=>b.elim) oM⟩
theorem jN:mH 3 91 True 8 λi=>i=19:=by
 intro w r s t b c o u h;have v:=h.l;have k:(0:Int)<=(c.pos b:Int)/\(c.pos b:Int)<=7000:=oH (h.ar.aQ b);go_enter Tryz.func91,Tryz.ntmps91
 have x:=cy;have y:(b:Int)<(c.len:Int):=oH h.lt;have z:(c.len:Int)<=6001:=oH h.ar.bj;have a:=Mz.start (wt:=3) h;go_wp2_with fail;refine(a.ne' (sz w) (aB)).lf (aF · 19) ?_;clear a;intro l a;have e:=a.f1
 cases p:cj c b o 0 4
 ·go_wp2_with fail;refine(a.ne' (sz l) (nk 19 (c.pos b) nl)).lf (bC · 0 dC 4) ?_;clear a e;intro A a;have e:=a.f2;go_wp2_with fail;refine(ik a.st.rd).mono ?_;rintro f B ⟨rfl,⟨D,F,j,m⟩,n⟩;replace a:=((a.rk m n (lR _) (λf=>absurd f j)).up (g':=True) (λ_ f=>absurd f j)).dead (s':=(-100)) j;clear m n;replace e:=a.f2;go_wp2_with fail;go_light;exact Mz.cq (C:=λi=>i=19) (d:=8) Tryz.results91 Q Q (a.lk 19 (c.pos b) 0 0 ⟨#[]⟩ k dC (λf=>absurd f j)) 1 Q (λ_=>rfl) oM Q
 ·go_wp2_with fail;refine(a.ne' (sz l) (nk 19 (c.pos b) nl)).lf (bC · 0 dC 4) ?_;clear a e;intro G a;have e:=a.f2;have q:b+1<c.len:=(ia h.ar h.lt dC p).2.1;go_wp2_with fail;refine a.lf dE ?_;clear a e;intro H a;have e:=a.f2;have K:=a.st.rd.r1;have L:=a.st.rd.fz 1;have M:=a.st.rd.l;go_wp2_with fail;go_light;exact Mz.cq (C:=λi=>i=19) (d:=8) Tryz.results91 Q Q (((a.gI (c.text b)).jB (j':=b+1) q (Nat.lt_succ_self _)).lk 19 (c.pos b) 0 0 (c.text b) k (lT (h.ar.pJ b) dC) (λ_=>Gr.free (.inr (.inr (.inr Q))))) 1 Q (λ_=>rfl) oM Q
section
variable{k:Int} {N cap i rb tb:Nat} {must:Prop} {t:Tk} {w w':World}
theorem qO (a:nh 3 N):sF 3 (N+1):=by
 intro w rb tb cap i t k o h m b n;have c:Hid (∀f j l,(j=0->i<f)->l<64->Bd N t f j l):=n.dh m h.lt
 cases d:bS t i k 0 ⟨#[38,38]⟩<;>cases e:cj t (i+1) k 0 4
 ·exact vS a jN h b c d e
 ·exact vT a jN h b c d e
 ·exact vU a jN h b c d e
 ·exact vV a jN h b c d e
theorem qE (m:nh 3 N) (j:qC 3 N) (n:sF 3 N) (p:qk 3 N):nh 3 (N+1):=by
 intro w rb tb cap i t k q h a
 cases b:bS t i k 0 ⟨#[105,110,116]⟩
 ·cases c:bS t i k 0 ⟨#[98,111,111,108]⟩
  ·cases d:bS t i k 0 ⟨#[40]⟩
   ·cases e:bS t i k 0 ⟨#[38]⟩
    ·cases f:bS t i k 0 ⟨#[38,38]⟩
     ·cases l:bS t i k 0 ⟨#[102,110]⟩
      ·exact qG p h a b c d e f l
      ·cases o:cj t (i+1) k 0 4
       ·exact uz j m jN h a b c d e f l o
       ·exact rR j m jN h a b c d e f l o
     ·exact qF n h a b c d e f
    ·exact rO n h a b c d e
   ·exact rN j h a b c d
  ·exact qH h a b c
 ·exact rP h a b
theorem iS:(N:Nat)->nh 3 N/\qC 3 N/\sF 3 N/\qk 3 N
 |0=>⟨λ_ a=>absurd a.2 dC,λ_ a=>absurd a.2 dC,λ_ _ _ a=>absurd a.2 dC,λ_ a=>absurd a.2 dC⟩
 |N+1=>
  let⟨hT,hTs,hR,hA⟩:=iS N
  ⟨qE hT hTs hR hA,vF hT,qO hT,yh hT jN⟩
theorem aZ.le {d:Int} {C:Int->Prop} {e:Ending} (h:aZ 3 w rb tb cap t i k must d C e w'):aZ 1 w rb tb cap t i k must d C e w':=by
 obtain⟨a,b,c,f,j,l,m,n,o,p,q,r,s,u,v,x⟩:=h;exact⟨a,b,c,f,j,l,m,n,o,p,q,r,s,u,v,λe y=>by have:=x e y;rw[jk] at this⊢;omega⟩
theorem fV (N:Nat):nh 1 N:=λh a=>((iS N).1 h a).mono (λ_ _ b=>b.le)
theorem pn:mH 1 91 True 8 λa=>a=19:=λh=>(jN h).mono (λ_ _ b=>b.le)
theorem uE (f:Nat) (w:World) (vs:List (List Value)):(O vs:Int)<=eU 1 (f+1) w vs:=by
 induction vs with
 |nil=>rw[cX];simp
 |cons a vs b=>
  have c:1<=f' 1 (f+1) w a:=by show 1<=1+_;omega
  rw[cL,List.length_cons];omega
theorem Mz.xI {W:World} {j:Nat} {l x:Int} {g:Prop} {s:Int} {m:List (Nat × Array Value)} {T:List (List Value)} (q:Mz 1 w rb tb cap t i k g s W j l x m T (J I 0 0) []) {i':Nat} {k' n:Int} (b:Nx W rb tb cap t j l must w' i' k' n) {o:Value} {a:List (List Value)} (hK:Kids (E (U W)) (k'=0) w' o a) (p:k'=0->∀f,eU 3 f w' a+0<=16*((i':Int) - (j:Int))):Mz 1 w rb tb cap t i k g (s - (O a)) w' i' k' n m (a++T) o a:=by
 have y:k'=0->∀f,eU 1 f w' a+0<=16*((i':Int) - (j:Int)):=λe f=>by
  have d:=p e f;have r:=cK 1 f w' a;rw[r7] at d;omega
 have c:=q.list b hK y;obtain⟨h,z⟩:=c.cV.all;have C:=q.nx b;refine⟨⟨c.cV.st,c.cV.le,c.cV.ok,c.cV.go,c.cV.dV,c.cV.nd,c.cV.row,c.cV.eK,h,λA b=>z A ?_⟩,λe f=>?_⟩
 ·rcases b with b|b
  ·exact .inl b
  ·rcases List.mem_append.1 b with b|b
   ·exact .inl b
   ·exact .inr b
 ·have u:∀f,eU 1 (f+1) w' a+eU 1 (f+1) w' (a++T)<=16*((i':Int) - (i:Int))+(s - (O a)):=λf=>by
   have d:=p e (f+1);have r:=uE f w' a;have v:=(q.cV.gq (wt:=1) b.kp (f+1)).2;have B:=q.sz (b.ok e) (f+1);rw[r7] at d;rw[bK,v];rw[cX] at B;omega
  cases f with
  |zero=>
   have d:=u 0;have r:eU 1 0 w' a<=eU 1 1 w' a:=by have:=jl 1 0 w' a;simp only[Nat.zero_add] at this;unfold eU;omega
   have v:eU 1 0 w' (a++T)<=eU 1 1 w' (a++T):=by have:=jl 1 0 w' (a++T);simp only[Nat.zero_add] at this;unfold eU;omega
   simp only[Nat.zero_add] at d;omega
  |succ f=>exact u f
end
theorem uy {n:Nat} (u:eS 82 18 n) (s:eS 63 7 n) (x:gz 101 8 n) (y:gz 102 8 n) (z:gz 103 8 n) (A:gz 104 8 n) (B:tD 105 True λ_=>True) (C:mH 1 78 False (-1) cx):tV (n+1):=by
 intro w D F G d e H a h b
 cases c:((e.text d).toList==[116,114,117,101])
 ·cases f:((e.text d).toList==[102,97,108,115,101])
  ·cases i:((e.text d).toList==[98,114,101,97,107])
   ·cases j:((e.text d).toList==[110,101,120,116])
    ·cases k:((e.text d).toList==[112,97,110,105,99])
     ·cases l:((e.text d).toList==[114,101,116,117,114,110])
      ·cases m:((e.text d).toList==[105,102])
       ·cases o:((e.text d).toList==[109,97,116,99,104])
        ·cases p:((e.text d).toList==[119,104,105,108,101])
         ·cases q:((e.text d).toList==[108,111,111,112])
          ·cases r:((e.text d).toList==[109,97,107,101])
           ·cases t:((e.text d).toList==[102,110])
            ·cases v:((e.text d).toList==[115,112,97,119,110])
             ·exact oD a h Q b c f i j k l m o p q r t v
             ·exact oE s B C a h Q b c f i j k l m o p q r t v
            ·exact oF A a h Q b c f i j k l m o p q r t
           ·exact oG z a h Q b c f i j k l m o p q r
          ·exact qn s a h Q b c f i j k l m o p q
         ·exact qp u s a h Q b c f i j k l m o p
        ·exact qq y a h Q b c f i j k l m o
       ·exact qs x a h Q b c f i j k l m
      ·exact qt u a h Q b c f i j k l
     ·exact qu a h Q b c f i j k
    ·exact qv a h Q b c f i j
   ·exact qw a h Q b c f i
  ·exact qy a h Q b c f
 ·exact qz a h Q b c
section
variable{a k:Int} {N cap i rb tb:Nat} {t:Tk} {w:World}
theorem pd (l:iI 111 4 N) (h:Rd w rb tb cap t i k a) (c:Bd (N+1) t i k 3) (e:bS t i k 0 ⟨#[95]⟩=true):Calls Tryz.prog 109 #[.pointer (some ⟨rb,0,I⟩)] w (aZ 1 w rb tb cap t i k True 8 λ_=>True):=by
 have m:=h.l;have n:Hid (Bd (N+1) t i k 3):=c;clear c;have f:(0:Int)<=(t.pos i:Int)/\(t.pos i:Int)<=7000:=oH (h.ar.aQ i);go_enter Tryz.func109,Tryz.ntmps109
 have o:(i:Int)<(t.len:Int):=oH h.lt;have p:(t.len:Int)<=6001:=oH h.ar.bj;have q:=dU;have b:=Mz.start (wt:=1) h;go_wp2_with fail;refine(b.ne' (sz w) (aB)).lf (aF · 0) ?_;clear b;intro j b;have d:=b.f1;go_wp2_with fail;refine(b.ne' (sz j) (nk 0 (t.pos i) nl)).ey (eH · _ e) ?_;clear b d;intro r b;have d:=b.f2;go_wp2_with fail;go_light;exact((b.fA 49).lk 49 (t.pos i) 0 0 ⟨#[]⟩ f).rt Tryz.results109 1
theorem o9 (s:iI 111 4 N) (h:Rd w rb tb cap t i k a) (f:Bd (N+1) t i k 3) (n:bS t i k 0 ⟨#[95]⟩=false) (o:bS t i k 0 ⟨#[45]⟩=true):Calls Tryz.prog 109 #[.pointer (some ⟨rb,0,I⟩)] w (aZ 1 w rb tb cap t i k True 8 λ_=>True):=by
 have u:=h.l;have v:Hid (Bd (N+1) t i k 3):=f;clear f;have j:(0:Int)<=(t.pos i:Int)/\(t.pos i:Int)<=7000:=oH (h.ar.aQ i);go_enter Tryz.func109,Tryz.ntmps109
 have x:(i:Int)<(t.len:Int):=oH h.lt;have y:(t.len:Int)<=6001:=oH h.ar.bj;have z:=dU;have b:=Mz.start (wt:=1) h;go_wp2_with fail;refine(b.ne' (sz w) (aB)).lf (aF · 0) ?_;clear b;intro p b;have c:=b.f1;go_wp2_with fail;refine(b.ne' (sz p) (nk 0 (t.pos i) nl)).lf (bw · _ n) ?_;clear b c;intro A b;have c:=b.f2;go_wp2_with fail;refine b.ey (eH · _ o) ?_;clear b c;intro B b;have c:=b.f2
 cases q:cj t (i+1) k 0 1
 ·go_wp2_with fail;refine(b.fA 51).lf (bC · 0 dC 1) ?_;clear b c;intro C b;have c:=b.f2;go_wp2_with fail;refine(ik b.st.rd).mono ?_;rintro d D ⟨rfl,⟨F,G,e,l⟩,m⟩;replace b:=((b.rk l m (lR _) (λd=>absurd d e)).up (g':=True) (λ_ d=>absurd d e)).dead (s':=(-100)) e;clear l m;replace c:=b.f2;go_wp2_with fail;go_light;exact(b.lk 51 (t.pos i) 0 0 ⟨#[]⟩ j dC (λd=>absurd d e)).rt Tryz.results109 1
 ·have r:i+1+1<t.len:=(ia h.ar b.st.rd.lt dC q).2.1;have H:(i:Int)+1<(t.len:Int):=oH b.st.rd.lt;go_wp2_with fail;refine(b.fA 51).lf (bC · 0 dC 1) ?_;clear b c;intro K b;have c:=b.f2;go_wp2_with fail;refine b.lf dE ?_;clear b c;intro L b;have c:=b.f2;have M:=b.st.rd.r1;have P:=b.st.rd.fz 1;have R:=b.st.rd.l;go_wp2_with fail;go_light;exact(((b.jV (wrap64 (-(t.num (i+1):Int)))).jB (j':=(i+1)+1) r (Nat.lt_succ_self _)).lk 51 (t.pos i) (wrap64 (-(t.num (i+1):Int))) 0 ⟨#[]⟩ j).rt Tryz.results109 1
theorem o8 (o:iI 111 4 N) (h:Rd w rb tb cap t i k a) (d:Bd (N+1) t i k 3) (e:bS t i k 0 ⟨#[95]⟩=false) (f:bS t i k 0 ⟨#[45]⟩=false) (j:cj t i k 0 1=true):Calls Tryz.prog 109 #[.pointer (some ⟨rb,0,I⟩)] w (aZ 1 w rb tb cap t i k True 8 λ_=>True):=by
 have p:=h.l;have q:Hid (Bd (N+1) t i k 3):=d;clear d;have l:(0:Int)<=(t.pos i:Int)/\(t.pos i:Int)<=7000:=oH (h.ar.aQ i);go_enter Tryz.func109,Tryz.ntmps109
 have r:(i:Int)<(t.len:Int):=oH h.lt;have s:(t.len:Int)<=6001:=oH h.ar.bj;have u:=dU;have b:=Mz.start (wt:=1) h;go_wp2_with fail;refine(b.ne' (sz w) (aB)).lf (aF · 0) ?_;clear b;intro m b;have c:=b.f1;go_wp2_with fail;refine(b.ne' (sz m) (nk 0 (t.pos i) nl)).lf (bw · _ e) ?_;clear b c;intro v b;have c:=b.f2;go_wp2_with fail;refine b.lf (bw · _ f) ?_;clear b c;intro x b;have c:=b.f2;have n:i+1<t.len:=(ia h.ar h.lt dC j).2.1;go_wp2_with fail;refine b.lf (bC · 0 dC 1) ?_;clear b c;intro y b;have c:=b.f2;go_wp2_with fail;refine(b.fA 51).lf dE ?_;clear b c;intro z b;have c:=b.f2;have A:=b.st.rd.r1;have B:=b.st.rd.fz 1;have C:=b.st.rd.l;go_wp2_with fail;go_light;exact(((b.jV (t.num i:Int)).jB (j':=i+1) n (Nat.lt_succ_self _)).lk 51 (t.pos i) (t.num i:Int) 0 ⟨#[]⟩ l).rt Tryz.results109 1
end
section
variable{a k:Int} {N cap i rb tb:Nat} {t:Tk} {w:World}
theorem oZ (s:iI 111 4 N) (h:Rd w rb tb cap t i k a) (d:Bd (N+1) t i k 3) (l:bS t i k 0 ⟨#[95]⟩=false) (m:bS t i k 0 ⟨#[45]⟩=false) (u:cj t i k 0 1=false) (v:bS t i k 0 ⟨#[116,114,117,101]⟩=false) (x:bS t i k 0 ⟨#[102,97,108,115,101]⟩=false) (n:bS t i k 0 ⟨#[40]⟩=false) (o:bS t i k 0 ⟨#[114,101,102]⟩=true):Calls Tryz.prog 109 #[.pointer (some ⟨rb,0,I⟩)] w (aZ 1 w rb tb cap t i k True 8 λ_=>True):=by
 have y:=h.l;have z:Hid (Bd (N+1) t i k 3):=d;clear d;have e:(0:Int)<=(t.pos i:Int)/\(t.pos i:Int)<=7000:=oH (h.ar.aQ i);go_enter Tryz.func109,Tryz.ntmps109
 have A:(i:Int)<(t.len:Int):=oH h.lt;have B:(t.len:Int)<=6001:=oH h.ar.bj;have C:=dU;have b:=Mz.start (wt:=1) h;go_wp2_with fail;refine(b.ne' (sz w) (aB)).lf (aF · 0) ?_;clear b;intro p b;have c:=b.f1;go_wp2_with fail;refine(b.ne' (sz p) (nk 0 (t.pos i) nl)).lf (bw · _ l) ?_;clear b c;intro D b;have c:=b.f2;go_wp2_with fail;refine b.lf (bw · _ m) ?_;clear b c;intro F b;have c:=b.f2;go_wp2_with fail;refine b.lf (bC · 0 dC 1) ?_;clear b c;intro G b;have c:=b.f2;go_wp2_with fail;refine b.lf (aX · 0 dC _) ?_;clear b c;intro H b;have c:=b.f2;go_wp2_with fail;refine b.lf (aX · 0 dC _) ?_;clear b c;intro K b;have c:=b.f2;go_wp2_with fail;refine b.lf (bw · _ n) ?_;clear b c;intro L b;have c:=b.f2;go_wp2_with fail;refine b.lf (aX · 0 dC _) ?_;clear b c;intro M b;have c:=b.f2;go_wp2_with fail;refine(b.fA 50).ey (eH · _ o) ?_;clear b c;intro P b;have c:=b.f2;go_wp2_with fail;refine(b.jV 1).et (aU · _) ?_;clear b c;intro R S T V b;have c:=b.f2;go_wp2_with fail
 ·go_wp2_with fail;refine(b.jV 2).nm cD ?_;clear b c;intro W f X Y Z q aa _ b;have c:=b.f2;go_wp2_with fail;go_light;exact((b.gI f).lk 50 (t.pos i) 2 0 f e (lT q dC)).rt Tryz.results109 1
 ·go_wp2_with fail;refine b.nm cD ?_;clear b c;intro ab j ac ad ae r af _ b;have c:=b.f2;go_wp2_with fail;go_light;exact((b.gI j).lk 50 (t.pos i) 1 0 j e (lT r dC)).rt Tryz.results109 1
theorem oY (q:iI 111 4 N) (h:Rd w rb tb cap t i k a) (d:Bd (N+1) t i k 3) (f:bS t i k 0 ⟨#[95]⟩=false) (j:bS t i k 0 ⟨#[45]⟩=false) (r:cj t i k 0 1=false) (s:bS t i k 0 ⟨#[116,114,117,101]⟩=false) (u:bS t i k 0 ⟨#[102,97,108,115,101]⟩=false) (l:bS t i k 0 ⟨#[40]⟩=false) (m:bS t i k 0 ⟨#[114,101,102]⟩=false) (v:bS t i k 0 ⟨#[109,117,116]⟩=true):Calls Tryz.prog 109 #[.pointer (some ⟨rb,0,I⟩)] w (aZ 1 w rb tb cap t i k True 8 λ_=>True):=by
 have x:=h.l;have y:Hid (Bd (N+1) t i k 3):=d;clear d;have n:(0:Int)<=(t.pos i:Int)/\(t.pos i:Int)<=7000:=oH (h.ar.aQ i);go_enter Tryz.func109,Tryz.ntmps109
 have z:(i:Int)<(t.len:Int):=oH h.lt;have A:(t.len:Int)<=6001:=oH h.ar.bj;have B:=dU;have b:=Mz.start (wt:=1) h;go_wp2_with fail;refine(b.ne' (sz w) (aB)).lf (aF · 0) ?_;clear b;intro o b;have c:=b.f1;go_wp2_with fail;refine(b.ne' (sz o) (nk 0 (t.pos i) nl)).lf (bw · _ f) ?_;clear b c;intro C b;have c:=b.f2;go_wp2_with fail;refine b.lf (bw · _ j) ?_;clear b c;intro D b;have c:=b.f2;go_wp2_with fail;refine b.lf (bC · 0 dC 1) ?_;clear b c;intro F b;have c:=b.f2;go_wp2_with fail;refine b.lf (aX · 0 dC _) ?_;clear b c;intro G b;have c:=b.f2;go_wp2_with fail;refine b.lf (aX · 0 dC _) ?_;clear b c;intro H b;have c:=b.f2;go_wp2_with fail;refine b.lf (bw · _ l) ?_;clear b c;intro K b;have c:=b.f2;go_wp2_with fail;refine b.lf (aX · 0 dC _) ?_;clear b c;intro L b;have c:=b.f2;go_wp2_with fail;refine b.lf (aX · 0 dC _) ?_;clear b c;intro M b;have c:=b.f2;go_wp2_with fail;refine(b.fA 50).lf (bw · _ m) ?_;clear b c;intro P b;have c:=b.f2;go_wp2_with fail;refine b.wn (aI · _) ?_;clear b c;intro R S T V _ b;have c:=b.f2;go_wp2_with fail;refine(b.uT 1).nm cD ?_;clear b c;intro W e X Y Z p aa _ b;have c:=b.f2;go_wp2_with fail;go_light;exact((b.gI e).lk 50 (t.pos i) 0 1 e n (lT p dC)).rt Tryz.results109 1
end
theorem sK {o:Nat} (a:iI 111 4 o):eS 109 3 (o+1):=by
 intro w q r s d e f t h b
 cases c:bS e d f 0 ⟨#[95]⟩
 ·cases i:bS e d f 0 ⟨#[45]⟩
  ·cases j:cj e d f 0 1
   ·cases k:bS e d f 0 ⟨#[116,114,117,101]⟩
    ·cases l:bS e d f 0 ⟨#[102,97,108,115,101]⟩
     ·cases m:bS e d f 0 ⟨#[40]⟩
      ·cases n:bS e d f 0 ⟨#[114,101,102]⟩
       ·cases p:bS e d f 0 ⟨#[109,117,116]⟩
        ·exact oX a h b c i j k l m n p
        ·exact oY a h b c i j k l m n p
       ·exact oZ a h b c i j k l m n
      ·exact o5 a h b c i j k l m
     ·exact o6 a h b c i j k l
    ·exact o7 a h b c i j k
   ·exact o8 a h b c i j
  ·exact o9 a h b c i
 ·exact pd a h b c
theorem vd {t:Tk} {i:Nat} {k:Int} {s:ByteArray} (b:t.Good) (h:bS t i k 1 s=true):i+2<t.len:=by
 simp[bS] at h;obtain⟨_,e,f,_⟩:=h;rcases Nat.lt_or_ge (i+2) t.len with a|a
 ·exact a
 ·have c:i+1=t.len - 1:=oM;have d:=b.last;rw[<-c] at d;omega
theorem rK (z:∀A,nh 1 A):tD 95 False λ_=>True:=by
 intro w m n o e t j B h;have V:=h.l;go_enter Tryz.func95,Tryz.ntmps95
 have W:(e:Int)<(t.len:Int):=oH h.lt;have X:(t.len:Int)<=6001:=oH h.ar.bj;have a:=Mz.start (wt:=1) h
 cases p:bS t e j 0 ⟨#[58,58]⟩
 ·go_wp2_with fail;refine a.lf (aX · 0 dC _) ?_;clear a;intro Y a;go_wp2_with fail;go_ret;exact Mz.post (d:=0) a (λb=>b.elim) sQ (λ_=>trivial) oM
 ·cases q:bS t e j 1 ⟨#[60]⟩
  ·go_wp2_with fail;refine a.lf (aX · 0 dC _) ?_;clear a;intro Z a;go_wp2_with fail;refine a.lf (aX · 1 dC _) ?_;clear a;intro aa a;go_wp2_with fail;go_ret;exact Mz.post (d:=0) a (λb=>b.elim) sQ (λ_=>trivial) oM
  ·have C:e+2<t.len:=vd h.ar q;have ab:Hid (j=0):=(du h.ar h.lt p).1;go_wp2_with fail;refine a.lf (aX · 0 dC _) ?_;clear a;intro ac a;go_wp2_with fail;refine a.lf (aX · 1 dC _) ?_;clear a;intro ad a;have D:=a.st.rd.r1;have F:=a.st.rd.fz 1;have G:=a.st.rd.l;go_wp2_with fail;go_loopg [3] (ml t (e+2) j) (λg H wr=>∃(f:List (List Value)) (c:Nat) (i l:Int),g=ml t c i/\dQ 0 f c i/\(i=0->(λ_=>True) (f.map az))/\Mz 1 w m n o t e j False (-16) wr c i l [] [] H f)
   case atStart=>exact⟨[],(e+2),j,B,Q,⟨λ_=>by simp,sQ⟩,(λae=>trivial),((a.jB (j':=e+2) C oM).up (λb=>b.elim)).less oM⟩
   case round=>
    clear D F G a;obtain⟨f,c,i,l,r,hF,s,a⟩:=hrel;have u:Hid (i=0->(λ_=>True) (f.map az)):=s;clear s;have v:=a.st.rd.lt;have af:(0:Int)<=(t.pos c:Int)/\(t.pos c:Int)<=7000:=oH (h.ar.aQ c);have K:Hid (gk=ml t c i):=r;clear r;obtain⟨L,M,rfl⟩:=a.shape
    cases N:(i==0)
    ·go_wp2_with fail;refine a.lf aW ?_;clear a;intro ag a;go_wp2_with fail;go_ret;exact Mz.post (d:=0) a (λb=>b.elim) hF.2 (λ_=>trivial) oM
    ·obtain rfl:i=0:=sU N;have k:Hid (e<=c/\j=0):=⟨a.le,a.ok Q⟩;replace u:Hid ((λ_=>True) (f.map az)):=u.out Q;have P:O f<=6001:=oI (hF.1 Q) h.ar.bj;replace a:Mz 1 w m n o t c 0 False (16*((c:Int) - (e:Int))+(-16)) wr c 0 l [] [] (J L (O f) M) f:=a.bP.less oM;go_wp2_with fail;refine a.lf aW ?_;clear a;intro ah a;go_wp2_with fail;refine a.nd (z _ · (fM _ _ _ 3)) ?_;clear a;intro R S ai aj ak al _ a;go_wp2_with (at_builtin;refine a.ap (sz R) (lT P dC) ?_;clear a;intro ao ap aq a)
     go_wp2_with fail;refine a.et (aU · _) ?_;clear a;intro ar au av aw a;go_wp2_with fail
     ·go_wp2_with fail;go_ret;exact Mz.post (d:=0) (a.aE (i':=e) (k':=j) (g':=False) (s':= -24) k.out.1 (λ_=>k.out.2) (λb=>b.elim) oM) (λb=>b.elim) (by have p:=hF.1 rfl;have q:=h.ar.bj;simp only[List.length_append,List.length_cons,List.length_nil];omega) (λ_=>trivial) oM
     ·go_wp2_with fail;refine a.wn (aI · _) ?_;clear a;intro ax x y T ay a;go_wp2_with fail;go_roundg (ml t x y)
      case measure=>rw[K.out];exact bN v a.le (a.go trivial)
      case rel=>exact⟨(f++[S.t]),x,y,T,Q,dQ.snoc (t:=t) hF Q v h.ar (a.go trivial),(λ_=>trivial),a.aE (s':= -16) k.out.1 (λ_=>k.out.2) (λb=>b.elim) oM⟩
theorem uQ:mH 1 78 False (-1) cx:=uP fV
theorem vY:tD 77 True λa=>∀b∈a,b=12:=uS fV
theorem wX:tD 95 False λ_=>True:=rK fV
theorem lS:(N:Nat)->eS 109 3 N/\iI 111 4 N
 |0=>⟨λ_ a=>absurd a.2 dC,λ_ a=>absurd a.2 dC⟩
 |N+1=>
  let⟨h1,h2⟩:=lS N
  ⟨sK h2,xA h1⟩
structure zn (N:Nat):Prop where
 expr:eS 82 18 N
 or:eS 98 17 N
 and:eS 106 16 N
 cmp:eS 110 15 N
 add:eS 113 14 N
 mul:eS 115 13 N
 unary:eS 116 12 N
 yR:eS 117 11 N
 pO:eS 81 10 N
 vC:tV N
 ifs:gz 101 8 N
 yV:gz 102 8 N
 make:gz 103 8 N
 closure:gz 104 8 N
 block:eS 63 7 N
 lets:eS 79 7 N
 exprs:iI 96 19 N
theorem qf:(N:Nat)->zn N
 |0=>⟨λ_ a=>absurd a.2 dC,λ_ a=>absurd a.2 dC,λ_ a=>absurd a.2 dC,λ_ a=>absurd a.2 dC,λ_ a=>absurd a.2 dC,λ_ a=>absurd a.2 dC,λ_ a=>absurd a.2 dC,λ_ a=>absurd a.2 dC,λ_ a=>absurd a.2 dC,λ_ _ a=>absurd a.2 dC,λ_ a=>absurd a.2 dC,λ_ a=>absurd a.2 dC,λ_ a=>absurd a.2 dC,λ_ a=>absurd a.2 dC,λ_ a=>absurd a.2 dC,λ_ a=>absurd a.2 dC,λ_ a=>absurd a.2 dC⟩
 |N+1=>
  let h:=qf N
  ⟨xW h.or h.expr,zw h.and,zi h.cmp,zg h.add,zj h.mul,yU h.unary,vE h.yR h.unary,sI h.pO h.exprs,sH wX h.exprs h.block h.vC,uy h.expr h.block h.ifs h.yV h.make h.closure vu uQ,zf h.expr h.block h.ifs,wi h.expr (lS N).1,xF wX h.expr,tZ vu vY uQ h.block,wI h.expr h.pO h.lets,yX fV h.expr,wH h.expr⟩
theorem yf {w:World} {rb b c i:Nat} {t:Tk} {k a:Int} (h:Rd w rb b c t i k a):Calls Tryz.prog 63 #[.pointer (some ⟨rb,0,I⟩)] w (aZ 1 w rb b c t i k True 8 λ_=>True):=(qf _).block h (fM _ _ _ 7)
section
variable{k:Int} {cap i rb tb:Nat} {t:Tk} {w w':World}
theorem pZ:xU:=by
 intro w rb tb cap i t k b h a
 cases a
 ·exact nS pn h
 ·exact pw pn (vi pn) h
def ox (w:World) (rb tb cap:Nat) (t:Tk) (i:Nat) (k:Int) (e:Ending) (w':World):Prop:=
 ∃(pos n:Int) (name:ByteArray) (ao:Option Addr) (cp:Nat) (vs:List (List Value)) (i':Nat) (k' a':Int),e=.returned (.agg (ae 8 pos n 0 name (J ao (O vs) cp)))/\Nx w rb tb cap t i k True w' i' k' a'/\Kids (E (U w)) (k'=0) w' (J ao (O vs) cp) vs/\O vs<=6010/\name.size<=20000/\(0<=pos/\pos<=7000)/\
  (k'=0->∃ps x,vs.map az=9::(ps++[x])/\(O ps:Int)=n/\(∀p∈ps,p=12)/\cx x)/\(k'=0->∀f,eU 1 f w' vs+16<=16*((i':Int) - (i:Int)))
theorem ox.node {e:Ending} (h:ox w rb tb cap t i k e w'):aZ 1 w rb tb cap t i k True 8 (λc=>c=8) e w':=by
 obtain⟨pos,a,m,d,f,vs,v,x,y,rfl,z,hK,K,A,B,q,r⟩:=h;refine⟨8,pos,a,0,m,d,O vs,f,v,x,y,Q,z,hK.node oM A B (λe=>?_),λe=>?_,λe b=>?_⟩
 ·obtain⟨n,c,o,l,p,u⟩:=q e;exact Gr.pV ⟨n,c,[],by rw[o],l,p,u,sQ⟩
 ·obtain⟨n,c,o,l,p,u⟩:=q e;have M:O vs=O n+2:=by have:=congrArg List.length o;simpa using this
  show fJ 8 a (lenOf (J d (O vs) f))=8;unfold fJ lenOf;rw[if_neg,if_neg (show ¬(8:Int)=108 by decide)];rintro⟨_,C⟩;have N:(O vs:Int)=a+3:=C;omega
 ·obtain⟨D,h,F⟩:=hK
  cases b with
  |zero=>
   have P:=r e 0;have l:f' 1 0 w' (ae 8 pos a 0 m (J d (O vs) f)).toList=0:=rfl;have p:=cK 1 0 w' vs;rw[l];omega
  |succ b=>
   have G:f' 1 (b+1) w' (ae 8 pos a 0 m (J d (O vs) f)).toList=1+(vs.map (f' 1 b w')).sum:=jz D F;have H:=r e b;rw[G];unfold eU at H;omega
section
variable{w W w':World} {rb tb cap i j:Nat} {t:Tk} {k kj aj:Int} {g:Prop} {s:Int} {L:List (Nat × Array Value)} {T:List (List Value)} {kv:Value} {vs:List (List Value)}
theorem Mz.kI {m:Func} {r:Nat} (v:m.results=#[.cell r 48]) {d:Act} (y:d.defers=[]) (z:d.tmps.getD r undef=.pointer (some ⟨E (U w),0,I⟩)) {b:Option Addr} {c e:Nat} (A:e=O vs) (q:Mz 1 w rb tb cap t i k True s W j kj aj L T (J b e c) vs) (f:Nat) (o:L[f]? =some (E (U w),aB)) {pos n:Int} {name:ByteArray} (hl:O vs<=6010) (B:name.size<=20000) (C:0<=pos/\pos<=7000)
 (D:kj=0->∃l x,vs.map az=9::(l++[x])/\(O l:Int)=n/\(∀p∈l,p=12)/\cx x) (H:s+16<=0):
  bodyPost Tryz.prog m (ox w rb tb cap t i k) .ret d (Go.Proofs.YtdghkacbpebcoaaGreat.aK W (E (U w)) (.int .i64 8) (.int .i64 pos) (.int .i64 n) (.int .i64 0) (.string name) (J b e c) (.int .i64 0) (.int .i64 0) (J I 0 0) (J I 0 0) (J I 0 0)):=by
  subst A;have a:=q.jG f o (.int .i64 8) (.int .i64 pos) (.int .i64 n) (.int .i64 0) (.string name) (J b (O vs) c) (.int .i64 0) (.int .i64 0) (J I 0 0) (J I 0 0) (J I 0 0);have F:ck _ (E (U w)) _:=(a.cV.dV f (E (U w),_) (by rw[List.getElem?_set,if_pos Q,if_pos (gS o).1])).2;refine bodyPost_ret (eB v z F) y ⟨pos,n,name,b,c,vs,j,kj,aj,Q,⟨a.st.rd,a.st.kp,a.le,a.ok,a.go⟩,a.cV.kids,hl,B,C,D,λG u=>?_⟩;have K:=a.sz G u;have M:=cK 1 u (aK W (E (U w)) (.int .i64 8) (.int .i64 pos) (.int .i64 n) (.int .i64 0) (.string name) (J b (O vs) c) (.int .i64 0) (.int .i64 0) (J I 0 0) (J I 0 0) (J I 0 0)) T;omega
end
end
theorem tO {w:World} {rb q r i:Nat} {t:Tk} {k a:Int} (h:Rd w rb q r t i k a):Calls Tryz.prog 62 #[.pointer (some ⟨rb,0,I⟩),.bool false] w (ox w rb q r t i k):=by
 have ad:=h.l;have B:(0:Int)<=(t.pos i:Int)/\(t.pos i:Int)<=7000:=oH (h.ar.aQ i);go_enter Tryz.func62,Tryz.ntmps62
 have c:=Mz.start (wt:=1) h;go_wp2_with fail;refine(c.ne' (sz w) (aB)).lf (aF · 8) ?_;clear c;intro s c;have e:=c.f1;go_wp2_with fail;refine(c.ne' (sz s) (nk 8 (t.pos i) nl)).wn (aI · _) ?_;clear c e;intro af ag ah ai aj c;have e:=c.f2;go_wp2_with fail;refine c.nm cD ?_;clear c e;intro ak x f C al D ao ap c;have e:=c.f2;go_wp2_with fail;refine(c.gI x).lf (aF · 9) ?_;clear c e;intro j c;have e:=c.f2;have F:(0:Int)<=((t.pos f):Int)/\((t.pos f):Int)<=7000:=oH (h.ar.aQ f);go_wp2_with fail;replace c:=(((c.lk 9 (t.pos f) 0 0 ⟨#[]⟩ F dC (λ_=>Gr.ft (λaq G=>by cases G))).dT (sl ((sz j)+1) 1)).ne' (sz j) (nk 9 (t.pos f) nl)).m1 ((sz j)+1);have H:=(c.at 1 Q).2.2.1;refine(vY c.st.rd).mono ?_;rintro l ar ⟨K,L,d,M,y,N,rfl,m,z,u,P,S⟩;have au:Hid (y=0->C=0):=m.ok;replace c:=(c.holds m z S).up (g':=True) (λ_ l=>Nat.lt_of_le_of_lt c.le (m.go trivial l));clear m;replace e:=c.f3;have T:=z.put (b:=(sz s)) H 2 (.int .i64 (O d:Int));go_wp2_with (at_builtin;refine oC (v:=(sl ((sz j)+1) 1)) (xv:=J K (O d) L) (R:=λV W=>∃o p,V=(J o (1+O d) p)/\Mz 1 w rb q r t i k True (-31) W M y N [(sz j,nk 9 (t.pos f) nl),(sz s,ae 8 (t.pos i) (O d:Int) 0 x (sl ((sz j)+1) 1)),(sz w,aB)] [] (J o (1+O d) p) ([(nk 9 (t.pos f) nl).toList]++d)) rQ rQ rQ rQ (Mz.fX (us:=d) (c.qR (O d:Int)) T sQ (lT u dC) _) ?_;rintro av aw ⟨o,p,rfl,A⟩;replace c:=A;clear A;replace e:=c.f3)
 go_wp2_with fail;go_region_law (first|(refine c.as (sz X) (by have:=u;simp;omega) ?_;clear c e;intro ax Y Z c;have e:=c.f3)|(go_simp;refine(c.iU (J o (1+O d) p)).drew.nn uQ ?_;clear c e;intro X aa ay aA aC ab ac c;have e:=c.f3))
 all_goals
  go_wp2_with fail;go_light;exact Mz.kI (vs:=(([(nk 9 (t.pos f) nl).toList]++d)++[aa.t])) (n:=(O d:Int)) Tryz.results62 Q Q (by simp;omega) (c.iU (J Y ((1+O d)+1) Z)) 2 Q (by have:=u;simp;omega) (lT D dC) B (λl=>⟨d.map az,_,by rw[List.map_append,List.map_append];show az _::_=_;rfl,sQ,P (ac.out l),ab l⟩) oM
end Go.Proofs.YtdghkacbpebcoaaGreat
