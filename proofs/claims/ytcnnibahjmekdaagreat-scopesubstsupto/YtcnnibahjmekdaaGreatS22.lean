import Derived.Test.YtcnnibahjmekdaaGreatS03
import Derived.Test.YtcnnibahjmekdaaGreatS05
import Derived.Test.YtcnnibahjmekdaaGreatS06
import Derived.Test.YtcnnibahjmekdaaGreatS07
import Derived.Test.YtcnnibahjmekdaaGreatS08
import Derived.Test.YtcnnibahjmekdaaGreatS09
import Derived.Test.YtcnnibahjmekdaaGreatS10
import Derived.Test.YtcnnibahjmekdaaGreatS11
import Derived.Test.YtcnnibahjmekdaaGreatS12
import Derived.Test.YtcnnibahjmekdaaGreatS13
import Derived.Test.YtcnnibahjmekdaaGreatS14
import Derived.Test.YtcnnibahjmekdaaGreatS15
import Derived.Test.YtcnnibahjmekdaaGreatS16
import Derived.Test.YtcnnibahjmekdaaGreatS17
import Derived.Test.YtcnnibahjmekdaaGreatS18
import Derived.Test.YtcnnibahjmekdaaGreatS19
import Derived.Test.YtcnnibahjmekdaaGreatS20
import Derived.Test.YtcnnibahjmekdaaGreatS21
namespace Go.Proofs.YtcnnibahjmekdaaGreat
open Go.RowKit
open Value renaming slice→J
open List renaming length→O
open Option renaming none→I
open World renaming heap→U
open _root_.Array renaming size→E
open Obj renaming cells→Ob
set_option linter.all false
set_option maxRecDepth 100000
set_option maxHeartbeats 0
theorem sc {c:Nat} {w:World} {rb e f i:Nat} {t:Tk} {k a:Int} (h:Rd w rb e f t i k a) (j:Bd (c+1) t i k 3) (m:bW t i k 0 ⟨#[105,110,116]⟩=true):Calls Tryz.prog 81 #[.pointer (some ⟨rb,0,I⟩)] w (aY 3 w rb e f t i k True 8 cH):=by
 have p:=h.l;have q:Hid (Bd (c+1) t i k 3):=j;clear j;have n:(0:Int)<=(t.pos i:Int)/\(t.pos i:Int)<=7000:=oH (h.ar.aO i);go_enter Tryz.func81,Tryz.ntmps81
 have r:=dK;have s:(i:Int)<(t.len:Int):=oH h.lt;have u:(t.len:Int)<=6001:=oH h.ar.bB;have b:=Mz.start (wt:=3) h;go_wp2_with fail;refine(b.ne' (sz w) (aB)).lf (aE · 0) ?_;clear b;intro o b;have l:=b.f1;go_wp2_with fail;refine(b.ne' (sz o) (nk 0 (t.pos i) nl)).ey (eP · _ m) ?_;clear b l;intro v b;have l:=b.f2;go_wp2_with fail;go_light;exact Mz.cC (C:=cH) (d:=8) Tryz.results81 Q Q ((b.fE 13).lk 13 (t.pos i) 0 0 ⟨#[]⟩ n dC (λ_=>Gr.free (.inr (.inl Q)))) 1 Q (λ_=>⟨by show(13:Int)<=13;decide,by show(13:Int)<=18;decide⟩) oM Q
theorem r7 {e:Nat} (n:sP 3 e) {w:World} {rb f j i:Nat} {t:Tk} {k a:Int} (h:Rd w rb f j t i k a) (l:Bd (e+1) t i k 3) (o:bW t i k 0 ⟨#[105,110,116]⟩=false) (p:bW t i k 0 ⟨#[98,111,111,108]⟩=false) (q:bW t i k 0 ⟨#[40]⟩=false) (m:bW t i k 0 ⟨#[38]⟩=true):Calls Tryz.prog 81 #[.pointer (some ⟨rb,0,I⟩)] w (aY 3 w rb f j t i k True 8 cH):=by
 have v:=h.l;have r:Hid (Bd (e+1) t i k 3):=l;clear l;have x:(0:Int)<=(t.pos i:Int)/\(t.pos i:Int)<=7000:=oH (h.ar.aO i);go_enter Tryz.func81,Tryz.ntmps81
 have y:=dK;have z:(i:Int)<(t.len:Int):=oH h.lt;have A:(t.len:Int)<=6001:=oH h.ar.bB;have b:=Mz.start (wt:=3) h;go_wp2_with fail;refine(b.ne' (sz w) (aB)).lf (aE · 0) ?_;clear b;intro s b;have c:=b.f1;go_wp2_with fail;refine(b.ne' (sz s) (nk 0 (t.pos i) nl)).lf (bu · _ o) ?_;clear b c;intro B b;have c:=b.f2;go_wp2_with fail;refine b.lf (bu · _ p) ?_;clear b c;intro D b;have c:=b.f2;go_wp2_with fail;refine b.lf (bu · _ q) ?_;clear b c;intro F b;have c:=b.f2;go_wp2_with fail;refine b.lf (aW · 0 dC _) ?_;clear b c;intro G b;have c:=b.f2;go_wp2_with fail;refine b.nd (n · (dI h.ar h.lt m).1 (dI h.ar h.lt m).2 (r.out.down b.le b.ok dC)) ?_;clear b c;intro H K L M N u P b;have c:=b.f2;go_wp2_with fail;go_light;exact Mz.cC (C:=cH) (d:=8) Tryz.results81 Q Q b 1 Q u oM Q
theorem vY {n:Nat} (H:nu 3 n):qO 3 (n+1):=by
 intro w s u v k t j K h x ab;have ac:=h.l;have L:Hid (Bd (n+1) t k j 4):=x;clear x;go_enter Tryz.func82,Tryz.ntmps82
 have a:=Mz.start (wt:=3) h;go_wp2_with fail;refine a.et (aR · _) ?_;clear a;intro ad M y N a;go_wp2_with fail
 ·go_wp2_with fail;go_ret;exact Mz.post (d:=0) (a.up (g':=True) (λ_ _=>oH (N.yes ‹_›).1)) (λ_=>trivial) sQ (λ_ b p=>by cases p) oM
 ·obtain rfl:M=false:= ‹_›;go_wp2_with fail;go_loopg [5] (ml t y j) (λg P wr=>∃(e:List (List Value)) (c:Nat) (i q:Int),g=ml t c i/\ez 0 e c i/\(i=0->(λl=>∀b∈l,cH b) (e.map aA))/\Mz 3 w s u v t k j False (0) wr c i q [] [] P e)
  case atStart=>exact⟨[],y,j,K,Q,⟨λ_=>by simp,sQ⟩,(λf=>(λb p=>by cases p)),(a.up (λb=>b.elim)).less oM⟩
  case round=>
   clear a;obtain⟨e,c,i,q,z,hF,A,a⟩:=hrel;have o:Hid (i=0->(λl=>∀b∈l,cH b) (e.map aA)):=A;clear A;have B:=a.st.rd.lt;have ae:(0:Int)<=(t.pos c:Int)/\(t.pos c:Int)<=7000:=oH (h.ar.aO c);have R:Hid (gk=ml t c i):=z;clear z;obtain⟨S,T,rfl⟩:=a.shape
   cases r:(i==0)
   ·go_wp2_with fail;refine a.lf aV ?_;clear a;intro af a;go_wp2_with fail;go_ret;exact Mz.post (d:=0) (a.up (g':=True) (λ_ f=>absurd f (sU r))) (λ_=>trivial) hF.2 (λf=>absurd f (sU r)) oM
   ·obtain rfl:i=0:=sU r;have m:Hid (k<=c/\j=0):=⟨a.le,a.ok Q⟩;replace o:Hid ((λl=>∀b∈l,cH b) (e.map aA)):=o.out Q;have V:Hid (∀i' k',c<=i'->Bd n t i' k' 3):=λi' k' C=>L.out.down (lT a.le C) (λ_=>a.ok Q) dC;have W:O e<=6001:=oI (hF.1 Q) h.ar.bB;replace a:Mz 3 w s u v t c 0 False (16*((c:Int) - (k:Int))+(0)) wr c 0 q [] [] (J S (O e) T) e:=a.bU.less oM;go_wp2_with fail;refine a.lf aV ?_;clear a;intro ag a;go_wp2_with fail;refine a.nd (H · (V.out _ _ a.le)) ?_;clear a;intro X Y ah ai aj D _ a;go_wp2_with (at_builtin;refine a.ap (sz X) (lT W dC) ?_;clear a;intro ak al ao a)
    go_wp2_with fail;refine a.et (aR · _) ?_;clear a;intro ap aq ar au a;go_wp2_with fail
    ·go_wp2_with fail;go_ret;exact Mz.post (d:=0) ((a.aD (i':=k) (k':=j) (g':=False) (s':= -8) m.out.1 (λ_=>m.out.2) (λb=>b.elim) oM).up (g':=True) (λ_ f=>Nat.lt_of_le_of_lt m.out.1 (a.go trivial f))) (λ_=>trivial) (by have C:=hF.1 rfl;have av:=h.ar.bB;simp only[List.length_append,List.length_cons,List.length_nil];omega) (λf=>by rw[List.map_append];exact aM o.out (D f)) oM
    ·go_wp2_with fail;refine a.wn (aH · _) ?_;clear a;intro aw F G Z aa a;go_wp2_with fail;go_roundg (ml t F G)
     case measure=>rw[R.out];exact bO B a.le (a.go trivial)
     case rel=>exact⟨(e++[Y.t]),F,G,Z,Q,ez.snoc (t:=t) hF Q B h.ar (a.go trivial),(λf=>by rw[List.map_append];exact aM o.out (D (aa.out f))),a.aD (s':=0) m.out.1 (λ_=>m.out.2) (λb=>b.elim) oM⟩
section
variable{k:Int} {N cap i rb tb:Nat} {must:Prop} {t:Tk} {w w':World}
theorem rf (a:nu 3 N):sP 3 (N+1):=by
 intro w rb tb cap i t k o h m b n;have c:Hid (∀f j l,(j=0->i<f)->l<64->Bd N t f j l):=n.dA m h.lt
 cases d:bW t i k 0 ⟨#[38,38]⟩<;>cases e:cq t (i+1) k 0 4
 ·exact wF a jP h b c d e
 ·exact wG a jP h b c d e
 ·exact wH a jP h b c d e
 ·exact wI a jP h b c d e
theorem qP (m:nu 3 N) (j:qO 3 N) (n:sP 3 N) (p:qw 3 N):nu 3 (N+1):=by
 intro w rb tb cap i t k q h a
 cases b:bW t i k 0 ⟨#[105,110,116]⟩
 ·cases c:bW t i k 0 ⟨#[98,111,111,108]⟩
  ·cases d:bW t i k 0 ⟨#[40]⟩
   ·cases e:bW t i k 0 ⟨#[38]⟩
    ·cases f:bW t i k 0 ⟨#[38,38]⟩
     ·cases l:bW t i k 0 ⟨#[102,110]⟩
      ·exact qR p h a b c d e f l
      ·cases o:cq t (i+1) k 0 4
       ·exact uL j m jP h a b c d e f l o
       ·exact sd j m jP h a b c d e f l o
     ·exact qQ n h a b c d e f
    ·exact r7 n h a b c d e
   ·exact rZ j h a b c d
  ·exact qS h a b c
 ·exact sc h a b
theorem iT:(N:Nat)->nu 3 N/\qO 3 N/\sP 3 N/\qw 3 N
 |0=>⟨λ_ a=>absurd a.2 dC,λ_ a=>absurd a.2 dC,λ_ _ _ a=>absurd a.2 dC,λ_ a=>absurd a.2 dC⟩
 |N+1=>
  let⟨hT,hTs,hR,hA⟩:=iT N
  ⟨qP hT hTs hR hA,vY hT,rf hT,yJ hT jP⟩
theorem aY.le {d:Int} {C:Int->Prop} {e:Ending} (h:aY 3 w rb tb cap t i k must d C e w'):aY 1 w rb tb cap t i k must d C e w':=by
 obtain⟨a,b,c,f,j,l,m,n,o,p,q,r,s,u,v,x⟩:=h;exact⟨a,b,c,f,j,l,m,n,o,p,q,r,s,u,v,λe y=>by have:=x e y;rw[jl] at this⊢;omega⟩
theorem fW (N:Nat):nu 1 N:=λh a=>((iT N).1 h a).mono (λ_ _ b=>b.le)
theorem pE:mK 1 96 True 8 λa=>a=19:=λh=>(jP h).mono (λ_ _ b=>b.le)
theorem uR (f:Nat) (w:World) (vs:List (List Value)):(O vs:Int)<=fm 1 (f+1) w vs:=by
 induction vs with
 |nil=>rw[du];simp
 |cons a vs b=>
  have c:1<=gh 1 (f+1) w a:=by show 1<=1+_;omega
  rw[cU,List.length_cons];omega
theorem Mz.yc {W:World} {j:Nat} {l x:Int} {g:Prop} {s:Int} {m:List (Nat × Array Value)} {T:List (List Value)} (q:Mz 1 w rb tb cap t i k g s W j l x m T (J I 0 0) []) {i':Nat} {k' n:Int} (b:Nx W rb tb cap t j l must w' i' k' n) {o:Value} {a:List (List Value)} (hK:Kids (E (U W)) (k'=0) w' o a) (p:k'=0->∀f,fm 3 f w' a+0<=16*((i':Int) - (j:Int))):Mz 1 w rb tb cap t i k g (s - (O a)) w' i' k' n m (a++T) o a:=by
 have y:k'=0->∀f,fm 1 f w' a+0<=16*((i':Int) - (j:Int)):=λe f=>by
  have d:=p e f;have r:=cP 1 f w' a;rw[sA] at d;omega
 have c:=q.list b hK y;obtain⟨h,z⟩:=c.dt.all;have C:=q.nx b;refine⟨⟨c.dt.st,c.dt.le,c.dt.ok,c.dt.go,c.dt.eG,c.dt.nd,c.dt.row,c.dt.ef,h,λA b=>z A ?_⟩,λe f=>?_⟩
 ·rcases b with b|b
  ·exact .inl b
  ·rcases List.mem_append.1 b with b|b
   ·exact .inl b
   ·exact .inr b
 ·have u:∀f,fm 1 (f+1) w' a+fm 1 (f+1) w' (a++T)<=16*((i':Int) - (i:Int))+(s - (O a)):=λf=>by
   have d:=p e (f+1);have r:=uR f w' a;have v:=(q.dt.gq (wt:=1) b.kp (f+1)).2;have B:=q.sz (b.ok e) (f+1);rw[sA] at d;rw[bL,v];rw[du] at B;omega
  cases f with
  |zero=>
   have d:=u 0;have r:fm 1 0 w' a<=fm 1 1 w' a:=by have:=jm 1 0 w' a;simp only[Nat.zero_add] at this;unfold fm;omega
   have v:fm 1 0 w' (a++T)<=fm 1 1 w' (a++T):=by have:=jm 1 0 w' (a++T);simp only[Nat.zero_add] at this;unfold fm;omega
   simp only[Nat.zero_add] at d;omega
  |succ f=>exact u f
end
theorem uK {n:Nat} (u:fj 88 18 n) (s:fj 69 7 n) (x:gz 105 8 n) (y:gz 106 8 n) (z:gz 107 8 n) (A:gz 108 8 n) (B:tL 109 True λ_=>True) (C:mK 1 84 False (-1) cH):ue (n+1):=by
 intro w D F G d e H a h b
 cases c:((e.text d).toList==[116,114,117,101])
 ·cases f:((e.text d).toList==[102,97,108,115,101])
  ·cases i:((e.text d).toList==[98,114,101,97,107])
   ·cases j:((e.text d).toList==[110,101,120,116])
    ·cases k:((e.text d).toList==[112,97,110,105,99])
     ·cases l:((e.text d).toList==[114,101,116,117,114,110])
      ·cases m:((e.text d).toList==[105,102])
       ·cases o:((e.text d).toList==[109,97,116,99,104])
        ·cases p:((e.text d).toList==[119,104,105,108,101])
         ·cases q:((e.text d).toList==[108,111,111,112])
          ·cases r:((e.text d).toList==[109,97,107,101])
           ·cases t:((e.text d).toList==[102,110])
            ·cases v:((e.text d).toList==[115,112,97,119,110])
             ·exact oQ a h Q b c f i j k l m o p q r t v
             ·exact oR s B C a h Q b c f i j k l m o p q r t v
            ·exact oS A a h Q b c f i j k l m o p q r t
           ·exact oT z a h Q b c f i j k l m o p q r
          ·exact qC s a h Q b c f i j k l m o p q
         ·exact qE u s a h Q b c f i j k l m o p
        ·exact qF y a h Q b c f i j k l m o
       ·exact qG x a h Q b c f i j k l m
      ·exact qH u a h Q b c f i j k l
     ·exact qJ a h Q b c f i j k
    ·exact qK a h Q b c f i j
   ·exact qL a h Q b c f i
  ·exact qM a h Q b c f
 ·exact qN a h Q b c
section
variable{a k:Int} {N cap i rb tb:Nat} {t:Tk} {w:World}
theorem ph (s:iJ 115 4 N) (h:Rd w rb tb cap t i k a) (d:Bd (N+1) t i k 3) (l:bW t i k 0 ⟨#[95]⟩=false) (m:bW t i k 0 ⟨#[45]⟩=false) (u:cq t i k 0 1=false) (v:bW t i k 0 ⟨#[116,114,117,101]⟩=false) (x:bW t i k 0 ⟨#[102,97,108,115,101]⟩=false) (n:bW t i k 0 ⟨#[40]⟩=false) (o:bW t i k 0 ⟨#[114,101,102]⟩=true):Calls Tryz.prog 113 #[.pointer (some ⟨rb,0,I⟩)] w (aY 1 w rb tb cap t i k True 8 λ_=>True):=by
 have y:=h.l;have z:Hid (Bd (N+1) t i k 3):=d;clear d;have e:(0:Int)<=(t.pos i:Int)/\(t.pos i:Int)<=7000:=oH (h.ar.aO i);go_enter Tryz.func113,Tryz.ntmps113
 have A:(i:Int)<(t.len:Int):=oH h.lt;have B:(t.len:Int)<=6001:=oH h.ar.bB;have C:=er;have b:=Mz.start (wt:=1) h;go_wp2_with fail;refine(b.ne' (sz w) (aB)).lf (aE · 0) ?_;clear b;intro p b;have c:=b.f1;go_wp2_with fail;refine(b.ne' (sz p) (nk 0 (t.pos i) nl)).lf (bu · _ l) ?_;clear b c;intro D b;have c:=b.f2;go_wp2_with fail;refine b.lf (bu · _ m) ?_;clear b c;intro F b;have c:=b.f2;go_wp2_with fail;refine b.lf (bH · 0 dC 1) ?_;clear b c;intro G b;have c:=b.f2;go_wp2_with fail;refine b.lf (aW · 0 dC _) ?_;clear b c;intro H b;have c:=b.f2;go_wp2_with fail;refine b.lf (aW · 0 dC _) ?_;clear b c;intro K b;have c:=b.f2;go_wp2_with fail;refine b.lf (bu · _ n) ?_;clear b c;intro L b;have c:=b.f2;go_wp2_with fail;refine b.lf (aW · 0 dC _) ?_;clear b c;intro M b;have c:=b.f2;go_wp2_with fail;refine(b.fE 50).ey (eP · _ o) ?_;clear b c;intro P b;have c:=b.f2;go_wp2_with fail;refine(b.jW 1).et (aR · _) ?_;clear b c;intro R S T V b;have c:=b.f2;go_wp2_with fail
 ·go_wp2_with fail;refine(b.jW 2).nm cJ ?_;clear b c;intro W f X Y Z q aa _ b;have c:=b.f2;go_wp2_with fail;go_light;exact((b.gI f).lk 50 (t.pos i) 2 0 f e (lT q dC)).rt Tryz.results113 1
 ·go_wp2_with fail;refine b.nm cJ ?_;clear b c;intro ab j ac ad ae r af _ b;have c:=b.f2;go_wp2_with fail;go_light;exact((b.gI j).lk 50 (t.pos i) 1 0 j e (lT r dC)).rt Tryz.results113 1
theorem pf (q:iJ 115 4 N) (h:Rd w rb tb cap t i k a) (d:Bd (N+1) t i k 3) (f:bW t i k 0 ⟨#[95]⟩=false) (j:bW t i k 0 ⟨#[45]⟩=false) (r:cq t i k 0 1=false) (s:bW t i k 0 ⟨#[116,114,117,101]⟩=false) (u:bW t i k 0 ⟨#[102,97,108,115,101]⟩=false) (l:bW t i k 0 ⟨#[40]⟩=false) (m:bW t i k 0 ⟨#[114,101,102]⟩=false) (v:bW t i k 0 ⟨#[109,117,116]⟩=true):Calls Tryz.prog 113 #[.pointer (some ⟨rb,0,I⟩)] w (aY 1 w rb tb cap t i k True 8 λ_=>True):=by
 have x:=h.l;have y:Hid (Bd (N+1) t i k 3):=d;clear d;have n:(0:Int)<=(t.pos i:Int)/\(t.pos i:Int)<=7000:=oH (h.ar.aO i);go_enter Tryz.func113,Tryz.ntmps113
 have z:(i:Int)<(t.len:Int):=oH h.lt;have A:(t.len:Int)<=6001:=oH h.ar.bB;have B:=er;have b:=Mz.start (wt:=1) h;go_wp2_with fail;refine(b.ne' (sz w) (aB)).lf (aE · 0) ?_;clear b;intro o b;have c:=b.f1;go_wp2_with fail;refine(b.ne' (sz o) (nk 0 (t.pos i) nl)).lf (bu · _ f) ?_;clear b c;intro C b;have c:=b.f2;go_wp2_with fail;refine b.lf (bu · _ j) ?_;clear b c;intro D b;have c:=b.f2;go_wp2_with fail;refine b.lf (bH · 0 dC 1) ?_;clear b c;intro F b;have c:=b.f2;go_wp2_with fail;refine b.lf (aW · 0 dC _) ?_;clear b c;intro G b;have c:=b.f2;go_wp2_with fail;refine b.lf (aW · 0 dC _) ?_;clear b c;intro H b;have c:=b.f2;go_wp2_with fail;refine b.lf (bu · _ l) ?_;clear b c;intro K b;have c:=b.f2;go_wp2_with fail;refine b.lf (aW · 0 dC _) ?_;clear b c;intro L b;have c:=b.f2;go_wp2_with fail;refine b.lf (aW · 0 dC _) ?_;clear b c;intro M b;have c:=b.f2;go_wp2_with fail;refine(b.fE 50).lf (bu · _ m) ?_;clear b c;intro P b;have c:=b.f2;go_wp2_with fail;refine b.wn (aH · _) ?_;clear b c;intro R S T V _ b;have c:=b.f2;go_wp2_with fail;refine(b.vh 1).nm cJ ?_;clear b c;intro W e X Y Z p aa _ b;have c:=b.f2;go_wp2_with fail;go_light;exact((b.gI e).lk 50 (t.pos i) 0 1 e n (lT p dC)).rt Tryz.results113 1
end
theorem sW {o:Nat} (a:iJ 115 4 o):fj 113 3 (o+1):=by
 intro w q r s d e f t h b
 cases c:bW e d f 0 ⟨#[95]⟩
 ·cases i:bW e d f 0 ⟨#[45]⟩
  ·cases j:cq e d f 0 1
   ·cases k:bW e d f 0 ⟨#[116,114,117,101]⟩
    ·cases l:bW e d f 0 ⟨#[102,97,108,115,101]⟩
     ·cases m:bW e d f 0 ⟨#[40]⟩
      ·cases n:bW e d f 0 ⟨#[114,101,102]⟩
       ·cases p:bW e d f 0 ⟨#[109,117,116]⟩
        ·exact pe a h b c i j k l m n p
        ·exact pf a h b c i j k l m n p
       ·exact ph a h b c i j k l m n
      ·exact pj a h b c i j k l m
     ·exact pk a h b c i j k l
    ·exact pn a h b c i j k
   ·exact pq a h b c i j
  ·exact pv a h b c i
 ·exact pw a h b c
theorem vd:mK 1 84 False (-1) cH:=u7 fW
theorem wL:tL 83 True λa=>∀b∈a,b=12:=vg fW
theorem xL:tL 100 False λ_=>True:=rX fW
theorem lW:(N:Nat)->fj 113 3 N/\iJ 115 4 N
 |0=>⟨λ_ a=>absurd a.2 dC,λ_ a=>absurd a.2 dC⟩
 |N+1=>
  let⟨h1,h2⟩:=lW N
  ⟨sW h2,xW h1⟩
structure zF (N:Nat):Prop where
 expr:fj 88 18 N
 or:fj 103 17 N
 and:fj 110 16 N
 cmp:fj 114 15 N
 add:fj 117 14 N
 mul:fj 119 13 N
 unary:fj 120 12 N
 zg:fj 121 11 N
 pW:fj 87 10 N
 vV:ue N
 ifs:gz 105 8 N
 zk:gz 106 8 N
 make:gz 107 8 N
 closure:gz 108 8 N
 block:fj 69 7 N
 lets:fj 85 7 N
 exprs:iJ 101 19 N
theorem qq:(N:Nat)->zF N
 |0=>⟨λ_ a=>absurd a.2 dC,λ_ a=>absurd a.2 dC,λ_ a=>absurd a.2 dC,λ_ a=>absurd a.2 dC,λ_ a=>absurd a.2 dC,λ_ a=>absurd a.2 dC,λ_ a=>absurd a.2 dC,λ_ a=>absurd a.2 dC,λ_ a=>absurd a.2 dC,λ_ _ a=>absurd a.2 dC,λ_ a=>absurd a.2 dC,λ_ a=>absurd a.2 dC,λ_ a=>absurd a.2 dC,λ_ a=>absurd a.2 dC,λ_ a=>absurd a.2 dC,λ_ a=>absurd a.2 dC,λ_ a=>absurd a.2 dC⟩
 |N+1=>
  let h:=qq N
  ⟨yz h.or h.expr,zM h.and,zA h.cmp,zx h.add,zB h.mul,zj h.unary,vX h.zg h.unary,sS h.pW h.exprs,sR xL h.exprs h.block h.vV,uK h.expr h.block h.ifs h.zk h.make h.closure vQ vd,zw h.expr h.block h.ifs,wP h.expr (lW N).1,x' xL h.expr,uj vQ wL vd h.block,xh h.expr h.pW h.lets,zm fW h.expr,wZ h.expr⟩
theorem yH {w:World} {rb b c i:Nat} {t:Tk} {k a:Int} (h:Rd w rb b c t i k a):Calls Tryz.prog 69 #[.pointer (some ⟨rb,0,I⟩)] w (aY 1 w rb b c t i k True 8 λ_=>True):=(qq _).block h (fN _ _ _ 7)
section
variable{k:Int} {cap i rb tb:Nat} {t:Tk} {w w':World}
theorem qn:yx:=by
 intro w rb tb cap i t k b h a
 cases a
 ·exact om pE h
 ·exact pG pE (vF pE) h
def oG (w:World) (rb tb cap:Nat) (t:Tk) (i:Nat) (k:Int) (e:Ending) (w':World):Prop:=
 ∃(pos n:Int) (name:ByteArray) (ao:Option Addr) (cp:Nat) (vs:List (List Value)) (i':Nat) (k' a':Int),e=.returned (.agg (ae 8 pos n 0 name (J ao (O vs) cp)))/\Nx w rb tb cap t i k True w' i' k' a'/\Kids (E (U w)) (k'=0) w' (J ao (O vs) cp) vs/\O vs<=6010/\name.size<=20000/\(0<=pos/\pos<=7000)/\
  (k'=0->∃ps x,vs.map aA=9::(ps++[x])/\(O ps:Int)=n/\(∀p∈ps,p=12)/\cH x)/\(k'=0->∀f,fm 1 f w' vs+16<=16*((i':Int) - (i:Int)))
theorem oG.node {e:Ending} (h:oG w rb tb cap t i k e w'):aY 1 w rb tb cap t i k True 8 (λc=>c=8) e w':=by
 obtain⟨pos,a,m,d,f,vs,v,x,y,rfl,z,hK,K,A,B,q,r⟩:=h;refine⟨8,pos,a,0,m,d,O vs,f,v,x,y,Q,z,hK.node oM A B (λe=>?_),λe=>?_,λe b=>?_⟩
 ·obtain⟨n,c,o,l,p,u⟩:=q e;exact Gr.tE ⟨n,c,[],by rw[o],l,p,u,sQ⟩
 ·obtain⟨n,c,o,l,p,u⟩:=q e;have M:O vs=O n+2:=by have:=congrArg List.length o;simpa using this
  show fL 8 a (lenOf (J d (O vs) f))=8;unfold fL lenOf;rw[if_neg,if_neg (show ¬(8:Int)=108 by decide)];rintro⟨_,C⟩;have N:(O vs:Int)=a+3:=C;omega
 ·obtain⟨D,h,F⟩:=hK
  cases b with
  |zero=>
   have P:=r e 0;have l:gh 1 0 w' (ae 8 pos a 0 m (J d (O vs) f)).toList=0:=rfl;have p:=cP 1 0 w' vs;rw[l];omega
  |succ b=>
   have G:gh 1 (b+1) w' (ae 8 pos a 0 m (J d (O vs) f)).toList=1+(vs.map (gh 1 b w')).sum:=jB D F;have H:=r e b;rw[G];unfold fm at H;omega
section
variable{w W w':World} {rb tb cap i j:Nat} {t:Tk} {k kj aj:Int} {g:Prop} {s:Int} {L:List (Nat × Array Value)} {T:List (List Value)} {kv:Value} {vs:List (List Value)}
theorem Mz.nQ {m:Func} {r:Nat} (v:m.results=#[.cell r 46]) {d:Act} (y:d.defers=[]) (z:d.tmps.getD r undef=.pointer (some ⟨E (U w),0,I⟩)) {b:Option Addr} {c e:Nat} (A:e=O vs) (q:Mz 1 w rb tb cap t i k True s W j kj aj L T (J b e c) vs) (f:Nat) (o:L[f]? =some (E (U w),aB)) {pos n:Int} {name:ByteArray} (hl:O vs<=6010) (B:name.size<=20000) (C:0<=pos/\pos<=7000)
 (D:kj=0->∃l x,vs.map aA=9::(l++[x])/\(O l:Int)=n/\(∀p∈l,p=12)/\cH x) (H:s+16<=0):
  bodyPost Tryz.prog m (oG w rb tb cap t i k) .ret d (Go.Proofs.YtcnnibahjmekdaaGreat.bA W (E (U w)) (.int .i64 8) (.int .i64 pos) (.int .i64 n) (.int .i64 0) (.string name) (J b e c) (.int .i64 0) (.int .i64 0) (J I 0 0) (J I 0 0) (J I 0 0)):=by
  subst A;have a:=q.lV f o (.int .i64 8) (.int .i64 pos) (.int .i64 n) (.int .i64 0) (.string name) (J b (O vs) c) (.int .i64 0) (.int .i64 0) (J I 0 0) (J I 0 0) (J I 0 0);have F:dO _ (E (U w)) _:=(a.dt.eG f (E (U w),_) (by rw[List.getElem?_set,if_pos Q,if_pos (gS o).1])).2;refine bodyPost_ret (ji v z F) y ⟨pos,n,name,b,c,vs,j,kj,aj,Q,⟨a.st.rd,a.st.kp,a.le,a.ok,a.go⟩,a.dt.kids,hl,B,C,D,λG u=>?_⟩;have K:=a.sz G u;have M:=cP 1 u (bA W (E (U w)) (.int .i64 8) (.int .i64 pos) (.int .i64 n) (.int .i64 0) (.string name) (J b (O vs) c) (.int .i64 0) (.int .i64 0) (J I 0 0) (J I 0 0) (J I 0 0)) T;omega
end
end
theorem wY {w:World} {rb r s i:Nat} {t:Tk} {k a:Int} (h:Rd w rb r s t i k a):Calls Tryz.prog 68 #[.pointer (some ⟨rb,0,I⟩),.bool true] w (oG w rb r s t i k):=by
 have ag:=h.l;have F:(0:Int)<=(t.pos i:Int)/\(t.pos i:Int)<=7000:=oH (h.ar.aO i);go_enter Tryz.func68,Tryz.ntmps68
 have c:=Mz.start (wt:=1) h;go_wp2_with fail;refine(c.ne' (sz w) (aB)).lf (aE · 8) ?_;clear c;intro u c;have d:=c.f1;go_wp2_with fail;refine(c.ne' (sz u) (nk 8 (t.pos i) nl)).wn (aH · _) ?_;clear c d;intro ah ai aj ak al c;have d:=c.f2;go_wp2_with fail;refine c.nm cJ ?_;clear c d;intro ao y l ap aq G ar au c;have d:=c.f2;go_wp2_with fail;refine(c.gI y).lf (aE · 9) ?_;clear c d;intro z c;have d:=c.f2;have av:(0:Int)<=((t.pos l):Int)/\((t.pos l):Int)<=7000:=oH (h.ar.aO l);go_wp2_with fail;refine(c.ne' (sz z) (nk 9 (t.pos l) nl)).nn (qn · true) ?_;clear c d;intro m f aw H ax K ay c;have d:=c.f3;go_wp2_with fail;replace c:=((c.zh f.k f.p f.n f.m f.s f.v).iW (sl (sz m) 1)).m1 (sz m);have L:=(c.at 1 Q).2.2.1;refine(wL c.st.rd).mono ?_;rintro j az ⟨M,N,e,P,A,S,rfl,o,B,x,T,V⟩;have W:Hid (A=0->H=0):=o.ok;replace c:=(c.holds o B V).up (g':=True) (λ_ j=>Nat.lt_of_le_of_lt c.le (o.go trivial j));clear o;replace d:=c.f3;have X:=B.put (b:=(sz u)) L 2 (.int .i64 (O e:Int));go_wp2_with (at_builtin;refine oP (v:=(sl (sz m) 1)) (xv:=J M (O e) N) (R:=λY Z=>∃p q,Y=(J p (1+O e) q)/\Mz 1 w rb r s t i k True (-31) Z P A S [(sz z,f.a),(sz u,ae 8 (t.pos i) (O e:Int) 0 y (sl (sz m) 1)),(sz w,aB)] [] (J p (1+O e) q) ([f.t]++e)) rQ rQ rQ rQ (Mz.gV (us:=e) (c.rr (O e:Int)) X sQ (lT x dC) _) ?_;rintro aC aD ⟨p,q,rfl,C⟩;replace c:=C;clear C;replace d:=c.f3)
 go_wp2_with fail;go_region_law (first|(refine c.as (sz aa) (by have:=x;simp;omega) ?_;clear c d;intro aF ab ac c;have d:=c.f3)|(go_simp;refine(c.iW (J p (1+O e) q)).drew.nn vd ?_;clear c d;intro aa ad aG aI aJ af D c;have d:=c.f3))
 all_goals
  go_wp2_with fail;go_light;exact Mz.nQ (vs:=(([f.t]++e)++[ad.t])) (n:=(O e:Int)) Tryz.results68 Q Q (by simp;omega) (c.iW (J ab ((1+O e)+1) ac)) 2 Q (by have:=x;simp;omega) (lT G dC) F (λj=>⟨e.map aA,_,by rw[List.map_append,List.map_append];show aA _::_=_;rw[K (W.out (D.out j))];rfl,sQ,T (D.out j),af j⟩) oM
theorem tX {w:World} {rb q r i:Nat} {t:Tk} {k a:Int} (h:Rd w rb q r t i k a):Calls Tryz.prog 68 #[.pointer (some ⟨rb,0,I⟩),.bool false] w (oG w rb q r t i k):=by
 have ad:=h.l;have B:(0:Int)<=(t.pos i:Int)/\(t.pos i:Int)<=7000:=oH (h.ar.aO i);go_enter Tryz.func68,Tryz.ntmps68
 have c:=Mz.start (wt:=1) h;go_wp2_with fail;refine(c.ne' (sz w) (aB)).lf (aE · 8) ?_;clear c;intro s c;have e:=c.f1;go_wp2_with fail;refine(c.ne' (sz s) (nk 8 (t.pos i) nl)).wn (aH · _) ?_;clear c e;intro af ag ah ai aj c;have e:=c.f2;go_wp2_with fail;refine c.nm cJ ?_;clear c e;intro ak x f C al D ao ap c;have e:=c.f2;go_wp2_with fail;refine(c.gI x).lf (aE · 9) ?_;clear c e;intro j c;have e:=c.f2;have F:(0:Int)<=((t.pos f):Int)/\((t.pos f):Int)<=7000:=oH (h.ar.aO f);go_wp2_with fail;replace c:=(((c.lk 9 (t.pos f) 0 0 ⟨#[]⟩ F dC (λ_=>Gr.fw (λaq G=>by cases G))).ek (sl ((sz j)+1) 1)).ne' (sz j) (nk 9 (t.pos f) nl)).m1 ((sz j)+1);have H:=(c.at 1 Q).2.2.1;refine(wL c.st.rd).mono ?_;rintro l ar ⟨K,L,d,M,y,N,rfl,m,z,u,P,S⟩;have au:Hid (y=0->C=0):=m.ok;replace c:=(c.holds m z S).up (g':=True) (λ_ l=>Nat.lt_of_le_of_lt c.le (m.go trivial l));clear m;replace e:=c.f3;have T:=z.put (b:=(sz s)) H 2 (.int .i64 (O d:Int));go_wp2_with (at_builtin;refine oP (v:=(sl ((sz j)+1) 1)) (xv:=J K (O d) L) (R:=λV W=>∃o p,V=(J o (1+O d) p)/\Mz 1 w rb q r t i k True (-31) W M y N [(sz j,nk 9 (t.pos f) nl),(sz s,ae 8 (t.pos i) (O d:Int) 0 x (sl ((sz j)+1) 1)),(sz w,aB)] [] (J o (1+O d) p) ([(nk 9 (t.pos f) nl).toList]++d)) rQ rQ rQ rQ (Mz.gV (us:=d) (c.rr (O d:Int)) T sQ (lT u dC) _) ?_;rintro av aw ⟨o,p,rfl,A⟩;replace c:=A;clear A;replace e:=c.f3)
 go_wp2_with fail;go_region_law (first|(refine c.as (sz X) (by have:=u;simp;omega) ?_;clear c e;intro ax Y Z c;have e:=c.f3)|(go_simp;refine(c.iW (J o (1+O d) p)).drew.nn vd ?_;clear c e;intro X aa ay az aC ab ac c;have e:=c.f3))
 all_goals
  go_wp2_with fail;go_light;exact Mz.nQ (vs:=(([(nk 9 (t.pos f) nl).toList]++d)++[aa.t])) (n:=(O d:Int)) Tryz.results68 Q Q (by simp;omega) (c.iW (J Y ((1+O d)+1) Z)) 2 Q (by have:=u;simp;omega) (lT D dC) B (λl=>⟨d.map aA,_,by rw[List.map_append,List.map_append];show aA _::_=_;rfl,sQ,P (ac.out l),ab l⟩) oM
end Go.Proofs.YtcnnibahjmekdaaGreat
