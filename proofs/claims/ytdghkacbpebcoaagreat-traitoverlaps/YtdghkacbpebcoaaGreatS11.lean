import Derived.Test.YtdghkacbpebcoaaGreatS02
namespace Go.Proofs.YtdghkacbpebcoaaGreat
open Go.RowKit
open Value renaming slice→J
open List renaming length→O
open Option renaming none→I
open World renaming heap→U
open _root_.Array renaming size→E
open Obj renaming cells→Ob
set_option linter.all false
set_option maxRecDepth 100000
set_option maxHeartbeats 0
theorem zi {k:Nat} (q:eS 110 15 k):eS 106 16 (k+1):=by
 intro w D F G i b l V h r;have W:=h.l;have s:Hid (Bd (k+1) b i l 16):=r;clear r;have X:(0:Int)<=(b.pos i:Int)/\(b.pos i:Int)<=7000:=oH (h.ar.aQ i);go_enter Tryz.func106,Tryz.ntmps106
 have a:=Mz.start (wt:=1) h;go_wp2_with fail;replace a:=a.ne' (sz w) (aB);refine a.nd (q · (s.out.down a.le a.ok dC)) ?_;clear a;intro t u v x H Y _ a;have d:=a.f1;go_wp2_with fail;go_loopg [4] (ml b v x) (λg _ wr=>∃(m:Nf) (c:Nat) (j y:Int),g=ml b c j/\Mz 1 w D F G b i l True (-8) wr c j y [(sz t,m.a),(sz w,aB)] [m.t] nl [])
 case atStart=>exact⟨u,v,x,H,Q,(a.ne' (sz t) u.a).less oM⟩
 case round=>
  clear d a;obtain⟨m,c,j,y,z,a⟩:=hrel;have K:=a.st.rd.lt;have n:(0:Int)<=(b.pos c:Int)/\(b.pos c:Int)<=7000:=oH (h.ar.aQ c);have L:Hid (gk=ml b c j):=z;clear z;have d:=a.f2
  cases M:(j==0)
  ·go_wp2_with fail;refine a.lf aW ?_;clear a d;intro Z a;have d:=a.f2;go_wp2_with fail;go_light;exact a.rt Tryz.results106 1
  ·obtain rfl:j=0:=sU M;have f:Hid (i<=c/\l=0/\i<c):=⟨a.le,a.ok Q,a.go trivial Q⟩;have N:Hid (∀o A p,c<=o->p<64->Bd k b o A p):=λo A p P R=>s.out.dh f.out.2.1 h.lt _ _ _ (λ_=>Nat.lt_of_lt_of_le f.out.2.2 P) R;replace a:=a.bP;go_wp2_with fail;refine a.lf aW ?_;clear a d;intro aa a;have d:=a.f2;go_wp2_with fail;refine a.lf (aX · 0 dC _) ?_;clear a d;intro ab a;have d:=a.f2;go_wp2_with fail
   ·go_wp2_with fail;refine a.lf (aF · 30) ?_;clear a d;intro S a;have d:=a.f2;go_wp2_with fail;refine(a.ne' (sz S) (nk 30 (b.pos c) nl)).wn (aI · _) ?_;clear a d;intro ac ad ae af _ a;have d:=a.f3;go_wp2_with fail;go_region_law (replace a:=a.drew;go_simp;refine a.nd (q · (N.out _ _ _ a.le dC)) ?_;clear a d;intro e ag B C T ah _ a;have d:=a.f3)
    all_goals
     go_wp2_with fail;go_roundg (ml b B C)
     case measure=>rw[L.out];exact bN K ((((a.swap).dT (sl (sz e) 2)).mX 30 (b.pos c) 0 0 ⟨#[]⟩ (sl (sz e) 2)).l2 (sz e) 30 (b.pos c) 0 0 ⟨#[]⟩ n).pop.le (((((a.swap).dT (sl (sz e) 2)).mX 30 (b.pos c) 0 0 ⟨#[]⟩ (sl (sz e) 2)).l2 (sz e) 30 (b.pos c) 0 0 ⟨#[]⟩ n).pop.go trivial)
     case rel=>exact⟨⟨30,(b.pos c),0,0,⟨#[]⟩,(some ⟨(sz e),0,I⟩),2,2⟩,B,C,T,Q,((((a.swap).dT (sl (sz e) 2)).mX 30 (b.pos c) 0 0 ⟨#[]⟩ (sl (sz e) 2)).l2 (sz e) 30 (b.pos c) 0 0 ⟨#[]⟩ n).pop.aE (s':= -8) (g':=True) f.out.1 (λ_=>f.out.2.1) (λ_ _=>f.out.2.2) oM⟩
   ·go_wp2_with fail;go_light;exact(a.aE (s':= -8) (g':=True) f.out.1 (λ_=>f.out.2.1) (λ_ _=>f.out.2.2) oM).rt Tryz.results106 1
theorem xF {o:Nat} (X:tD 95 False λ_=>True) (Y:eS 82 18 o):gz 103 8 (o+1):=by
 intro w Z aa ab c t ar h v;obtain⟨l,x⟩:∃l:Int,l=0:=⟨_,Q⟩;rw[<-x] at h v⊢;have ac:Hid (l=0):=x;clear x;have au:=h.l;have B:Hid (Bd (o+1) t c l 8):=v;clear v;have av:Hid (∀m p n,(p=0->c<m)->n<64->Bd o t m p n):=B.out.dh ac.out h.lt;have C:(0:Int)<=(t.pos c:Int)/\(t.pos c:Int)<=7000:=oH (h.ar.aQ c);go_enter Tryz.func103,Tryz.ntmps103
 have a:=Mz.start (wt:=1) h;go_wp2_with fail;refine(a.ne' (sz w) (aB)).lf (aF · 44) ?_;clear a;intro D a;have b:=a.f1;go_wp2_with fail;refine(a.ne' (sz D) (nk 44 (t.pos c) nl)).wn (aI · _) ?_;clear a b;intro aw ax ay az _ a;have b:=a.f2;go_wp2_with fail;refine a.nm (jw · 2 dC dC) ?_;clear a b;intro aA r aC aD aE F aG _ a;have b:=a.f2;go_wp2_with fail;refine(a.gI r).ln X ?_;clear a b;intro aH G H i aJ aK aL K aM _ a;have b:=a.f2;go_wp2_with fail;refine((a.dT (J G (O i) H)).uT (O i:Int)).wn (aI · _) ?_;clear a b;intro aN L M ad _ a;have b:=a.f2;go_wp2_with fail;go_loopg [4] (ml t L M) (λg _ wr=>∃(y:Value) (f:List (List Value)) (d:Nat) (j N:Int),g=ml t d j/\dQ 6002 f d j/\Mz 1 w Z aa ab t c l True (-48) wr d j N [(sz D,ae 44 (t.pos c) 0 (O i:Int) r y),(sz w,aB)] [] y f)
 case atStart=>exact⟨(J G (O i) H),i,L,M,ad,Q,⟨λaO=>lT K (Nat.le_add_left _ _),lT K dC⟩,(a.less oM)⟩
 case round=>
  clear b a;obtain⟨y,f,d,j,N,P,hF,a⟩:=hrel;have s:=a.st.rd.lt;have aP:(0:Int)<=(t.pos d:Int)/\(t.pos d:Int)<=7000:=oH (h.ar.aQ d);have R:Hid (gk=ml t d j):=P;clear P;obtain⟨aQ,aR,rfl⟩:=a.shape;have b:=a.f2
  cases af:(j==0)
  ·go_wp2_with fail;refine a.lf aW ?_;clear a b;intro aS a;have b:=a.f2;go_wp2_with fail;go_light;exact(a.fo 44 (t.pos c) 0 (O i:Int) r (lT hF.2 dC) C F).rt Tryz.results103 1
  ·obtain rfl:j=0:=sU af;have e:Hid (c<=d/\l=0/\c<d):=⟨a.le,a.ok Q,a.go trivial Q⟩;have ag:Hid (∀m p n,d<=m->n<64->Bd o t m p n):=λm p n ah ai=>B.out.dh e.out.2.1 h.lt _ _ _ (λ_=>Nat.lt_of_lt_of_le e.out.2.2 ah) ai;have aj:O f<=12003:=oI (hF.1 Q) h.ar.bj;replace a:=a.bP;go_wp2_with fail;refine a.lf aW ?_;clear a b;intro aT a;have b:=a.f2;go_wp2_with fail;refine a.et (aU · _) ?_;clear a b;intro aV aY k aZ a;have b:=a.f2;go_wp2_with fail
   ·go_wp2_with fail;refine a.lf (aF · 45) ?_;clear a b;intro ak a;have b:=a.f2;have al:(0:Int)<=((t.pos k):Int)/\((t.pos k):Int)<=7000:=oH (h.ar.aQ k);go_wp2_with fail;refine(a.ne' (sz ak) (nk 45 (t.pos k) nl)).nm cD ?_;clear a b;intro a0 u a1 a2 a3 ao a4 _ a;have b:=a.f3;go_wp2_with fail;refine(a.gI u).wn (aI · _) ?_;clear a b;intro a5 a6 a7 a8 _ a;have b:=a.f3;go_wp2_with fail;refine a.nd (Y · (ag.out _ _ _ a.le dC)) ?_;clear a b;intro q a9 S T ap a' _ a;have b:=a.f3;go_wp2_with (at_builtin;refine((a.dT (sl (sz q) 1)).l1 (sz q) 45 (t.pos k) 0 0 u al (lT ao dC)).ap ((sz q)+1) (lT aj dC) ?_;clear a b;intro ba z A a;have b:=a.f3)
    go_wp2_with fail;refine(a.iU (J z (O f+1) A)).lf (aX · 0 dC _) ?_;clear a b;intro bb a;have b:=a.f3;go_wp2_with fail
    ·go_wp2_with fail;refine a.wn (aI · _) ?_;clear a b;intro bc V W aq _ a;have b:=a.f3;go_wp2_with fail;replace a:=a.pop;go_roundg (ml t V W)
     case measure=>rw[R.out];exact bN s a.le (a.go trivial)
     case rel=>exact⟨(J z (O f+1) A),(f++[(ae 45 (t.pos k) 0 0 u (sl (sz q) 1)).toList]),V,W,aq,Q,dQ.snoc (t:=t) hF Q s h.ar (a.go trivial),a.aE (s':= -48) (g':=True) e.out.1 (λ_=>e.out.2.1) (λ_ _=>e.out.2.2) oM⟩
    ·go_wp2_with fail;replace a:=a.pop;go_roundg (ml t S T)
     case measure=>rw[R.out];exact bN s a.le (a.go trivial)
     case rel=>exact⟨(J z (O f+1) A),(f++[(ae 45 (t.pos k) 0 0 u (sl (sz q) 1)).toList]),S,T,ap,Q,dQ.snoc (t:=t) hF Q s h.ar (a.go trivial),a.aE (s':= -48) (g':=True) e.out.1 (λ_=>e.out.2.1) (λ_ _=>e.out.2.2) oM⟩
   ·go_wp2_with fail;go_light;exact((a.fo 44 (t.pos c) 0 (O i:Int) r (lT hF.2 dC) C F).aE (s':= -47) (g':=True) e.out.1 (λ_=>e.out.2.1) (λ_ _=>e.out.2.2) oM).rt Tryz.results103 1
theorem sI {D:Nat} (aO:eS 81 10 D) (au:iI 96 19 D):eS 117 11 (D+1):=by
 intro w p r s f a aa a5 h av;have a6:=h.l;have aw:Hid (Bd (D+1) a f aa 11):=av;clear av;have a7:(0:Int)<=(a.pos f:Int)/\(a.pos f:Int)<=7000:=oH (h.ar.aQ f);go_enter Tryz.func117,Tryz.ntmps117
 have a8:=dU;have q:=Mz.start (wt:=1) h;go_wp2_with fail;replace q:=q.ne' (sz w) (aB);refine q.nd (aO · (aw.out.down q.le q.ok dC)) ?_;clear q;intro o ax ay az aP a9 _ q;have c:=q.f1;go_wp2_with fail;go_loopg [4,5] (ml a ay az) (λg _ _ wr=>∃(e:Nf) (b:Nat) (u aA:Int),g=ml a b u/\Mz 1 w p r s a f aa True (-8) wr b u aA [(sz o,e.a),(sz w,aB)] [e.t] nl [])
 case atStart=>exact⟨ax,ay,az,aP,Q,(q.ne' (sz o) ax.a).less oM⟩
 case round=>
  clear c q;obtain⟨e,b,u,aA,aC,q⟩:=hrel;have aD:=q.st.rd.lt;have x:(0:Int)<=(a.pos b:Int)/\(a.pos b:Int)<=7000:=oH (h.ar.aQ b);have aE:Hid (gk=ml a b u):=aC;clear aC;have c:=q.f2
  cases aQ:(u==0)
  ·go_wp2_with fail;refine q.lf aW ?_;clear q c;intro a' q;have c:=q.f2;go_wp2_with fail;go_light;exact q.rt Tryz.results117 1
  ·obtain rfl:u=0:=sU aQ;have i:Hid (f<=b/\aa=0/\f<b):=⟨q.le,q.ok Q,q.go trivial Q⟩;have aG:Hid (∀ab aH ac,b<=ab->ac<64->Bd D a ab aH ac):=λab aH ac aR aS=>aw.out.dh i.out.2.1 h.lt _ _ _ (λ_=>Nat.lt_of_lt_of_le i.out.2.2 aR) aS;replace q:=q.bP;go_wp2_with fail;refine q.lf aW ?_;clear q c;intro ba q;have c:=q.f2;go_wp2_with fail;refine q.lf (aX · 0 dC _) ?_;clear q c;intro bb q;have c:=q.f2;go_wp2_with fail
   ·go_wp2_with fail;refine q.lf (aF · 24) ?_;clear q c;intro y q;have c:=q.f2;go_wp2_with fail;refine(q.ne' (sz y) (nk 24 (a.pos b) nl)).wn (aI · _) ?_;clear q c;intro M bc bd bf _ q;have c:=q.f3;go_upto_region 6 with fail
    go_cut [] (λad=>∃(af:Value) (t:List (List Value)) (N:Nat) (P ag:Int),O t<=6003/\Mz 1 w p r s a b 0 True (16*((b:Int) - (f:Int))+(-24)) ad N P ag [(sz y,nk 24 (a.pos b) af),(sz o,e.a),(sz w,aB)] [] af t)
    case first=>
     go_wp2_with fail;go_region_law (first|(refine jf (v:=(sl (sz M) 1)) (xv:=J ah (O d) ai) (R:=λaj ak=>∃l m,aj=J l (1+O d) m/\Mz 1 w p r s a b 0 True (16*((b:Int) - (f:Int))+(-24)) ak z A B [(sz y,nk 24 (a.pos b) nl),(sz o,e.a),(sz w,aB)] [] (J l (1+O d) m) ([e.t]++d)) rQ rQ rQ rQ (Mz.fX (us:=d) (T:=[]) aJ F sQ (lT S dC) _) ?_;rintro aT aU ⟨l,m,rfl,G⟩;clear c;have c:=G.f3)|(refine jf (v:=(sl (sz H) 1)) (xv:=J ah (O d) ai) (R:=λaj ak=>∃l m,aj=J l (1+O d) m/\Mz 1 w p r s a b 0 True (16*((b:Int) - (f:Int))+(-24)) ak z A B [(sz y,nk 24 (a.pos b) nl),(sz o,e.a),(sz w,aB)] [] (J l (1+O d) m) ([e.t]++d)) rQ rQ rQ rQ (Mz.fX (us:=d) (T:=[]) ((aK.sub (T':=[e.t]++(d++[])) (λV aL=>by simp at aL⊢;exact aL.symm) (λbg bh=>by simp only[bK,cX];omega)).m1 (sz H)) (F.alloc _) sQ (lT S dC) _) ?_;rintro aT aU ⟨l,m,rfl,G⟩;clear c;have c:=G.f3)|(go_simp;refine(au q.drew.st.rd (aG.out _ _ _ q.le dC)).mono ?_;rintro K H ⟨ah,ai,d,z,A,B,rfl,L,F,S,aV,al⟩;have aK:Mz 1 w p r s a b 0 True (16*((b:Int) - (f:Int))+(-24)) H z A B [(sz y,nk 24 (a.pos b) nl),(sz o,e.a),(sz w,aB)] (d++[e.t]) nl []:=((q.drew.holds L F al).up (g':=True) (λ_ K=>Nat.lt_of_le_of_lt q.le (L.go trivial K))).less oM;clear c;have c:=aK.f3)|(go_simp;refine(au (q.drew.m1 (sz M)).st.rd (aG.out _ _ _ q.le dC)).mono ?_;rintro K H ⟨ah,ai,d,z,A,B,rfl,L,F,S,aV,al⟩;have aJ:Mz 1 w p r s a b 0 True (16*((b:Int) - (f:Int))+(-24)) H z A B [(sz y,nk 24 (a.pos b) nl),(sz o,e.a),(sz w,aB)] (d++[]) (sl (sz M) 1) [e.t]:=(((q.drew.m1 (sz M)).holds L F al).up (g':=True) (λ_ K=>Nat.lt_of_le_of_lt q.le (L.go trivial K))).less oM;clear c;have c:=aJ.f3))
     all_goals
      clear q;have q:=G;clear G;go_wp2_with fail;go_meet;exact⟨(J l (1+O d) m),([e.t]++d),z,A,B,(by have:=S;simp;omega),((q.dT (J l (1+O d) m)).less oM)⟩
    case rest=>
     clear c q;obtain⟨af,t,N,P,ag,ao,q⟩:=hcut;obtain⟨bi,ap⟩:∃V,V=wc:=⟨_,Q⟩;subst ap;have c:=q.f3;obtain⟨W,X,rfl⟩:=q.shape;replace c:=q.f3;go_wp2_with fail;go_roundg (ml a N P)
     case measure=>rw[aE.out];exact bN aD ((q.mX 24 (a.pos b) 0 0 ⟨#[]⟩ (J W (O t) X)).fk 24 (a.pos b) (lT ao dC) x).pop.le (((q.mX 24 (a.pos b) 0 0 ⟨#[]⟩ (J W (O t) X)).fk 24 (a.pos b) (lT ao dC) x).pop.go trivial)
     case rel=>exact⟨⟨24,(a.pos b),0,0,⟨#[]⟩,W,O t,X⟩,N,P,ag,Q,((q.mX 24 (a.pos b) 0 0 ⟨#[]⟩ (J W (O t) X)).fk 24 (a.pos b) (lT ao dC) x).pop.aE (s':= -8) (g':=True) i.out.1 (λ_=>i.out.2.1) (λ_ _=>i.out.2.2) oM⟩
   ·go_wp2_with fail;refine q.lf (aX · 0 dC _) ?_;clear q c;intro bj q;have c:=q.f2;go_wp2_with fail
    ·go_wp2_with fail;refine q.lf (aF · 25) ?_;clear q c;intro aM q;have c:=q.f2;go_wp2_with fail;refine(q.ne' (sz aM) (nk 25 (a.pos b) nl)).wn (aI · _) ?_;clear q c;intro bk C aY aZ _ q;have c:=q.f3;go_wp2_with fail;refine q.lf (bC · 0 dC 1) ?_;clear q c;intro bl q;have c:=q.f3;go_upto_if 30 with fail
     go_cut [] (λad=>∃(n:Int) (j:ByteArray) (Y:Nat) (Z aq:Int),j.size<=20000/\Mz 1 w p r s a b 0 True (16*((b:Int) - (f:Int))+(-40)) ad Y Z aq [(sz aM,ae 25 (a.pos b) n 0 j nl),(sz o,e.a),(sz w,aB)] [e.t] nl [])
     case first=>
      go_wp2_with fail
      ·have a0:C+1<a.len:=(ia (q:=1) h.ar q.st.rd.lt dC ‹_›).2.1;have bm:(C:Int)<(a.len:Int):=oH q.st.rd.lt;have bn:(a.len:Int)<=6001:=oH h.ar.bj;go_wp2_with fail;refine q.lf dE ?_;clear q c;intro bo q;have c:=q.f3;have bp:=q.st.rd.r1;have bq:=q.st.rd.fz 1;have br:=q.st.rd.l;go_wp2_with fail;go_meet;exact⟨(a.num C:Int),⟨#[]⟩,(C+1),aY,aZ,dC,(((q.jV (a.num C:Int)).jB (j':=C+1) a0 (Nat.lt_succ_self _)).less oM)⟩
      ·go_wp2_with fail;refine q.nm cD ?_;clear q c;intro bs aN a1 a2 a3 a4 bt _ q;have c:=q.f3;go_wp2_with fail;go_meet;exact⟨0,aN,a1,a2,a3,(lT a4 dC),((q.gI aN).less oM)⟩
     case rest=>
      clear c q;obtain⟨n,j,Y,Z,aq,ar,q⟩:=hcut;obtain⟨k,ap⟩:∃V,V=wc:=⟨_,Q⟩;subst ap;have c:=q.f3;go_wp2_with fail;go_roundg (ml a Y Z)
      case measure=>rw[aE.out];exact bN aD (((q.dT (sl (sz k) 1)).mX 25 (a.pos b) n 0 j (sl (sz k) 1)).l1 (sz k) 25 (a.pos b) n 0 j x ar).pop.le ((((q.dT (sl (sz k) 1)).mX 25 (a.pos b) n 0 j (sl (sz k) 1)).l1 (sz k) 25 (a.pos b) n 0 j x ar).pop.go trivial)
      case rel=>exact⟨⟨25,(a.pos b),n,0,j,(some ⟨(sz k),0,I⟩),1,1⟩,Y,Z,aq,Q,(((q.dT (sl (sz k) 1)).mX 25 (a.pos b) n 0 j (sl (sz k) 1)).l1 (sz k) 25 (a.pos b) n 0 j x ar).pop.aE (s':= -8) (g':=True) i.out.1 (λ_=>i.out.2.1) (λ_ _=>i.out.2.2) oM⟩
    ·go_wp2_with fail;go_light;exact(q.aE (s':= -8) (g':=True) i.out.1 (λ_=>i.out.2.1) (λ_ _=>i.out.2.2) oM).rt Tryz.results117 1
end Go.Proofs.YtdghkacbpebcoaaGreat
