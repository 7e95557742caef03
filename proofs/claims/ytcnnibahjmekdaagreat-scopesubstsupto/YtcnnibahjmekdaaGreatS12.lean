import Derived.Test.YtcnnibahjmekdaaGreatS02
namespace Go.Proofs.YtcnnibahjmekdaaGreat
open Go.RowKit
open Value renaming slice→J
open List renaming length→O
open Option renaming none→I
open World renaming heap→U
open _root_.Array renaming size→E
open Obj renaming cells→Ob
set_option linter.all false
set_option maxRecDepth 100000
set_option maxHeartbeats 0
theorem sS {D:Nat} (aO:fj 87 10 D) (au:iJ 101 19 D):fj 121 11 (D+1):=by
 intro w p r s f a aa a5 h av;have a6:=h.l;have aw:Hid (Bd (D+1) a f aa 11):=av;clear av;have a7:(0:Int)<=(a.pos f:Int)/\(a.pos f:Int)<=7000:=oH (h.ar.aO f);go_enter Tryz.func121,Tryz.ntmps121
 have a8:=er;have q:=Mz.start (wt:=1) h;go_wp2_with fail;replace q:=q.ne' (sz w) (aB);refine q.nd (aO · (aw.out.down q.le q.ok dC)) ?_;clear q;intro o ax ay az aP a9 _ q;have c:=q.f1;go_wp2_with fail;go_loopg [4,5] (ml a ay az) (λg _ _ wr=>∃(e:Nf) (b:Nat) (u aA:Int),g=ml a b u/\Mz 1 w p r s a f aa True (-8) wr b u aA [(sz o,e.a),(sz w,aB)] [e.t] nl [])
 case atStart=>exact⟨ax,ay,az,aP,Q,(q.ne' (sz o) ax.a).less oM⟩
 case round=>
  clear c q;obtain⟨e,b,u,aA,aC,q⟩:=hrel;have aD:=q.st.rd.lt;have x:(0:Int)<=(a.pos b:Int)/\(a.pos b:Int)<=7000:=oH (h.ar.aO b);have aF:Hid (gk=ml a b u):=aC;clear aC;have c:=q.f2
  cases aQ:(u==0)
  ·go_wp2_with fail;refine q.lf aV ?_;clear q c;intro a' q;have c:=q.f2;go_wp2_with fail;go_light;exact q.rt Tryz.results121 1
  ·obtain rfl:u=0:=sU aQ;have i:Hid (f<=b/\aa=0/\f<b):=⟨q.le,q.ok Q,q.go trivial Q⟩;have aG:Hid (∀ab aI ac,b<=ab->ac<64->Bd D a ab aI ac):=λab aI ac aR aS=>aw.out.dA i.out.2.1 h.lt _ _ _ (λ_=>Nat.lt_of_lt_of_le i.out.2.2 aR) aS;replace q:=q.bU;go_wp2_with fail;refine q.lf aV ?_;clear q c;intro ba q;have c:=q.f2;go_wp2_with fail;refine q.lf (aW · 0 dC _) ?_;clear q c;intro bb q;have c:=q.f2;go_wp2_with fail
   ·go_wp2_with fail;refine q.lf (aE · 24) ?_;clear q c;intro y q;have c:=q.f2;go_wp2_with fail;refine(q.ne' (sz y) (nk 24 (a.pos b) nl)).wn (aH · _) ?_;clear q c;intro M bc bd bf _ q;have c:=q.f3;go_upto_region 6 with fail
    go_cut [] (λad=>∃(af:Value) (t:List (List Value)) (N:Nat) (P ag:Int),O t<=6003/\Mz 1 w p r s a b 0 True (16*((b:Int) - (f:Int))+(-24)) ad N P ag [(sz y,nk 24 (a.pos b) af),(sz o,e.a),(sz w,aB)] [] af t)
    case first=>
     go_wp2_with fail;go_region_law (first|(refine jh (v:=(sl (sz M) 1)) (xv:=J ah (O d) ai) (R:=λaj ak=>∃l m,aj=J l (1+O d) m/\Mz 1 w p r s a b 0 True (16*((b:Int) - (f:Int))+(-24)) ak z A B [(sz y,nk 24 (a.pos b) nl),(sz o,e.a),(sz w,aB)] [] (J l (1+O d) m) ([e.t]++d)) rQ rQ rQ rQ (Mz.gV (us:=d) (T:=[]) aJ F sQ (lT S dC) _) ?_;rintro aT aU ⟨l,m,rfl,G⟩;clear c;have c:=G.f3)|(refine jh (v:=(sl (sz H) 1)) (xv:=J ah (O d) ai) (R:=λaj ak=>∃l m,aj=J l (1+O d) m/\Mz 1 w p r s a b 0 True (16*((b:Int) - (f:Int))+(-24)) ak z A B [(sz y,nk 24 (a.pos b) nl),(sz o,e.a),(sz w,aB)] [] (J l (1+O d) m) ([e.t]++d)) rQ rQ rQ rQ (Mz.gV (us:=d) (T:=[]) ((aK.sub (T':=[e.t]++(d++[])) (λV aL=>by simp at aL⊢;exact aL.symm) (λbg bh=>by simp only[bL,du];omega)).m1 (sz H)) (F.alloc _) sQ (lT S dC) _) ?_;rintro aT aU ⟨l,m,rfl,G⟩;clear c;have c:=G.f3)|(go_simp;refine(au q.drew.st.rd (aG.out _ _ _ q.le dC)).mono ?_;rintro K H ⟨ah,ai,d,z,A,B,rfl,L,F,S,aX,al⟩;have aK:Mz 1 w p r s a b 0 True (16*((b:Int) - (f:Int))+(-24)) H z A B [(sz y,nk 24 (a.pos b) nl),(sz o,e.a),(sz w,aB)] (d++[e.t]) nl []:=((q.drew.holds L F al).up (g':=True) (λ_ K=>Nat.lt_of_le_of_lt q.le (L.go trivial K))).less oM;clear c;have c:=aK.f3)|(go_simp;refine(au (q.drew.m1 (sz M)).st.rd (aG.out _ _ _ q.le dC)).mono ?_;rintro K H ⟨ah,ai,d,z,A,B,rfl,L,F,S,aX,al⟩;have aJ:Mz 1 w p r s a b 0 True (16*((b:Int) - (f:Int))+(-24)) H z A B [(sz y,nk 24 (a.pos b) nl),(sz o,e.a),(sz w,aB)] (d++[]) (sl (sz M) 1) [e.t]:=(((q.drew.m1 (sz M)).holds L F al).up (g':=True) (λ_ K=>Nat.lt_of_le_of_lt q.le (L.go trivial K))).less oM;clear c;have c:=aJ.f3))
     all_goals
      clear q;have q:=G;clear G;go_wp2_with fail;go_meet;exact⟨(J l (1+O d) m),([e.t]++d),z,A,B,(by have:=S;simp;omega),((q.ek (J l (1+O d) m)).less oM)⟩
    case rest=>
     clear c q;obtain⟨af,t,N,P,ag,ao,q⟩:=hcut;obtain⟨bi,ap⟩:∃V,V=wc:=⟨_,Q⟩;subst ap;have c:=q.f3;obtain⟨W,X,rfl⟩:=q.shape;replace c:=q.f3;go_wp2_with fail;go_roundg (ml a N P)
     case measure=>rw[aF.out];exact bO aD ((q.nh 24 (a.pos b) 0 0 ⟨#[]⟩ (J W (O t) X)).fk 24 (a.pos b) (lT ao dC) x).pop.le (((q.nh 24 (a.pos b) 0 0 ⟨#[]⟩ (J W (O t) X)).fk 24 (a.pos b) (lT ao dC) x).pop.go trivial)
     case rel=>exact⟨⟨24,(a.pos b),0,0,⟨#[]⟩,W,O t,X⟩,N,P,ag,Q,((q.nh 24 (a.pos b) 0 0 ⟨#[]⟩ (J W (O t) X)).fk 24 (a.pos b) (lT ao dC) x).pop.aD (s':= -8) (g':=True) i.out.1 (λ_=>i.out.2.1) (λ_ _=>i.out.2.2) oM⟩
   ·go_wp2_with fail;refine q.lf (aW · 0 dC _) ?_;clear q c;intro bj q;have c:=q.f2;go_wp2_with fail
    ·go_wp2_with fail;refine q.lf (aE · 25) ?_;clear q c;intro aM q;have c:=q.f2;go_wp2_with fail;refine(q.ne' (sz aM) (nk 25 (a.pos b) nl)).wn (aH · _) ?_;clear q c;intro bk C aY aZ _ q;have c:=q.f3;go_wp2_with fail;refine q.lf (bH · 0 dC 1) ?_;clear q c;intro bl q;have c:=q.f3;go_upto_if 30 with fail
     go_cut [] (λad=>∃(n:Int) (j:ByteArray) (Y:Nat) (Z aq:Int),j.size<=20000/\Mz 1 w p r s a b 0 True (16*((b:Int) - (f:Int))+(-40)) ad Y Z aq [(sz aM,ae 25 (a.pos b) n 0 j nl),(sz o,e.a),(sz w,aB)] [e.t] nl [])
     case first=>
      go_wp2_with fail
      ·have a0:C+1<a.len:=(ij (q:=1) h.ar q.st.rd.lt dC ‹_›).2.1;have bm:(C:Int)<(a.len:Int):=oH q.st.rd.lt;have bn:(a.len:Int)<=6001:=oH h.ar.bB;go_wp2_with fail;refine q.lf dP ?_;clear q c;intro bo q;have c:=q.f3;have bp:=q.st.rd.r1;have bq:=q.st.rd.fz 1;have br:=q.st.rd.l;go_wp2_with fail;go_meet;exact⟨(a.num C:Int),⟨#[]⟩,(C+1),aY,aZ,dC,(((q.jW (a.num C:Int)).jE (j':=C+1) a0 (Nat.lt_succ_self _)).less oM)⟩
      ·go_wp2_with fail;refine q.nm cJ ?_;clear q c;intro bs aN a1 a2 a3 a4 bt _ q;have c:=q.f3;go_wp2_with fail;go_meet;exact⟨0,aN,a1,a2,a3,(lT a4 dC),((q.gI aN).less oM)⟩
     case rest=>
      clear c q;obtain⟨n,j,Y,Z,aq,ar,q⟩:=hcut;obtain⟨k,ap⟩:∃V,V=wc:=⟨_,Q⟩;subst ap;have c:=q.f3;go_wp2_with fail;go_roundg (ml a Y Z)
      case measure=>rw[aF.out];exact bO aD (((q.ek (sl (sz k) 1)).nh 25 (a.pos b) n 0 j (sl (sz k) 1)).l1 (sz k) 25 (a.pos b) n 0 j x ar).pop.le ((((q.ek (sl (sz k) 1)).nh 25 (a.pos b) n 0 j (sl (sz k) 1)).l1 (sz k) 25 (a.pos b) n 0 j x ar).pop.go trivial)
      case rel=>exact⟨⟨25,(a.pos b),n,0,j,(some ⟨(sz k),0,I⟩),1,1⟩,Y,Z,aq,Q,(((q.ek (sl (sz k) 1)).nh 25 (a.pos b) n 0 j (sl (sz k) 1)).l1 (sz k) 25 (a.pos b) n 0 j x ar).pop.aD (s':= -8) (g':=True) i.out.1 (λ_=>i.out.2.1) (λ_ _=>i.out.2.2) oM⟩
    ·go_wp2_with fail;go_light;exact(q.aD (s':= -8) (g':=True) i.out.1 (λ_=>i.out.2.1) (λ_ _=>i.out.2.2) oM).rt Tryz.results121 1
theorem wF {l:Nat} (m:nu 3 l) (K:mK 3 96 True 8 λx=>x=19) {w:World} {rb n o i:Nat} {t:Tk} {k a:Int} (h:Rd w rb n o t i k a) (s:i+1<t.len) (p:Hid (∀i' k' q,(k'=0->i<i')->q<64->Bd l t i' k' q)) (L:bW t i k 0 ⟨#[38,38]⟩=false) (M:cq t (i+1) k 0 4=false):Calls Tryz.prog 98 #[.pointer (some ⟨rb,0,I⟩)] w (aY 3 w rb n o t i k True 8 cH):=by
 have N:=h.l;have P:(t.pos i:Int)<=6000:=oH (h.ar.aO i);have r:(0:Int)<=(t.pos i:Int)/\(t.pos i:Int)<=7000:=oH (h.ar.aO i);have R:(0:Int)<=(t.pos i:Int)+1/\(t.pos i:Int)+1<=7000:=oM;go_enter Tryz.func98,Tryz.ntmps98
 have S:=dK;have T:(i:Int)<(t.len:Int):=oH h.lt;have V:(t.len:Int)<=6001:=oH h.ar.bB;have b:=Mz.start (wt:=3) h;go_wp2_with fail;refine(b.ne' (sz w) (aB)).lf (aE · 16) ?_;clear b;intro u b;have c:=b.f1;go_wp2_with fail;refine(b.ne' (sz u) (nk 16 (t.pos i) nl)).lf (aE · 16) ?_;clear b c;intro v b;have c:=b.f2;go_wp2_with fail;refine(b.ne' (sz v) (nk 16 (↑(t.pos i)+1) nl)).lf (aW · 0 dC _) ?_;clear b c;intro y b;have c:=b.f3;have z:=b.st.rd.r1;have A:=b.st.rd.fz 1;have B:=b.st.rd.l;go_wp2_with fail;refine((b.jE (j':=i+1) s (Nat.lt_succ_self _)).ne' (sz y) (aB)).lf (bH · 0 dC 4) ?_;clear b c z A B;intro W b;have c:=b.f4;go_wp2_with fail;refine b.et (aR · _) ?_;clear b c;intro X Y Z aa b;have c:=b.f4;go_wp2_with fail
 ·go_wp2_with fail;replace b:=b.jW 1;refine b.nd (m · (b.bd p.out dC)) ?_;clear b c;intro e D ab ac ad F _ b;have c:=b.f4;go_wp2_with fail;go_light;refine Mz.cC (C:=cH) (d:=8) Tryz.results98 Q Q (((((b.yR ⟨#[]⟩).yS 1).rU (sl ((sz e)+1) 1)).ne' (sz e) D.a).l1 ((sz e)+1) 16 (t.pos i) 1 0 ⟨#[]⟩ r dC (λf=>Gr.fq ⟨.inr Q,_,Q,F f⟩)) 4 Q (λ_=>⟨by show(13:Int)<=16;decide,by show(16:Int)<=18;decide⟩) oM ?_;simp[bA,World.setCell_alloc_past,c,sL]
 ·go_wp2_with fail;refine b.nd (m · (b.bd p.out dC)) ?_;clear b c;intro j G ae af ag H _ b;have c:=b.f4;go_wp2_with fail;go_light;refine Mz.cC (C:=cH) (d:=8) Tryz.results98 Q Q (((((b.yR ⟨#[]⟩).yS 0).rU (sl ((sz j)+1) 1)).ne' (sz j) G.a).l1 ((sz j)+1) 16 (t.pos i) 0 0 ⟨#[]⟩ r dC (λf=>Gr.fq ⟨.inl Q,_,Q,H f⟩)) 4 Q (λ_=>⟨by show(13:Int)<=16;decide,by show(16:Int)<=18;decide⟩) oM ?_;simp[bA,World.setCell_alloc_past,c,sL]
end Go.Proofs.YtcnnibahjmekdaaGreat
