import Derived.Test.YtdghkacbpebcoaaGreatS02
namespace Go.Proofs.YtdghkacbpebcoaaGreat
open Go.RowKit
open Value renaming slice→J
open List renaming length→O
open Option renaming none→I
open World renaming heap→U
open _root_.Array renaming size→E
open Obj renaming cells→Ob
set_option linter.all false
set_option maxRecDepth 100000
set_option maxHeartbeats 0
theorem tZ {q:Nat} (aq:tD 105 True λ_=>True) (ar:tD 77 True λks=>∀x∈ks,x=12) (au:mH 1 78 False (-1) cx) (av:eS 63 7 q):gz 104 8 (q+1):=by
 intro w r s t c d aR h y;obtain⟨f,z⟩:∃f:Int,f=0:=⟨_,Q⟩;rw[<-z] at h y⊢;have aw:Hid (f=0):=z;clear z;have aS:=h.l;have ax:Hid (Bd (q+1) d c f 8):=y;clear y;have ay:Hid (∀L M N,(M=0->c<L)->N<64->Bd q d L M N):=ax.out.dh aw.out h.lt;have az:(0:Int)<=(d.pos c:Int)/\(d.pos c:Int)<=7000:=oH (h.ar.aQ c);go_enter Tryz.func104,Tryz.ntmps104
 have a:=Mz.start (wt:=1) h;go_wp2_with fail;refine(a.ne' (sz w) (aB)).lf (aF · 46) ?_;clear a;intro l a;have b:=a.f1;go_wp2_with fail;refine(a.ne' (sz l) (nk 46 (d.pos c) nl)).wn (aI · _) ?_;clear a b;intro aT aV A B _ a;have b:=a.f2;go_wp2_with fail;refine a.et (aU · _) ?_;clear a b;intro aW aX aA aY a;have b:=a.f2;go_upto_if 9 with fail
 go_cut [] (λm=>∃(j:Int) (P:Nat) (S T:Int),Mz 1 w r s t d c f True (-16) m P S T [(sz l,ae 46 (d.pos c) j 0 ⟨#[]⟩ nl),(sz w,aB)] [] nl [])
 case first=>
  go_wp2_with fail
  ·go_wp2_with fail;go_meet;exact⟨1,aA,A,B,((a.jV 1).less oM)⟩
  ·go_wp2_with fail;refine a.et (aU · _) ?_;clear a b;intro aZ a0 V a1 a;have b:=a.f2;go_wp2_with fail
   ·go_wp2_with fail;go_meet;exact⟨2,V,A,B,((a.jV 2).less oM)⟩
   ·go_wp2_with fail;go_meet;exact⟨0,V,A,B,(a.less oM)⟩
 case rest=>
  clear b a;obtain⟨j,P,S,T,a⟩:=hcut;obtain⟨a2,n⟩:∃x,x=wc:=⟨_,Q⟩;subst n;have b:=a.f2;go_wp2_with fail;refine a.li aq ?_;clear a b;intro a3 C D e a4 a5 a6 W a7 _ a;have b:=a.f2;go_upto_region 9 with fail
  go_cut [] (λm=>∃(F:Value) (k:List (List Value)) (X:Nat) (Y Z:Int),O k<=12004/\Mz 1 w r s t d c f True (-16) m X Y Z [(sz l,ae 46 (d.pos c) j (O e:Int) ⟨#[]⟩ F),(sz w,aB)] [] F k)
  case first=>
   go_wp2_with fail;go_region_law (first|(refine jf (v:=(J C (O e) D)) (xv:=(J aC (O i) aD)) (R:=λaE aG=>∃o p,aE=(J o (O e+O i) p)/\Mz 1 w r s t d c f True (-16) aG aa ab ac [(sz l,ae 46 (d.pos c) j (O e:Int) ⟨#[]⟩ (J C (O e) D)),(sz w,aB)] [] (J o (O e+O i) p) (e++i)) rQ rQ rQ rQ (Mz.fX (us:=i) a G (lT W dC) (lT ad dC) _) ?_;rintro a8 a9 ⟨o,p,rfl,af⟩;replace a:=af;clear G af;replace b:=a.f2)|(replace a:=((a.dT (J C (O e) D)).uT (O e:Int)).drew;go_simp;refine(ar a.st.rd).mono ?_;rintro ag a' ⟨aC,aD,i,aa,ab,ac,rfl,H,G,ad,ba,aH⟩;replace a:=(a.holds H G aH).up (g':=True) (λ_ ag=>Nat.lt_of_le_of_lt a.le (H.go trivial ag));clear H;replace b:=a.f2))
   all_goals
    go_wp2_with fail;go_meet;exact⟨(J o (O e+O i) p),(e++i),aa,ab,ac,(by have:=W;have:=ad;simp;omega),((a.dT (J o (O e+O i) p)).less oM)⟩
  case rest=>
   clear b a;obtain⟨F,k,X,Y,Z,ah,a⟩:=hcut;obtain⟨bb,n⟩:∃x,x=wc:=⟨_,Q⟩;subst n;have b:=a.f2;obtain⟨bc,bd,rfl⟩:=a.shape;replace b:=a.f2;go_upto_region 10 with fail
   go_cut [] (λm=>∃(K:Value) (u:List (List Value)) (ai:Nat) (aj ak:Int),O u<=12005/\Mz 1 w r s t d c f True (-15) m ai aj ak [(sz l,ae 46 (d.pos c) j (O e:Int) ⟨#[]⟩ K),(sz w,aB)] [] K u)
   case first=>
    go_wp2_with fail;go_region_law (first|(refine a.as (sz aJ) (lT ah dC) ?_;clear a b;intro bf al ao a;have b:=a.f2)|(go_simp;refine a.drew.nn au ?_;clear a b;intro aJ aK aL aM aN bg _ a;have b:=a.f2))
    all_goals
     go_wp2_with fail;go_meet;exact⟨(J al (O k+1) ao),(k++[aK.t]),aL,aM,aN,(by have:=ah;simp;omega),((a.dT (J al (O k+1) ao)).less oM)⟩
   case rest=>
    clear b a;obtain⟨K,u,ai,aj,ak,ap,a⟩:=hcut;obtain⟨bh,n⟩:∃x,x=wc:=⟨_,Q⟩;subst n;have b:=a.f2;obtain⟨bi,bj,rfl⟩:=a.shape;replace b:=a.f2;go_wp2_with fail;go_region_law (first|(refine a.as (sz aO) (lT ap dC) ?_;clear a b;intro bk aP aQ a;have b:=a.f2)|(replace a:=a.drew;go_simp;refine a.nd (av · (a.bd ay.out dC)) ?_;clear a b;intro aO bl bm bn bo bp _ a;have b:=a.f2))
    all_goals
     go_wp2_with fail;go_light;exact((a.dT (J aP (O u+1) aQ)).fo 46 (d.pos c) j (O e:Int) ⟨#[]⟩ (by have:=ap;simp;omega) az).rt Tryz.results104 1
theorem vS {l:Nat} (m:nh 3 l) (K:mH 3 91 True 8 λx=>x=19) {w:World} {rb n o i:Nat} {t:Tk} {k a:Int} (h:Rd w rb n o t i k a) (s:i+1<t.len) (p:Hid (∀i' k' q,(k'=0->i<i')->q<64->Bd l t i' k' q)) (L:bS t i k 0 ⟨#[38,38]⟩=false) (M:cj t (i+1) k 0 4=false):Calls Tryz.prog 93 #[.pointer (some ⟨rb,0,I⟩)] w (aZ 3 w rb n o t i k True 8 cx):=by
 have N:=h.l;have P:(t.pos i:Int)<=6000:=oH (h.ar.aQ i);have r:(0:Int)<=(t.pos i:Int)/\(t.pos i:Int)<=7000:=oH (h.ar.aQ i);have R:(0:Int)<=(t.pos i:Int)+1/\(t.pos i:Int)+1<=7000:=oM;go_enter Tryz.func93,Tryz.ntmps93
 have S:=dx;have T:(i:Int)<(t.len:Int):=oH h.lt;have V:(t.len:Int)<=6001:=oH h.ar.bj;have b:=Mz.start (wt:=3) h;go_wp2_with fail;refine(b.ne' (sz w) (aB)).lf (aF · 16) ?_;clear b;intro u b;have c:=b.f1;go_wp2_with fail;refine(b.ne' (sz u) (nk 16 (t.pos i) nl)).lf (aF · 16) ?_;clear b c;intro v b;have c:=b.f2;go_wp2_with fail;refine(b.ne' (sz v) (nk 16 (↑(t.pos i)+1) nl)).lf (aX · 0 dC _) ?_;clear b c;intro y b;have c:=b.f3;have z:=b.st.rd.r1;have A:=b.st.rd.fz 1;have B:=b.st.rd.l;go_wp2_with fail;refine((b.jB (j':=i+1) s (Nat.lt_succ_self _)).ne' (sz y) (aB)).lf (bC · 0 dC 4) ?_;clear b c z A B;intro W b;have c:=b.f4;go_wp2_with fail;refine b.et (aU · _) ?_;clear b c;intro X Y Z aa b;have c:=b.f4;go_wp2_with fail
 ·go_wp2_with fail;replace b:=b.jV 1;refine b.nd (m · (b.bd p.out dC)) ?_;clear b c;intro e D ab ac ad F _ b;have c:=b.f4;go_wp2_with fail;go_light;refine Mz.cq (C:=cx) (d:=8) Tryz.results93 Q Q (((((b.yw ⟨#[]⟩).yx 1).rI (sl ((sz e)+1) 1)).ne' (sz e) D.a).l1 ((sz e)+1) 16 (t.pos i) 1 0 ⟨#[]⟩ r dC (λf=>Gr.fg ⟨.inr Q,_,Q,F f⟩)) 4 Q (λ_=>⟨by show(13:Int)<=16;decide,by show(16:Int)<=18;decide⟩) oM ?_;simp[aK,World.setCell_alloc_past,c,sL]
 ·go_wp2_with fail;refine b.nd (m · (b.bd p.out dC)) ?_;clear b c;intro j G ae af ag H _ b;have c:=b.f4;go_wp2_with fail;go_light;refine Mz.cq (C:=cx) (d:=8) Tryz.results93 Q Q (((((b.yw ⟨#[]⟩).yx 0).rI (sl ((sz j)+1) 1)).ne' (sz j) G.a).l1 ((sz j)+1) 16 (t.pos i) 0 0 ⟨#[]⟩ r dC (λf=>Gr.fg ⟨.inl Q,_,Q,H f⟩)) 4 Q (λ_=>⟨by show(13:Int)<=16;decide,by show(16:Int)<=18;decide⟩) oM ?_;simp[aK,World.setCell_alloc_past,c,sL]
end Go.Proofs.YtdghkacbpebcoaaGreat
