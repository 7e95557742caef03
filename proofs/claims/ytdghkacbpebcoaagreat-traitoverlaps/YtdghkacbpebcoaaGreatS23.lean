import Derived.Test.YtdghkacbpebcoaaGreatS21
import Derived.Test.YtdghkacbpebcoaaGreatS22
namespace Go.Proofs.YtdghkacbpebcoaaGreat
open Go.RowKit
open Value renaming slice→J
open List renaming length→O
open Option renaming none→I
open World renaming heap→U
open _root_.Array renaming size→E
open Obj renaming cells→Ob
set_option linter.all false
set_option maxRecDepth 100000
set_option maxHeartbeats 0
def tW:Prop:=∀{w:World} {rb tb cap i:Nat} {t:Tk} {k a:Int},Rd w rb tb cap t i k a->∀pos M:Int,(0<=pos/\pos<=7000)->Calls Tryz.prog 61 #[.pointer (some ⟨rb,0,I⟩),.agg (ae 3 pos 1 M ⟨#[]⟩ nl)] w (aZ 1 w rb tb cap t i k True 8 (λx=>x=3))
theorem vp (aw:tW) {w:World} {rb p q i:Nat} {t:Tk} {k a:Int} (h:Rd w rb p q t i k a):Calls Tryz.prog 37 #[.pointer (some ⟨rb,0,I⟩)] w (aZ 1 w rb p q t i k True 8 (λe=>e=3\/e=6\/e=7\/e=108)):=by
 have a8:=h.l;have v:(0:Int)<=(t.pos i:Int)/\(t.pos i:Int)<=7000:=oH (h.ar.aQ i);go_enter Tryz.func37,Tryz.ntmps37
 have b:=Mz.start (wt:=1) h;go_wp2_with fail;refine(b.ne' (sz w) (aB)).lf (aF · 0) ?_;clear b;intro x b;have c:=b.f1;go_wp2_with fail;refine(b.ne' (sz x) (nk 0 (t.pos i) nl)).lf (aX · 0 dC _) ?_;clear b c;intro a9 b;have c:=b.f2;go_wp2_with fail
 ·go_wp2_with fail;refine b.nd xR ?_;clear b c;intro a' ba bb bc bd ax bf b;have c:=b.f2;go_wp2_with fail;go_light;exact Mz.cq (C:=λe=>e=3\/e=6\/e=7\/e=108) (d:=8) Tryz.results37 Q Q b 1 Q (λf=>.inr (.inr (.inl (ax f)))) oM Q
 ·go_wp2_with fail;refine b.et (aU · _) ?_;clear b c;intro bg bh L bi b;have c:=b.f2;go_upto_if 13 with fail
  go_cut [] (λy=>∃(r:Int) (j:Nat),Mz 1 w rb p q t i k False (0) y j k a [(sz x,ae 0 (t.pos i) 0 r ⟨#[]⟩ nl),(sz w,aB)] [] nl [])
  case first=>
   go_wp2_with fail
   ·go_wp2_with fail;go_meet;exact⟨1,L,((b.uT 1).less oM)⟩
   ·go_wp2_with fail;go_meet;exact⟨0,L,(b.less oM)⟩
  case rest=>
   clear c b;obtain⟨r,j,b⟩:=hcut;obtain⟨bj,z⟩:∃e,e=wc:=⟨_,Q⟩;subst z;have c:=b.f2;go_upto_region 6 with fail
   go_cut [24] (λay y=>∃(A:Bool),(ay=.bool A/\(A=true->bS t j k 0 ⟨#[99,111,112,121]⟩=true))/\Mz 1 w rb p q t i k False (0) y j k a [(sz x,ae 0 (t.pos i) 0 r ⟨#[]⟩ nl),(sz w,aB)] [] nl [])
   case first=>
    cases M:bS t j k 0 ⟨#[99,111,112,121]⟩
    ·go_wp2_with fail;refine b.lf (aX · 0 dC _) ?_;clear b c;intro bk b;have c:=b.f2;go_wp2_with fail;go_meet;exact⟨false,⟨Q,λf=>by cases f⟩,(b.less oM)⟩
    ·cases bl:bS t j k 1 ⟨#[115,116,114,117,99,116]⟩
     ·cases bm:bS t j k 1 ⟨#[101,110,117,109]⟩
      ·go_wp2_with fail;refine b.lf (aX · 0 dC _) ?_;clear b c;intro bn b;have c:=b.f2;go_wp2_with fail;refine b.lf (aX · 1 dC _) ?_;clear b c;intro bo b;have c:=b.f2;go_wp2_with fail;refine b.lf (aX · 1 dC _) ?_;clear b c;intro bp b;have c:=b.f2;go_wp2_with fail;go_meet;exact⟨false,⟨Q,λf=>by cases f⟩,(b.less oM)⟩
      ·go_wp2_with fail;refine b.lf (aX · 0 dC _) ?_;clear b c;intro bq b;have c:=b.f2;go_wp2_with fail;refine b.lf (aX · 1 dC _) ?_;clear b c;intro br b;have c:=b.f2;go_wp2_with fail;refine b.lf (aX · 1 dC _) ?_;clear b c;intro bs b;have c:=b.f2;go_wp2_with fail;go_meet;exact⟨true,⟨Q,λ_=>M⟩,(b.less oM)⟩
     ·go_wp2_with fail;refine b.lf (aX · 0 dC _) ?_;clear b c;intro bt b;have c:=b.f2;go_wp2_with fail;refine b.lf (aX · 1 dC _) ?_;clear b c;intro bu b;have c:=b.f2;go_wp2_with fail;go_meet;exact⟨true,⟨Q,λ_=>M⟩,(b.less oM)⟩
   case rest=>
    clear c b;obtain⟨A,⟨rfl,N⟩,b⟩:=hcut;obtain⟨bv,z⟩:∃e,e=wc:=⟨_,Q⟩;subst z;have c:=b.f2;have aA:Hid (A=true->bS t j k 0 ⟨#[99,111,112,121]⟩=true):=N;clear N;have bw:(j:Int)<(t.len:Int):=oH b.st.rd.lt;have bx:(t.len:Int)<=6001:=oH h.ar.bj;have aC:=b.st.rd.r1;have aD:=b.st.rd.fz 1;have aE:=b.st.rd.l;go_upto_if 24 with fail
    go_cut [] (λy=>∃(o:Int) (P:Nat),Mz 1 w rb p q t i k False (0) y P k a [(sz x,ae 0 (t.pos i) 0 o ⟨#[]⟩ nl),(sz w,aB)] [] nl [])
    case first=>
     go_wp2_with fail
     ·have aG:j+1<t.len:=(du h.ar b.st.rd.lt (aA.out ‹_›)).2;go_wp2_with fail;go_meet;exact⟨(wrap64 (r+2)),(j+1),((((b.jB (j':=j+1) aG (Nat.lt_succ_self _)).uT (wrap64 (r+2))).up (g':=False) (λf=>absurd f (λe=>e))).less oM)⟩
     ·go_wp2_with fail;go_meet;exact⟨r,j,(b.less oM)⟩
    case rest=>
     clear c aC aD aE b;obtain⟨o,P,b⟩:=hcut;obtain⟨bz,z⟩:∃e,e=wc:=⟨_,Q⟩;subst z;have c:=b.f2;go_wp2_with fail;refine b.et (aU · _) ?_;clear b c;intro bA bB bC bD b;have c:=b.f2;go_wp2_with fail
     ·go_wp2_with fail;refine(b.fA 3).nd (uG · _ _ v) ?_;clear b c;intro bE bF bG bH bI aH jy b;have c:=b.f2;go_wp2_with fail;go_light;exact Mz.cq (C:=λe=>e=3\/e=6\/e=7\/e=108) (d:=8) Tryz.results37 Q Q b 1 Q (λf=>.inl (aH f)) oM Q
     ·go_wp2_with fail;refine b.et (aU · _) ?_;clear b c;intro bJ bK bL bM b;have c:=b.f2;go_wp2_with fail
      ·go_wp2_with fail;refine((b.fA 3).jV 1).nd (aw · _ _ v) ?_;clear b c;intro bO bP bQ bR bT aJ bU b;have c:=b.f2;go_wp2_with fail;go_light;exact Mz.cq (C:=λe=>e=3\/e=6\/e=7\/e=108) (d:=8) Tryz.results37 Q Q b 1 Q (λf=>.inl (aJ f)) oM Q
      ·go_wp2_with fail;refine b.et (aU · _) ?_;clear b c;intro bV bW bX bY b;have c:=b.f2;go_wp2_with fail
       ·go_wp2_with fail;refine(b.fA 6).nm cD ?_;clear b c;intro bZ B b0 b1 b2 R b3 b4 b;have c:=b.f2;go_wp2_with fail;refine(b.gI B).wn (aI · _) ?_;clear b c;intro b5 S T aK b6 b;have c:=b.f2;go_wp2_with fail;go_loopg [4] (ml t S T) (λg _ wr=>∃(H:Value) (m:List (List Value)) (l:Nat) (n V:Int),g=ml t l n/\dQ 4 m l n/\(n=0->∀e∈m.map az,e=8)/\Mz 1 w rb p q t i k True (-32) wr l n V [(sz x,ae 6 (t.pos i) 0 o B H),(sz w,aB)] [] H m)
        case atStart=>exact⟨nl,[],S,T,aK,Q,⟨λ_=>by simp,sQ⟩,(λ_ e aL=>by cases aL),(b.less oM)⟩
        case round=>
         clear c b;obtain⟨H,m,l,n,V,W,hF,X,b⟩:=hrel;have Y:=b.st.rd.lt;have b7:(0:Int)<=(t.pos l:Int)/\(t.pos l:Int)<=7000:=oH (h.ar.aQ l);have aM:Hid (gk=ml t l n):=W;clear W;obtain⟨b8,b9,rfl⟩:=b.shape;have c:=b.f2
         cases Z:(n==0)
         ·go_wp2_with fail;refine b.lf aW ?_;clear b c;intro b' b;have c:=b.f2;go_wp2_with fail;go_light;exact Mz.cq (C:=λe=>e=3\/e=6\/e=7\/e=108) (d:=8) Tryz.results37 Q Q (b.fo 6 (t.pos i) 0 o B (lT hF.2 dC) v (lT R dC) (λf=>absurd f (sU Z))) 1 Q (λ_=>.inr (.inl (cY dC))) oM Q
         ·obtain rfl:n=0:=sU Z;have s:Hid (i<=l/\k=0/\i<l):=⟨b.le,b.ok Q,b.go trivial Q⟩;have aa:Hid (∀e∈m.map az,e=8):=X Q;clear X;have aN:O m<=6005:=oI (hF.1 Q) h.ar.bj;replace b:=b.bP;go_wp2_with fail;refine b.lf aW ?_;clear b c;intro ca b;have c:=b.f2;go_wp2_with fail;refine b.et (aU · _) ?_;clear b c;intro cb cc cd ce b;have c:=b.f2;go_wp2_with fail
          ·go_wp2_with fail;refine b.nd (λe=>(tO e).mono (λ_ _ h=>h.node)) ?_;clear b c;intro aP ab cf cg ch aQ _ b;have c:=b.f2;go_wp2_with fail;refine(b.ne' (sz aP) ab.a).wn (aI · _) ?_;clear b c;intro aR ac ad aS aT b;have c:=b.f3;go_wp2_with (at_builtin;refine b.ap (sz aR) (lT aN dC) ?_;clear b c;intro ci af ag b;have c:=b.f3)
           go_wp2_with fail;replace b:=(b.iU (J af (O m+1) ag)).pop;go_roundg (ml t ac ad)
           case measure=>rw[aM.out];exact bN Y b.le (b.go trivial)
           case rel=>exact⟨(J af (O m+1) ag),(m++[ab.t]),ac,ad,aS,Q,dQ.snoc (t:=t) hF Q Y h.ar (b.go trivial),(λf=>by rw[List.map_append];exact aO (C:=λe=>e=8) aa.out (aQ (aT.out f))),b.aE (s':= -32) (g':=True) s.out.1 (λ_=>s.out.2.1) (λ_ _=>s.out.2.2) oM⟩
          ·go_wp2_with fail;go_light;exact Mz.cq (C:=λe=>e=3\/e=6\/e=7\/e=108) (d:=8) Tryz.results37 Q Q ((b.fo 6 (t.pos i) 0 o B (lT hF.2 dC) v (lT R dC) (λf=>Gr.sW aa.out)).aE (s':= -31) (g':=True) s.out.1 (λ_=>s.out.2.1) (λ_ _=>s.out.2.2) oM) 1 Q (λ_=>.inr (.inl (cY dC))) oM Q
       ·go_wp2_with fail;refine(wG b.st.rd).mono ?_;rintro f aV ⟨cj,D,ah,aY,a0,F,ck,ai,cl,rfl,G,aj,ak,a1,cm,al,ao⟩;have ap:Hid (ai=0->∃u e,F.map az=9::(u++[e])/\(O u:Int)=D/\(∀a2∈u,a2=12)/\cx e):=al;clear al;have cn:Hid (ai=0->k=0):=G.ok;replace b:=(b.list G aj ao).up (g':=True) (λ_ f=>Nat.lt_of_le_of_lt b.le (G.go trivial f));clear G aj ao;replace c:=b.f2;go_wp2_with fail;go_region_law (first|(refine b.as (sz a3) (lT ak dC) ?_;clear b c;intro co a4 a5 b;have c:=b.f3)|(go_simp;refine(b.ne' (sz aV) (ae 8 (t.pos i) D o ah (J aY (O F) a0))).drew.nd yf ?_;clear b c;intro a3 a6 cp cq cr cs aq b;have c:=b.f3))
        all_goals
         go_wp2_with fail;go_light;exact Mz.cq (C:=λe=>e=3\/e=6\/e=7\/e=108) (d:=8) Tryz.results37 Q Q ((b.dT (J a4 (O F+1) a5)).fo 8 (t.pos i) D o ah (by have:=ak;simp;omega) v a1 (λf=>by obtain⟨u,e,K,ar,au,av⟩:=ap.out (aq.out f);exact Gr.pV ⟨u,e,[az a6.t],by rw[List.map_append,K];simp,ar,au,av,sQ⟩)) 2 Q (λf=>.inr (.inr (.inr (by obtain⟨u,e,K,ar,au,av⟩:=ap.out (aq.out f);have a7:=congrArg List.length K;simp at a7;show fJ 8 D (O F+1)=108;unfold fJ;rw[if_pos ⟨Q,oM⟩])))) oM Q
end Go.Proofs.YtdghkacbpebcoaaGreat
