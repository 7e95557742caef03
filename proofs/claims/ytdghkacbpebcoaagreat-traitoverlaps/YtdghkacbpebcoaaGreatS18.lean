import Derived.Test.YtdghkacbpebcoaaGreatS02
namespace Go.Proofs.YtdghkacbpebcoaaGreat
open Go.RowKit
open Value renaming slice→J
open List renaming length→O
open Option renaming none→I
open World renaming heap→U
open _root_.Array renaming size→E
open Obj renaming cells→Ob
set_option linter.all false
set_option maxRecDepth 100000
set_option maxHeartbeats 0
theorem oX {j:Nat} (A:iI 111 4 j) {w:World} {rb p q i:Nat} {t:Tk} {k a:Int} (h:Rd w rb p q t i k a) (B:Bd (j+1) t i k 3) (V:bS t i k 0 ⟨#[95]⟩=false) (W:bS t i k 0 ⟨#[45]⟩=false) (au:cj t i k 0 1=false) (av:bS t i k 0 ⟨#[116,114,117,101]⟩=false) (aw:bS t i k 0 ⟨#[102,97,108,115,101]⟩=false) (X:bS t i k 0 ⟨#[40]⟩=false) (ax:bS t i k 0 ⟨#[114,101,102]⟩=false) (ay:bS t i k 0 ⟨#[109,117,116]⟩=false):Calls Tryz.prog 109 #[.pointer (some ⟨rb,0,I⟩)] w (aZ 1 w rb p q t i k True 8 λ_=>True):=by
 have az:=h.l;have C:Hid (Bd (j+1) t i k 3):=B;clear B;have l:(0:Int)<=(t.pos i:Int)/\(t.pos i:Int)<=7000:=oH (h.ar.aQ i);go_enter Tryz.func109,Tryz.ntmps109
 have aA:(i:Int)<(t.len:Int):=oH h.lt;have aC:(t.len:Int)<=6001:=oH h.ar.bj;have aD:=dU;have b:=Mz.start (wt:=1) h;go_wp2_with fail;refine(b.ne' (sz w) (aB)).lf (aF · 0) ?_;clear b;intro r b;have c:=b.f1;go_wp2_with fail;refine(b.ne' (sz r) (nk 0 (t.pos i) nl)).lf (bw · _ V) ?_;clear b c;intro aE b;have c:=b.f2;go_wp2_with fail;refine b.lf (bw · _ W) ?_;clear b c;intro aG b;have c:=b.f2;go_wp2_with fail;refine b.lf (bC · 0 dC 1) ?_;clear b c;intro aH b;have c:=b.f2;go_wp2_with fail;refine b.lf (aX · 0 dC _) ?_;clear b c;intro aJ b;have c:=b.f2;go_wp2_with fail;refine b.lf (aX · 0 dC _) ?_;clear b c;intro aK b;have c:=b.f2;go_wp2_with fail;refine b.lf (bw · _ X) ?_;clear b c;intro aL b;have c:=b.f2;go_wp2_with fail;refine b.lf (aX · 0 dC _) ?_;clear b c;intro aM b;have c:=b.f2;go_wp2_with fail;refine b.lf (aX · 0 dC _) ?_;clear b c;intro aN b;have c:=b.f2;go_wp2_with fail;refine b.nm (jw · 3 dC dC) ?_;clear b c;intro aO e aP Y aQ f aR _ b;have c:=b.f2
 cases aS:(Y==0)
 ·go_wp2_with fail;refine((b.gI e).fA 50).lf aW ?_;clear b c;intro aT b;have c:=b.f2;go_wp2_with fail;refine(b.fA 54).lf (aX · 0 dC _) ?_;clear b c;intro aU b;have c:=b.f2;go_wp2_with fail
  ·have s:Hid (∀m n o,(n=0->i<m)->o<64->Bd j t m n o):=C.out.dh (b.ok (du h.ar b.st.rd.lt ‹_›).1) h.lt;go_wp2_with fail;refine b.wn (aI · _) ?_;clear b c;intro aV D Z aa _ b;have c:=b.f2;go_wp2_with fail;refine b.lf (aX · 0 dC _) ?_;clear b c;intro aY b;have c:=b.f2;go_upto_if 113 with fail
   go_cut [] (λu=>∃(F:Nat) (G H:Int),Mz 1 w rb p q t i k True (-32) u F G H [(sz r,ae 54 (t.pos i) 0 0 e nl),(sz w,aB)] [] nl [])
   case first=>
    go_wp2_with fail
    ·go_wp2_with fail;refine(ik b.st.rd).mono ?_;rintro d a0 ⟨rfl,⟨ab,ac,v,K⟩,L⟩;replace b:=((b.rk K L (lR _) (λd=>absurd d v)).up (g':=True) (λ_ d=>absurd d v)).dead (s':=(-100)) v;clear K L;replace c:=b.f2;go_wp2_with fail;go_meet;exact⟨D,ab,ac,(b.less oM)⟩
    ·go_wp2_with fail;go_meet;exact⟨D,Z,aa,(b.less oM)⟩
   case rest=>
    clear c b;obtain⟨F,G,H,b⟩:=hcut;obtain⟨a1,x⟩:∃y,y=wc:=⟨_,Q⟩;subst x;have c:=b.f2;go_wp2_with fail;refine b.li (A · (b.bd s.out dC)) ?_;clear b c;intro a2 ad af ag a3 a4 a5 ah a6 _ b;have c:=b.f2;go_wp2_with fail;go_light;exact((b.dT (J ad (O ag) af)).fo 54 (t.pos i) 0 0 e (lT ah dC) l f).rt Tryz.results109 1
  ·go_wp2_with fail;go_light;exact(b.lk 54 (t.pos i) 0 0 e l f).rt Tryz.results109 1
 ·go_wp2_with fail;refine((b.gI e).fA 50).lf aW ?_;clear b c;intro a7 b;have c:=b.f2;go_wp2_with fail;refine(sJ _ _ f).mono ?_;rintro d _ ⟨⟨a8,rfl⟩,rfl⟩;go_wp2_with fail
  ·go_wp2_with fail;go_light;exact(b.lk 50 (t.pos i) 0 0 e l f).rt Tryz.results109 1
  ·go_wp2_with fail;refine(b.fA 54).lf (aX · 0 dC _) ?_;clear b c;intro a9 b;have c:=b.f2;go_wp2_with fail
   ·have s:Hid (∀m n o,(n=0->i<m)->o<64->Bd j t m n o):=C.out.dh (b.ok (du h.ar b.st.rd.lt ‹_›).1) h.lt;go_wp2_with fail;refine b.wn (aI · _) ?_;clear b c;intro a' M ai aj _ b;have c:=b.f2;go_wp2_with fail;refine b.lf (aX · 0 dC _) ?_;clear b c;intro ba b;have c:=b.f2;go_upto_if 113 with fail
    go_cut [] (λu=>∃(N:Nat) (P R:Int),Mz 1 w rb p q t i k True (-32) u N P R [(sz r,ae 54 (t.pos i) 0 0 e nl),(sz w,aB)] [] nl [])
    case first=>
     go_wp2_with fail
     ·go_wp2_with fail;refine(ik b.st.rd).mono ?_;rintro d bb ⟨rfl,⟨ak,al,z,S⟩,T⟩;replace b:=((b.rk S T (lR _) (λd=>absurd d z)).up (g':=True) (λ_ d=>absurd d z)).dead (s':=(-100)) z;clear S T;replace c:=b.f2;go_wp2_with fail;go_meet;exact⟨M,ak,al,(b.less oM)⟩
     ·go_wp2_with fail;go_meet;exact⟨M,ai,aj,(b.less oM)⟩
    case rest=>
     clear c b;obtain⟨N,P,R,b⟩:=hcut;obtain⟨bc,x⟩:∃y,y=wc:=⟨_,Q⟩;subst x;have c:=b.f2;go_wp2_with fail;refine b.li (A · (b.bd s.out dC)) ?_;clear b c;intro bd ao ap aq bf bg bh ar bi _ b;have c:=b.f2;go_wp2_with fail;go_light;exact((b.dT (J ao (O aq) ap)).fo 54 (t.pos i) 0 0 e (lT ar dC) l f).rt Tryz.results109 1
   ·go_wp2_with fail;go_light;exact(b.lk 54 (t.pos i) 0 0 e l f).rt Tryz.results109 1
theorem qt {m:Nat} (x:eS 82 18 m) {w:World} {rb n o i:Nat} {t:Tk} {k a:Int} (C:t.kind i=3) (h:Rd w rb n o t i k a) (p:k=0) (q:Bd (m+1) t i k 9) (t0:((t.text i).toList==[116,114,117,101])=false) (t1:((t.text i).toList==[102,97,108,115,101])=false) (t2:((t.text i).toList==[98,114,101,97,107])=false) (t3:((t.text i).toList==[110,101,120,116])=false) (D:((t.text i).toList==[112,97,110,105,99])=false) (F:((t.text i).toList==[114,101,116,117,114,110])=true):Calls Tryz.prog 97 #[.pointer (some ⟨rb,0,I⟩)] w (aZ 1 w rb n o t i k True 8 λ_=>True):=by
 have y:Hid (k=0):=p;clear p;have G:=h.l;have z:Hid (Bd (m+1) t i k 9):=q;clear q;have A:Hid (∀r s u,(s=0->i<r)->u<64->Bd m t r s u):=z.out.dh y.out h.lt;have d:(0:Int)<=(t.pos i:Int)/\(t.pos i:Int)<=7000:=oH (h.ar.aQ i);go_enter Tryz.func97,Tryz.ntmps97
 have H:(i:Int)<(t.len:Int):=oH h.lt;have K:(t.len:Int)<=6001:=oH h.ar.bj;have e:i+1<t.len:=cZ h.ar h.lt oM;have L:=cy;have b:=Mz.start (wt:=1) h;go_wp2_with fail;refine(b.ne' (sz w) (aB)).lf (aF · 0) ?_;clear b;intro B b;have c:=b.f1;go_wp2_with fail;refine(b.ne' (sz B) (nk 0 (t.pos i) nl)).lf dE ?_;clear b c;intro M b;have c:=b.f2;have f:=b.st.rd.r1;have j:=b.st.rd.fz 1;have l:=b.st.rd.l
 cases N:bS t (i+1) k 0 ⟨#[59]⟩
 ·cases P:bS t (i+1) k 0 ⟨#[125]⟩
  ·cases R:bS t (i+1) k 0 ⟨#[41]⟩
   ·cases S:bS t (i+1) k 0 ⟨#[44]⟩
    ·cases T:bS t (i+1) k 0 ⟨#[93]⟩
     ·go_wp2_with fail;refine((b.fA 40).jB (j':=i+1) e (Nat.lt_succ_self _)).lf (aX · 0 dC _) ?_;clear b c f j l;intro V b;have c:=b.f2;go_wp2_with fail;refine b.lf (aX · 0 dC _) ?_;clear b c;intro W b;have c:=b.f2;go_wp2_with fail;refine b.lf (aX · 0 dC _) ?_;clear b c;intro X b;have c:=b.f2;go_wp2_with fail;refine b.lf (aX · 0 dC _) ?_;clear b c;intro Y b;have c:=b.f2;go_wp2_with fail;refine b.lf (aX · 0 dC _) ?_;clear b c;intro Z b;have c:=b.f2;go_wp2_with fail;refine b.nd (x · (b.bd A.out dC)) ?_;clear b c;intro v aa ab ac ad ae _ b;have c:=b.f2;go_wp2_with fail;go_light;refine((b.dT (sl (sz v) 1)).l1 (sz v) 40 (t.pos i) 0 0 ⟨#[]⟩ d).rt Tryz.results97 1 ?_;simp[aK,World.setCell_alloc_past,c,sL]
     ·go_wp2_with fail;refine((b.fA 40).jB (j':=i+1) e (Nat.lt_succ_self _)).lf (aX · 0 dC _) ?_;clear b c f j l;intro af b;have c:=b.f2;go_wp2_with fail;refine b.lf (aX · 0 dC _) ?_;clear b c;intro ag b;have c:=b.f2;go_wp2_with fail;refine b.lf (aX · 0 dC _) ?_;clear b c;intro ah b;have c:=b.f2;go_wp2_with fail;refine b.lf (aX · 0 dC _) ?_;clear b c;intro ai b;have c:=b.f2;go_wp2_with fail;refine b.lf (aX · 0 dC _) ?_;clear b c;intro aj b;have c:=b.f2;go_wp2_with fail;go_light;exact(b.lk 40 (t.pos i) 0 0 ⟨#[]⟩ d).rt Tryz.results97 1
    ·go_wp2_with fail;refine((b.fA 40).jB (j':=i+1) e (Nat.lt_succ_self _)).lf (aX · 0 dC _) ?_;clear b c f j l;intro ak b;have c:=b.f2;go_wp2_with fail;refine b.lf (aX · 0 dC _) ?_;clear b c;intro al b;have c:=b.f2;go_wp2_with fail;refine b.lf (aX · 0 dC _) ?_;clear b c;intro ao b;have c:=b.f2;go_wp2_with fail;refine b.lf (aX · 0 dC _) ?_;clear b c;intro ap b;have c:=b.f2;go_wp2_with fail;go_light;exact(b.lk 40 (t.pos i) 0 0 ⟨#[]⟩ d).rt Tryz.results97 1
   ·go_wp2_with fail;refine((b.fA 40).jB (j':=i+1) e (Nat.lt_succ_self _)).lf (aX · 0 dC _) ?_;clear b c f j l;intro aq b;have c:=b.f2;go_wp2_with fail;refine b.lf (aX · 0 dC _) ?_;clear b c;intro ar b;have c:=b.f2;go_wp2_with fail;refine b.lf (aX · 0 dC _) ?_;clear b c;intro au b;have c:=b.f2;go_wp2_with fail;go_light;exact(b.lk 40 (t.pos i) 0 0 ⟨#[]⟩ d).rt Tryz.results97 1
  ·go_wp2_with fail;refine((b.fA 40).jB (j':=i+1) e (Nat.lt_succ_self _)).lf (aX · 0 dC _) ?_;clear b c f j l;intro av b;have c:=b.f2;go_wp2_with fail;refine b.lf (aX · 0 dC _) ?_;clear b c;intro aw b;have c:=b.f2;go_wp2_with fail;go_light;exact(b.lk 40 (t.pos i) 0 0 ⟨#[]⟩ d).rt Tryz.results97 1
 ·go_wp2_with fail;refine((b.fA 40).jB (j':=i+1) e (Nat.lt_succ_self _)).lf (aX · 0 dC _) ?_;clear b c f j l;intro ax b;have c:=b.f2;go_wp2_with fail;go_light;exact(b.lk 40 (t.pos i) 0 0 ⟨#[]⟩ d).rt Tryz.results97 1
end Go.Proofs.YtdghkacbpebcoaaGreat
