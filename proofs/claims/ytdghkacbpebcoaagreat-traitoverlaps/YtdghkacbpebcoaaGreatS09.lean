import Derived.Test.YtdghkacbpebcoaaGreatS06
namespace Go.Proofs.YtdghkacbpebcoaaGreat
open Go.RowKit
open Value renaming slice→J
open List renaming length→O
open Option renaming none→I
open World renaming heap→U
open _root_.Array renaming size→E
open Obj renaming cells→Ob
set_option linter.all false
set_option maxRecDepth 100000
set_option maxHeartbeats 0
theorem nS (ah:mH 1 91 True 8 λx=>x=19) {w:World} {rb u v i:Nat} {t:Tk} {k a:Int} (h:Rd w rb u v t i k a):Calls Tryz.prog 73 #[.pointer (some ⟨rb,0,I⟩),.bool false] w (aZ 1 w rb u v t i k False (-1) (λx=>x=9)):=by
 have hl:=h.l;have r:(0:Int)<=(t.pos i:Int)/\(t.pos i:Int)<=7000:=oH (h.ar.aQ i);go_enter Tryz.func73,Tryz.ntmps73
 have aD:=dx;have b:=Mz.start (wt:=1) h;go_wp2_with fail;refine(b.ne' (sz w) (aB)).lf (aF · 9) ?_;clear b;intro K b;have c:=b.f1;go_wp2_with fail;refine(b.ne' (sz K) (nk 9 (t.pos i) nl)).et (aU · _) ?_;clear b c;intro aE L s ai b;have c:=b.f2;go_wp2_with fail
 ·go_wp2_with fail;go_light;exact Mz.cq (C:=λx=>x=9) (d:= -1) Tryz.results73 Q Q (b.lk 9 (t.pos i) 0 0 ⟨#[]⟩ r dC (λ_=>Gr.ft (λx m=>by cases m))) 1 Q (λ_=>rfl) oM Q
 ·obtain rfl:L=true:=by have aj:= ‹(!L)=false›;simpa using aj
  have ak:Hid (i<s):=by have:=(ai.yes Q).1;show i<s;omega
  go_wp2_with fail;go_loopg [6] (ml t s k) (λg al wr=>∃(y:Value) (f:List (List Value)) (z:Bool) (e:Nat) (o M:Int),g=ml t e o/\dQ 0 f e o/\(al=.bool z/\(o=0->∀x∈f.map az,x=10\/x=11))/\Mz 1 w rb u v t i k True (0) wr e o M [(sz K,nk 9 (t.pos i) y),(sz w,aB)] [] y f)
  case atStart=>exact⟨nl,[],false,s,k,a,Q,⟨λ_=>by simp,sQ⟩,⟨Q,λ_ x m=>by cases m⟩,((b.up (g':=True) (λ_ _=>ak.out)).less oM)⟩
  case round=>
   clear c b;obtain⟨y,f,z,e,o,M,N,hF,⟨rfl,p⟩,b⟩:=hrel;have q:=b.st.rd.lt;have A:(0:Int)<=(t.pos e:Int)/\(t.pos e:Int)<=7000:=oH (h.ar.aQ e);have B:Hid (gk=ml t e o):=N;clear N;obtain⟨aG,aH,rfl⟩:=b.shape;have c:=b.f2
   cases P:(o==0)
   ·go_wp2_with fail;refine b.lf aW ?_;clear b c;intro aJ b;have c:=b.f2;go_wp2_with fail;go_light;exact Mz.cq (C:=λx=>x=9) (d:= -1) Tryz.results73 Q Q ((b.fk 9 (t.pos i) (lT hF.2 dC) r (λl=>absurd l (sU P))).up (g':=False) (λx=>x.elim)) 1 Q (λ_=>rfl) oM Q
   ·obtain rfl:o=0:=sU P;have j:Hid (i<=e/\k=0/\i<e):=⟨b.le,b.ok Q,b.go trivial Q⟩;replace p:Hid (∀x∈f.map az,x=10\/x=11):=p Q;have n:O f<=6001:=oI (hF.1 Q) h.ar.bj;replace b:=b.bP;go_wp2_with fail;refine b.lf aW ?_;clear b c;intro aK b;have c:=b.f2;go_wp2_with fail;refine b.lf (aF · 10) ?_;clear b c;intro D b;have c:=b.f2
    cases aL:cj t e 0 0 4
    ·go_wp2_with fail;refine(b.ne' (sz D) (nk 10 (t.pos e) nl)).lf (bC · 0 dC 4) ?_;clear b c;intro aM b;have c:=b.f3;go_wp2_with fail;refine(b.fA 11).nm cD ?_;clear b c;intro ao F aN aP aQ ap aR _ b;have c:=b.f3;go_wp2_with (at_builtin;refine((b.gI F).lk 11 (t.pos e) 0 0 F A (lT ap dC) (λ_=>Gr.jj (λx m=>by cases m))).ap (sz ao) (lT n dC) ?_;clear b c;intro aS R S b;have c:=b.f3)
     go_wp2_with fail;refine(b.iU (J R (O f+1) S)).et (aU · _) ?_;clear b c;intro aT aV aX aY b;have c:=b.f3;go_wp2_with fail
     ·go_wp2_with fail;go_light;exact Mz.cq (C:=λx=>x=9) (d:= -1) Tryz.results73 Q Q ((b.fk 9 (t.pos i) (by have:=n;simp;omega) r (λl=>Gr.ft (hl:=by have:=n;simp;omega) ((λl=>by rw[List.map_append];exact aO p.out (.inr Q)) l))).aE (i':=i) (k':=k) (g':=False) (s':= -14) j.out.1 (λ_=>j.out.2.1) (λx=>x.elim) oM) 2 Q (λ_=>rfl) oM Q
     ·go_wp2_with fail;refine b.wn (aI · _) ?_;clear b c;intro a0 T V aq a1 b;have c:=b.f3;go_wp2_with fail;replace b:=b.pop;go_roundg (ml t T V)
      case measure=>rw[B.out];exact bN q b.le (b.go trivial)
      case rel=>exact⟨(J R (O f+1) S),(f++[(ae 11 (t.pos e) 0 0 F nl).toList]),true,T,V,aq,Q,dQ.snoc (t:=t) hF Q q h.ar (b.go trivial),⟨Q,(λl=>by rw[List.map_append];exact aO p.out (.inr Q))⟩,b.aE (s':=0) (g':=True) j.out.1 (λ_=>j.out.2.1) (λ_ _=>j.out.2.2) oM⟩
    ·cases z
     ·go_wp2_with fail;refine(b.ne' (sz D) (nk 10 (t.pos e) nl)).lf (bC · 0 dC 4) ?_;clear b c;intro a2 b;have c:=b.f3;go_wp2_with fail;refine(ah b.st.rd).mono ?_;rintro l ar ⟨a3,a4,a5,a6,G,a7,a8,a9,a',ba,bb,rfl,W,X,au,av⟩;have aw:=X.name;replace b:=b.pX W;clear W X au av;replace c:=b.f3;go_wp2_with (at_builtin;refine((b.gI G).lk 10 (t.pos e) 0 0 G A aw (λ_=>Gr.nK (λx m=>by cases m))).ap (sz ar) (lT n dC) ?_;clear b c;intro bc Y Z b;have c:=b.f3)
      go_wp2_with fail;refine(b.iU (J Y (O f+1) Z)).et (aU · _) ?_;clear b c;intro bd bf bg bh b;have c:=b.f3;go_wp2_with fail
      ·go_wp2_with fail;go_light;exact Mz.cq (C:=λx=>x=9) (d:= -1) Tryz.results73 Q Q ((b.fk 9 (t.pos i) (by have:=n;simp;omega) r (λl=>Gr.ft (hl:=by have:=n;simp;omega) ((λl=>by rw[List.map_append];exact aO p.out (.inl Q)) l))).aE (i':=i) (k':=k) (g':=False) (s':= -14) j.out.1 (λ_=>j.out.2.1) (λx=>x.elim) oM) 2 Q (λ_=>rfl) oM Q
      ·go_wp2_with fail;refine b.wn (aI · _) ?_;clear b c;intro bi aa ab ax bj b;have c:=b.f3;go_wp2_with fail;replace b:=b.pop;go_roundg (ml t aa ab)
       case measure=>rw[B.out];exact bN q b.le (b.go trivial)
       case rel=>exact⟨(J Y (O f+1) Z),(f++[(ae 10 (t.pos e) 0 0 G nl).toList]),false,aa,ab,ax,Q,dQ.snoc (t:=t) hF Q q h.ar (b.go trivial),⟨Q,(λl=>by rw[List.map_append];exact aO p.out (.inl Q))⟩,b.aE (s':=0) (g':=True) j.out.1 (λ_=>j.out.2.1) (λ_ _=>j.out.2.2) oM⟩
     ·go_wp2_with fail;refine(b.ne' (sz D) (nk 10 (t.pos e) nl)).lf (bC · 0 dC 4) ?_;clear b c;intro bk b;have c:=b.f3;go_wp2_with fail;refine(b.fA 11).nm cD ?_;clear b c;intro ay H bl bm bn aA bo _ b;have c:=b.f3;go_wp2_with (at_builtin;refine((b.gI H).lk 11 (t.pos e) 0 0 H A (lT aA dC) (λ_=>Gr.jj (λx m=>by cases m))).ap (sz ay) (lT n dC) ?_;clear b c;intro bp ac ad b;have c:=b.f3)
      go_wp2_with fail;refine(b.iU (J ac (O f+1) ad)).et (aU · _) ?_;clear b c;intro bq br bs bt b;have c:=b.f3;go_wp2_with fail
      ·go_wp2_with fail;go_light;exact Mz.cq (C:=λx=>x=9) (d:= -1) Tryz.results73 Q Q ((b.fk 9 (t.pos i) (by have:=n;simp;omega) r (λl=>Gr.ft (hl:=by have:=n;simp;omega) ((λl=>by rw[List.map_append];exact aO p.out (.inr Q)) l))).aE (i':=i) (k':=k) (g':=False) (s':= -14) j.out.1 (λ_=>j.out.2.1) (λx=>x.elim) oM) 2 Q (λ_=>rfl) oM Q
      ·go_wp2_with fail;refine b.wn (aI · _) ?_;clear b c;intro bu af ag aC jy b;have c:=b.f3;go_wp2_with fail;replace b:=b.pop;go_roundg (ml t af ag)
       case measure=>rw[B.out];exact bN q b.le (b.go trivial)
       case rel=>exact⟨(J ac (O f+1) ad),(f++[(ae 11 (t.pos e) 0 0 H nl).toList]),true,af,ag,aC,Q,dQ.snoc (t:=t) hF Q q h.ar (b.go trivial),⟨Q,(λl=>by rw[List.map_append];exact aO p.out (.inr Q))⟩,b.aE (s':=0) (g':=True) j.out.1 (λ_=>j.out.2.1) (λ_ _=>j.out.2.2) oM⟩
end Go.Proofs.YtdghkacbpebcoaaGreat
