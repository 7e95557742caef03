import Derived.Test.YtdghkacbpebcoaaGreatS23
namespace Go.Proofs.YtdghkacbpebcoaaGreat
open Go.RowKit
open Value renaming slice→J
open List renaming length→O
open Option renaming none→I
open World renaming heap→U
open _root_.Array renaming size→E
open Obj renaming cells→Ob
set_option linter.all false
set_option maxRecDepth 100000
set_option maxHeartbeats 0
section
variable{a k:Int} {cap i rb tb:Nat} {t:Tk} {w:World}
theorem xK (h:Rd w rb tb cap t i k a) (b:Nat) (c:b<=2) (s:ByteArray) (d:bS t i k b s=false):Calls Tryz.prog 35 #[.pointer (some ⟨rb,0,I⟩),.int .i64 b,.string s] w λe f=>e=.returned (.bool false)/\Below (sz w) w f:=by
 have:=aX h b c s;rwa [d] at this
theorem wu (h:Rd w rb tb cap t i k a) (b:Nat) (c:b<=2) (s:ByteArray) (d:bS t i k b s=true):Calls Tryz.prog 35 #[.pointer (some ⟨rb,0,I⟩),.int .i64 b,.string s] w λe f=>e=.returned (.bool true)/\Below (sz w) w f:=by
 have:=aX h b c s;rwa [d] at this
theorem rW {a b:ByteArray} (j:hJ a) (l:hJ b):cu 2 (a++⟨#[58,58]⟩++b)/\¬cu 1 (a++⟨#[58,58]⟩++b):=by
 have e:(a++⟨#[58,58]⟩++b).toList=a.toList++58::58::b.toList:=by
  rw[fO,fO,show(⟨#[58,58]⟩:ByteArray).toList=[58,58] by rw[Lib.toList_data]];simp
 refine⟨⟨[a.toList,b.toList],sQ,sQ,λs f=>?_,by rw[e];rfl⟩,?_⟩
 ·simp only[List.mem_cons,List.not_mem_nil,or_false] at f;rcases f with rfl|rfl
  ·exact j
  ·exact l
 ·rintro⟨n,o,p,d,c⟩;match n,o,p,d,c with
  |[m],_,_,d,c=>
   rw[e] at c;have q:=(d m sQ).2;have r:m=a.toList++58::58::b.toList:=c.symm;exact q (by rw[r];simp)
theorem uY (S:tW) (h:Rd w rb tb cap t i k a):Calls Tryz.prog 18 #[.pointer (some ⟨rb,0,I⟩)] w (aZ 1 w rb tb cap t i k True 8 (λc=>c=1)):=by
 have a1:=h.l;have F:(0:Int)<=(t.pos i:Int)/\(t.pos i:Int)<=7000:=oH (h.ar.aQ i);go_enter Tryz.func18,Tryz.ntmps18
 have b:=Mz.start (wt:=1) h;go_wp2_with fail;refine(b.ne' (sz w) (aB)).lf (aF · 1) ?_;clear b;intro A b;have e:=b.f1;go_wp2_with fail;refine(b.ne' (sz A) (nk 1 (t.pos i) nl)).wn (aI · _) ?_;clear b e;intro a2 a3 a4 a5 a6 b;have e:=b.f2;go_wp2_with fail;refine b.nm cD ?_;clear b e;intro a7 q a8 a9 a' G ba bb b;have e:=b.f2;go_wp2_with fail;refine(b.gI q).wn (aI · _) ?_;clear b e;intro bc T V ar bd b;have e:=b.f2;go_wp2_with fail;go_loopg [4] (ml t T V) (λg _ wr=>∃(o:Value) (j:List (List Value)) (f:Nat) (l p:Int),g=ml t f l/\dQ 4 j f l/\(l=0->∀c∈j.map az,c=2\/c=3\/c=6\/c=7\/c=108)/\Mz 1 w rb tb cap t i k True (-48) wr f l p [(sz A,ae 1 (t.pos i) 0 0 q o),(sz w,aB)] [] o j)
 case atStart=>exact⟨nl,[],T,V,ar,Q,⟨λ_=>by simp,sQ⟩,(λ_ c au=>by cases au),(b.less oM)⟩
 case round=>
  clear e b;obtain⟨o,j,f,l,p,s,hF,u,b⟩:=hrel;have v:=b.st.rd.lt;have W:(0:Int)<=(t.pos f:Int)/\(t.pos f:Int)<=7000:=oH (h.ar.aQ f);have B:Hid (gk=ml t f l):=s;clear s;obtain⟨H,K,rfl⟩:=b.shape;have e:=b.f2
  cases x:(l==0)
  ·go_wp2_with fail;refine b.lf aW ?_;clear b e;intro bf b;have e:=b.f2;have av:l≠0:=sU x;go_wp2_with fail;go_loopg [] (ml t f l) (λg wr=>∃(o:Value) (j:List (List Value)) (f:Nat) (l p:Int),g=ml t f l/\dQ 4 j f l/\(l=0->∀c∈j.map az,c=2\/c=3\/c=6\/c=7\/c=108)/\Mz 1 w rb tb cap t i k True (-48) wr f l p [(sz A,ae 1 (t.pos i) 0 0 q o),(sz w,aB)] [] o j)
   case atStart=>exact⟨(J H (O j) K),j,f,l,p,Q,hF,(λn=>absurd n av),(b.less oM)⟩
   case round=>
    clear e b;obtain⟨o,j,f,l,p,s,hF,u,b⟩:=hrel;have v:=b.st.rd.lt;have W:(0:Int)<=(t.pos f:Int)/\(t.pos f:Int)<=7000:=oH (h.ar.aQ f);have B:Hid (gk=ml t f l):=s;clear s;obtain⟨bg,bh,rfl⟩:=b.shape;have e:=b.f2
    cases x:(l==0)
    ·go_wp2_with fail;refine b.lf aW ?_;clear b e;intro bi b;have e:=b.f2;go_wp2_with fail;go_light;exact Mz.cq (C:=λc=>c=1) (d:=8) Tryz.results18 Q Q (b.fo 1 (t.pos i) 0 0 q (lT hF.2 dC) F (lT G dC) (λn=>absurd n (sU x))) 1 Q (λ_=>cY dC) oM Q
    ·obtain rfl:l=0:=sU x;have m:Hid (i<=f/\k=0/\i<f):=⟨b.le,b.ok Q,b.go trivial Q⟩;have y:Hid (∀c∈j.map az,c=2\/c=3\/c=6\/c=7\/c=108):=u Q;clear u;have D:O j<=6005:=oI (hF.1 Q) h.ar.bj;replace b:=b.bP;go_wp2_with fail;refine b.lf aW ?_;clear b e;intro bj b;have e:=b.f2;go_wp2_with fail;refine b.et (aU · _) ?_;clear b e;intro bk bl bm bn b;have e:=b.f2;go_wp2_with fail
     ·go_wp2_with fail;go_region_law (first|(refine b.as (sz aw) (lT D dC) ?_;clear b e;intro bo X Y b;have e:=b.f2)|(go_simp;refine b.drew.nd (vp S ·) ?_;clear b e;intro aw ax Z aa ay aA _ b;have e:=b.f2))
      all_goals
       go_wp2_with fail;replace b:=b.dT (J X (O j+1) Y);go_roundg (ml t Z aa)
       case measure=>rw[B.out];exact bN v b.le (b.go trivial)
       case rel=>exact⟨(J X (O j+1) Y),(j++[ax.t]),Z,aa,ay,Q,dQ.snoc (t:=t) hF Q v h.ar (b.go trivial),(λn=>by rw[List.map_append];exact aO (C:=λc=>c=2\/c=3\/c=6\/c=7\/c=108) y.out (.inr (aA n))),b.aE (s':= -48) (g':=True) m.out.1 (λ_=>m.out.2.1) (λ_ _=>m.out.2.2) oM⟩
     ·go_wp2_with fail;go_light;exact Mz.cq (C:=λc=>c=1) (d:=8) Tryz.results18 Q Q ((b.fo 1 (t.pos i) 0 0 q (lT hF.2 dC) F (lT G dC) (λn=>Gr.sY y.out)).aE (s':= -47) (g':=True) m.out.1 (λ_=>m.out.2.1) (λ_ _=>m.out.2.2) oM) 1 Q (λ_=>cY dC) oM Q
  ·obtain rfl:l=0:=sU x;have m:Hid (i<=f/\k=0/\i<f):=⟨b.le,b.ok Q,b.go trivial Q⟩;have y:Hid (∀c∈j.map az,c=2\/c=3\/c=6\/c=7\/c=108):=u Q;clear u;have D:O j<=6005:=oI (hF.1 Q) h.ar.bj;replace b:=b.bP;go_wp2_with fail;refine b.lf aW ?_;clear b e;intro bp b;have e:=b.f2
   cases N:bS t f 0 0 ⟨#[117,115,101]⟩
   ·go_wp2_with fail;refine b.lf (xK · 0 dC _ N) ?_;clear b e;intro bq b;have e:=b.f2;clear N;go_wp2_with fail;replace b:=b.aE (s':= -48) (g':=True) m.out.1 (λ_=>m.out.2.1) (λ_ _=>m.out.2.2) oM;replace e:=b.f2;go_wp2_with fail;go_loopg [] (ml t f 0) (λg wr=>∃(o:Value) (j:List (List Value)) (f:Nat) (l p:Int),g=ml t f l/\dQ 4 j f l/\(l=0->∀c∈j.map az,c=2\/c=3\/c=6\/c=7\/c=108)/\Mz 1 w rb tb cap t i k True (-48) wr f l p [(sz A,ae 1 (t.pos i) 0 0 q o),(sz w,aB)] [] o j)
    case atStart=>exact⟨(J H (O j) K),j,f,0,p,Q,hF,(λ_=>y.out),(b.less oM)⟩
    case round=>
     clear e b;obtain⟨o,j,f,l,p,s,hF,u,b⟩:=hrel;have v:=b.st.rd.lt;have W:(0:Int)<=(t.pos f:Int)/\(t.pos f:Int)<=7000:=oH (h.ar.aQ f);have B:Hid (gk=ml t f l):=s;clear s;obtain⟨br,bs,rfl⟩:=b.shape;have e:=b.f2
     cases x:(l==0)
     ·go_wp2_with fail;refine b.lf aW ?_;clear b e;intro bt b;have e:=b.f2;go_wp2_with fail;go_light;exact Mz.cq (C:=λc=>c=1) (d:=8) Tryz.results18 Q Q (b.fo 1 (t.pos i) 0 0 q (lT hF.2 dC) F (lT G dC) (λn=>absurd n (sU x))) 1 Q (λ_=>cY dC) oM Q
     ·obtain rfl:l=0:=sU x;have m:Hid (i<=f/\k=0/\i<f):=⟨b.le,b.ok Q,b.go trivial Q⟩;have y:Hid (∀c∈j.map az,c=2\/c=3\/c=6\/c=7\/c=108):=u Q;clear u;have D:O j<=6005:=oI (hF.1 Q) h.ar.bj;replace b:=b.bP;go_wp2_with fail;refine b.lf aW ?_;clear b e;intro bu b;have e:=b.f2;go_wp2_with fail;refine b.et (aU · _) ?_;clear b e;intro bv bw bx bz b;have e:=b.f2;go_wp2_with fail
      ·go_wp2_with fail;go_region_law (first|(refine b.as (sz aC) (lT D dC) ?_;clear b e;intro bA ab ac b;have e:=b.f2)|(go_simp;refine b.drew.nd (vp S ·) ?_;clear b e;intro aC aD ad af aE aG _ b;have e:=b.f2))
       all_goals
        go_wp2_with fail;replace b:=b.dT (J ab (O j+1) ac);go_roundg (ml t ad af)
        case measure=>rw[B.out];exact bN v b.le (b.go trivial)
        case rel=>exact⟨(J ab (O j+1) ac),(j++[aD.t]),ad,af,aE,Q,dQ.snoc (t:=t) hF Q v h.ar (b.go trivial),(λn=>by rw[List.map_append];exact aO (C:=λc=>c=2\/c=3\/c=6\/c=7\/c=108) y.out (.inr (aG n))),b.aE (s':= -48) (g':=True) m.out.1 (λ_=>m.out.2.1) (λ_ _=>m.out.2.2) oM⟩
      ·go_wp2_with fail;go_light;exact Mz.cq (C:=λc=>c=1) (d:=8) Tryz.results18 Q Q ((b.fo 1 (t.pos i) 0 0 q (lT hF.2 dC) F (lT G dC) (λn=>Gr.sY y.out)).aE (s':= -47) (g':=True) m.out.1 (λ_=>m.out.2.1) (λ_ _=>m.out.2.2) oM) 1 Q (λ_=>cY dC) oM Q
   ·go_wp2_with fail;refine b.lf (wu · 0 dC _ N) ?_;clear b e;intro bB b;have e:=b.f2;go_wp2_with fail;refine b.lf (aF · 2) ?_;clear b e;intro ag b;have e:=b.f2;have aH:(0:Int)<=((t.pos f):Int)/\((t.pos f):Int)<=7000:=oH (h.ar.aQ f);go_wp2_with fail;refine(b.ne' (sz ag) (nk 2 (t.pos f) nl)).wn (aI · _) ?_;clear b e;intro bC bD bE bF _ b;have e:=b.f3;go_wp2_with fail;refine b.nm cD ?_;clear b e;intro bG z bH bI bJ ah aJ bK b;have e:=b.f3;go_wp2_with fail;refine(b.gI z).wn (aI · _) ?_;clear b e;intro bL bM aK bO aL b;have e:=b.f3;have bP:¬(9223372036854775807<z.size+2):=oH ah;go_upto_region 10 with fail
    go_cut [] (λaM=>∃(r:ByteArray) (ai:Nat) (L aj:Int),(r.size<=20000/\(L=0->cu 2 r/\¬cu 1 r))/\Mz 1 w rb tb cap t f 0 True (16*((f:Int) - (i:Int))+(-96)) aM ai L aj [(sz ag,ae 2 (t.pos f) 0 0 r nl),(sz A,ae 1 (t.pos i) 0 0 q (J H (O j) K)),(sz w,aB)] [] (J H (O j) K) j)
    case first=>
     go_wp2_with fail;go_region_law (go_simp;refine(cD b.drew.st.rd).mono ?_;rintro n bQ ⟨M,rfl,bR,aN,ak,aP,P,aQ⟩;have bT:¬(9223372036854775807<z.size+2+M.size):=(oH ah);have aR:Hid (ak=0->aK=0):=P.ok;replace b:=b.drew.pX P;clear P;replace e:=b.f3)
     all_goals
      go_wp2_with fail;go_meet;exact⟨(z++⟨#[58,58]⟩++M),aN,ak,aP,⟨by rw[fN,fN];show z.size+2+M.size<=_;omega,λn=>rW (aJ (aL.out (aR.out n))) (aQ n)⟩,((b.gI (z++⟨#[58,58]⟩++M)).less oM)⟩
    case rest=>
     clear e b;obtain⟨r,ai,L,aj,R,b⟩:=hcut;obtain⟨bU,aS⟩:∃c,c=wc:=⟨_,Q⟩;subst aS;have e:=b.f3;have aT:Hid (L=0->cu 2 r/\¬cu 1 r):=R.2;have aV:=R.1;clear R;go_wp2_with fail;refine b.wn (aI · _) ?_;clear b e;intro aX al ao aY a0 b;have e:=b.f3;go_wp2_with (at_builtin;refine(b.lk 2 (t.pos f) 0 0 r aH aV (λn=>Gr.wh (aT.out (a0.out n)))).ap (sz aX) (lT D dC) ?_;clear b e;intro bV ap aq b;have e:=b.f3)
     go_wp2_with fail;replace b:=(b.iU (J ap (O j+1) aq)).pop;go_roundg (ml t al ao)
     case measure=>rw[B.out];exact bN v b.le (b.go trivial)
     case rel=>exact⟨(J ap (O j+1) aq),(j++[(ae 2 (t.pos f) 0 0 r nl).toList]),al,ao,aY,Q,dQ.snoc (t:=t) hF Q v h.ar (b.go trivial),(λn=>by rw[List.map_append];exact aO (C:=λc=>c=2\/c=3\/c=6\/c=7\/c=108) y.out (.inl (cY dC))),b.aE (s':= -48) (g':=True) m.out.1 (λ_=>m.out.2.1) (λ_ _=>m.out.2.2) oM⟩
end
end Go.Proofs.YtdghkacbpebcoaaGreat
