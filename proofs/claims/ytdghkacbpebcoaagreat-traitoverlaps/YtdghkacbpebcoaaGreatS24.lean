import Derived.Test.YtdghkacbpebcoaaGreatS23
namespace Go.Proofs.YtdghkacbpebcoaaGreat
open Go.RowKit
open Value renaming slice→J
open List renaming length→O
open Option renaming none→I
open World renaming heap→U
open _root_.Array renaming size→E
open Obj renaming cells→Ob
set_option linter.all false
set_option maxRecDepth 100000
set_option maxHeartbeats 0
section
variable{idx:Nat}
section
variable{w W w':World} {rb tb cap i j:Nat} {t:Tk} {k kj aj:Int} {g:Prop} {s:Int} {L:List (Nat × Array Value)} {T us:List (List Value)} {kv:Value} {vs:List (List Value)}
theorem Mz.xj {x:List Value} (q:Mz 1 w rb tb cap t i k g s W j kj aj L (us++(us.drop idx++T)) kv vs) (h:us[idx]? =some x):Mz 1 w rb tb cap t i k g s W j kj aj L ([x]++(us++(us.drop (idx+1)++T))) kv vs:=by
 have b:us.drop idx=x::us.drop (idx+1):=by
  obtain⟨c,d⟩:=gS h;rw[List.drop_eq_getElem_cons c,d]
 rw[b] at q;refine q.sub (λe a=>?_) (λf l=>?_)
 ·simp only[List.mem_append,List.mem_cons,List.not_mem_nil,or_false] at a⊢;rcases a with h|h|h|h
  ·exact .inr (.inl (.inl h))
  ·exact .inl h
  ·exact .inr (.inl (.inr h))
  ·exact .inr (.inr h)
 ·simp only[bK,cL,cX];omega
theorem Mz.forget (q:Mz 1 w rb tb cap t i k g s W j kj aj L (us++(us.drop idx++T)) kv vs):Mz 1 w rb tb cap t i k g s W j kj aj L T kv vs:=by
 refine q.sub (λd c=>by simp only[List.mem_append];exact .inr (.inr c)) (λa b=>?_);have e:=cK 1 a b us;have f:=cK 1 a b (us.drop idx);simp only[bK];omega
end
end
theorem xX:tW:=by
 intro w V W X G t aP ca h pos H aQ;have cb:=h.l;go_enter Tryz.func61,Tryz.ntmps61
 have a:=Mz.start (wt:=1) h;go_wp2_with fail;refine((a.ne' (sz w) (ae 3 pos 1 H ⟨#[]⟩ nl)).ne' ((sz w)+1) (aB)).nm cD ?_;clear a;intro cc K cd ce cf aR cg ch a;have r:=a.f2;go_wp2_with fail;refine(a.pP K).nn (pZ · false) ?_;clear a r;intro ao aS ci cj ck bn cl a;have r:=a.f2;go_wp2_with fail;refine((a.iU (sl (sz ao) 1)).m1 (sz ao)).wn (aI · _) ?_;clear a r;intro cm aT aV bo bp a;have r:=a.f2;go_wp2_with fail;go_loopg [5,7] (ml t aT aV) (λg _ _ wr=>∃(ap:Value) (m:List (List Value)) (s:Nat) (P aY:Int),g=ml t s P/\dQ 4 m s P/\(1<=O m/\(P=0->∃L,m.map az=9::L/\∀u∈L,u=4))/\Mz 1 w V W X t G aP True (-31) wr s P aY [((sz w)+1,aB),(sz w,ae 3 pos 1 H K ap)] [] ap m)
 case atStart=>exact⟨(sl (sz ao) 1),[aS.t],aT,aV,bo,Q,⟨λ_=>by simp,sQ⟩,⟨sQ,λv=>⟨[],by show [az aS.t]=_;rw[bn (bp.out v)],λu B=>by cases B⟩⟩,(a.less oM)⟩
 case round=>
  clear r a;obtain⟨ap,m,s,P,aY,aa,hF,aq,a⟩:=hrel;have ah:=a.st.rd.lt;have cn:(0:Int)<=(t.pos s:Int)/\(t.pos s:Int)<=7000:=oH (h.ar.aQ s);have aZ:Hid (gk=ml t s P):=aa;clear aa;obtain⟨co,ab,rfl⟩:=a.shape;have r:=a.f2
  cases a0:(P==0)
  ·go_wp2_with fail;refine a.lf aW ?_;clear a r;intro cp a;have r:=a.f2;go_wp2_with fail;go_light;exact Mz.cq (C:=λu=>u=3) (d:=8) Tryz.results61 Q Q (a.fo 3 pos 1 H K (lT hF.2 dC) aQ (lT aR dC) (λv=>absurd v (sU a0))) 0 Q (λ_=>cY dC) oM Q
  ·obtain rfl:P=0:=sU a0;have M:Hid (G<=s/\aP=0/\G<s):=⟨a.le,a.ok Q,a.go trivial Q⟩;have ai:Hid (1<=O m/\∃L,m.map az=9::L/\∀u∈L,u=4):=⟨aq.1,aq.2 Q⟩;clear aq;have bq:O m<=6005:=oI (hF.1 Q) h.ar.bj;replace a:=a.bP;go_wp2_with fail;refine a.lf aW ?_;clear a r;intro cq a;have r:=a.f2;go_wp2_with fail;refine a.et (aU · _) ?_;clear a r;intro cr cs y ct a;have r:=a.f2;go_wp2_with fail
   ·obtain⟨D,rfl⟩:=a.kD ai.out.1;clear r;have r:=a.f2;obtain⟨ac,br,ad⟩:=a.sN;clear a;have a:=ad;clear ad;go_wp2_with fail;refine a.lf (aF · 4) ?_;clear a r;intro Y a;obtain⟨b,c,e,f⟩:=a.at 1 Q;obtain⟨i,j,k,l⟩:=a.at 2 Q;have bs:(0:Int)<=((t.pos y):Int)/\((t.pos y):Int)<=7000:=oH (h.ar.aQ y);go_wp2_with fail;refine(a.ne' (sz Y) (nk 4 (t.pos y) nl)).nm cD ?_;clear a b c e f i j k l;intro cu F bt bu bv bw cv _ a;obtain⟨n,o,p,q⟩:=a.at 0 Q;obtain⟨b,c,e,f⟩:=a.at 2 Q;obtain⟨i,j,k,l⟩:=a.at 3 Q;obtain⟨cw,cy⟩:=a.ne 0 2 Q Q dC;obtain⟨cz,cA⟩:=a.ne 0 3 Q Q dC;go_wp2_with fail;refine(a.gI F).lf (aX · 0 dC _) ?_;clear a n o p q b c e f i j k l;intro cB a;obtain⟨n,o,p,q⟩:=a.at 0 Q;obtain⟨b,c,e,f⟩:=a.at 2 Q;obtain⟨i,j,k,l⟩:=a.at 3 Q;go_upto_if 30 with fail
    go_cut [] (λar=>∃(au:Value) (R:List (List Value)) (aj:Nat) (Z av:Int),(O R<=6002/\(Z=0->∀u∈R.map az,u=5))/\Mz 1 w V W X t s 0 True (16*((s:Int) - (G:Int))+(-47)) ar aj Z av [(sz Y,ae 4 (t.pos y) 0 0 F au),(D,ac),((sz w)+1,aB),(sz w,ae 3 pos 1 H K (J (some ⟨D,0,I⟩) (O m) ab))] ([]++(m++[])) au R)
    case first=>
     go_wp2_with fail
     ·go_wp2_with fail;refine a.wn (aI · _) ?_;clear a n o p q b c e f i j k l;intro cC a1 bx bz cE a;obtain⟨n,o,p,q⟩:=a.at 0 Q;obtain⟨b,c,e,f⟩:=a.at 2 Q;obtain⟨i,j,k,l⟩:=a.at 3 Q;go_wp2_with fail;refine a.lf (aX · 0 dC _) ?_;clear a n o p q b c e f i j k l;intro cF a;obtain⟨n,o,p,q⟩:=a.at 0 Q;obtain⟨b,c,e,f⟩:=a.at 2 Q;obtain⟨i,j,k,l⟩:=a.at 3 Q;go_upto_if 34 with fail
      go_cut [] (λar=>∃(a2:Nat) (aw a3:Int),Mz 1 w V W X t s 0 True (16*((s:Int) - (G:Int))+(-63)) ar a2 aw a3 [(sz Y,ae 4 (t.pos y) 0 0 F nl),(D,ac),((sz w)+1,aB),(sz w,ae 3 pos 1 H K (J (some ⟨D,0,I⟩) (O m) ab))] ([]++(m++[])) nl [])
      case first=>
       go_wp2_with fail
       ·go_wp2_with fail;refine(ik a.st.rd).mono ?_;rintro v cG ⟨rfl,⟨bA,bB,ax,a4⟩,a5⟩;replace a:=((a.rk a4 a5 (lR _) (λv=>absurd v ax)).up (g':=True) (λ_ v=>absurd v ax)).dead (s':=(16*((s:Int) - (G:Int))+(-100))) ax;clear a4 a5;clear n o p q b c e f i j k l;obtain⟨n,o,p,q⟩:=a.at 0 Q;obtain⟨b,c,e,f⟩:=a.at 2 Q;obtain⟨i,j,k,l⟩:=a.at 3 Q;go_wp2_with fail;go_meet;exact⟨a1,bA,bB,(a.less oM)⟩
       ·go_wp2_with fail;go_meet;exact⟨a1,bx,bz,(a.less oM)⟩
      case rest=>
       clear n o p q b c e f i j k l a;obtain⟨a2,aw,a3,a⟩:=hcut;obtain⟨cH,ay⟩:∃u,u=wc:=⟨_,Q⟩;subst ay;obtain⟨n,o,p,q⟩:=a.at 0 Q;obtain⟨b,c,e,f⟩:=a.at 2 Q;obtain⟨i,j,k,l⟩:=a.at 3 Q;go_wp2_with fail;refine((iS _).2.1 a.st.rd (fM _ _ _ 4) _).mono ?_;rintro v bC ⟨a6,a7,x,af,N,ag,rfl,ak,a8,bD,a9,a'⟩;have cI:Hid (N=0->aw=0):=ak.ok;replace a:=(a.xI ak a8 a').up (g':=True) (λ_ v=>Nat.lt_of_le_of_lt a.le (ak.go trivial v));clear ak a8 a';clear n o p q b c e f i j k l;obtain⟨n,o,p,q⟩:=a.at 0 Q;obtain⟨b,c,e,f⟩:=a.at 2 Q;obtain⟨i,j,k,l⟩:=a.at 3 Q;have bE:Hid (N=0->∀S∈x.map az,cx S):=a9;clear a9;rcases Nat.eq_zero_or_pos (O x) with aA|aA
       ·obtain rfl:x=[]:=List.eq_nil_of_length_eq_zero aA;replace a:Mz 1 w V W X t s 0 True (16*((s:Int) - (G:Int))+(-63)) bC af N ag [(sz Y,ae 4 (t.pos y) 0 0 F nl),(D,ac),((sz w)+1,aB),(sz w,ae 3 pos 1 H K (J (some ⟨D,0,I⟩) (O m) ab))] ([]++([]++(m++[]))) (J a6 0 a7) []:=a.less (by first|(simp only[List.length_nil];omega)|simp|omega);go_wp2_with fail;go_loopg [7,40] 0 (λg _ aC wr=>g=0/\aC=.int .i64 0/\Mz 1 w V W X t s 0 True (16*((s:Int) - (G:Int))+(-63)) wr af N ag [(sz Y,ae 4 (t.pos y) 0 0 F nl),(D,ac),((sz w)+1,aB),(sz w,ae 3 pos 1 H K (J (some ⟨D,0,I⟩) (O m) ab))] ([]++([]++(m++[]))) (J a6 0 a7) [])
        case atStart=>exact⟨Q,Q,a⟩
        case round=>
         clear n o p q b c e f i j k l a;obtain⟨_,rfl,a⟩:=hrel;obtain⟨n,o,p,q⟩:=a.at 0 Q;obtain⟨b,c,e,f⟩:=a.at 2 Q;obtain⟨i,j,k,l⟩:=a.at 3 Q;go_wp2_with fail;go_meet;exact⟨nl,[],af,N,ag,⟨sQ,λ_ u B=>by cases B⟩,((a.wT).less oM)⟩
       ·obtain⟨bF,rfl⟩:=a.kD aA;obtain⟨bG,bH,ad⟩:=a.sN;clear a;have a:=ad;clear ad;clear n o p q b c e f i j k l;obtain⟨n,o,p,q⟩:=a.at 1 Q;obtain⟨b,c,e,f⟩:=a.at 3 Q;obtain⟨i,j,k,l⟩:=a.at 4 Q;go_wp2_with fail;go_loopg [7,40] (O x) (λg _ aC wr=>∃(idx:Nat) (aD:Value) (z:List (List Value)),g=O x - idx/\aC=.int .i64 idx/\idx<=O x/\O z=idx/\(N=0->∀S∈z.map az,S=5)/\Mz 1 w V W X t s 0 True (16*((s:Int) - (G:Int))+(-(O x:Int))+(idx:Int)+(-63)) wr af N ag [(bF,bG),(sz Y,ae 4 (t.pos y) 0 0 F aD),(D,ac),((sz w)+1,aB),(sz w,ae 3 pos 1 H K (J (some ⟨D,0,I⟩) (O m) ab))] ([]++(x++(x.drop idx++([]++(m++[]))))) aD z)
        case atStart=>exact⟨0,nl,[],Q,Q,zL _,Q,(λ_ S bI=>by cases bI),a.less oM⟩
        case round=>
         clear n o p q b c e f i j k l a;obtain⟨idx,aD,z,aa,rfl,cJ,ba,bb,a⟩:=hrel;have bJ:Hid (_=O x - idx):=aa;clear aa;have bc:Hid (N=0->∀S∈z.map az,S=5):=bb;clear bb;have cK:O x<=6002:=bD;have bd:O z<=6002:=oM;have bL:Hid (O z=idx):=ba;clear ba;obtain⟨bM,bO,rfl⟩:=a.shape;obtain⟨n,o,p,q⟩:=a.at 1 Q;obtain⟨b,c,e,f⟩:=a.at 3 Q;obtain⟨i,j,k,l⟩:=a.at 4 Q;by_cases bf:idx<O x
         ·obtain⟨bP,aE,bQ,bR,bS,bT,bU,bV,bg,bW,A⟩:=a.cV.nth bH 0 Q (λu B=>by simp[B]) bf;have bh:(idx:Int)<(O x:Int):=oM;have bi:=A 0 dC;have bX:=A 1 dC;have bY:=A 2 dC;have bZ:=A 3 dC;have b0:=A 4 dC;have b1:=A 5 dC;have b2:=A 6 dC;have b3:=A 7 dC;have b4:=A 8 dC;have b5:=A 9 dC;have b6:=A 10 dC;clear A;simp only[Nat.add_zero] at bi;go_wp2_with (at_builtin;refine(((a.xj (us:=x) (idx:=idx) (T:=([]++(m++[]))) bg).ne' (sz wr) (ae bP aE bQ bR bS (J bT bU bV))).l1 ((sz wr)+1) 5 aE 0 0 ⟨#[]⟩ bW dC (λv=>Gr.nL ⟨_,Q,bE.out v _ (List.mem_map.2 ⟨_,mG bg,Q⟩)⟩)).ap ((sz wr)+2) (lT bd dC) ?_;clear a n o p q b c e f i j k l bi bX bY bZ b0 b1 b2 b3 b4 b5 b6;intro cM bj bk a;obtain⟨cN,cO,cP,cQ⟩:=a.at 0 rfl;obtain⟨n,o,p,q⟩:=a.at 2 rfl;obtain⟨b,c,e,f⟩:=a.at 4 rfl;obtain⟨i,j,k,l⟩:=a.at 5 rfl;obtain⟨cR,cS⟩:=a.ne 0 2 Q Q dC;obtain⟨cT,cU⟩:=a.ne 0 4 Q Q dC;obtain⟨cV,cW⟩:=a.ne 0 5 Q Q dC)
          go_wp2_with fail;go_roundg (O x - (idx+1))
          case measure=>rw[bJ.out];omega
          case rel=>exact⟨idx+1,(J bj (O z+1) bk),(z++[(nk 5 aE (sl ((sz wr)+1) 1)).toList]),Q,by go_num,bf,by simp[bL.out],(λv=>by rw[List.map_append];exact aO (C:=λS=>S=5) (bc.out v) (cY dC)),(a.rI (J bj (O z+1) bk)).pop.less oM⟩
         ·have bh:¬(idx:Int)<(O x:Int):=oM;have cZ:decide ((idx:Int)<(O x:Int))=false:=sU bh;go_wp2_with fail;go_meet;exact⟨(J bM (O z) bO),z,af,N,ag,⟨bd,bc.out⟩,(((a.pop).forget (us:=x) (idx:=idx) (T:=([]++(m++[])))).less oM)⟩
     ·go_wp2_with fail;go_meet;exact⟨nl,[],bt,bu,bv,⟨sQ,λ_ u B=>by cases B⟩,(a.less oM)⟩
    case rest=>
     clear n o p q b c e f i j k l a;obtain⟨au,R,aj,Z,av,aG,a⟩:=hcut;obtain⟨b7,ay⟩:∃u,u=wc:=⟨_,Q⟩;subst ay;obtain⟨n,o,p,q⟩:=a.at 0 Q;obtain⟨b,c,e,f⟩:=a.at 2 Q;obtain⟨i,j,k,l⟩:=a.at 3 Q;have b8:Hid (Z=0->∀u∈R.map az,u=5):=aG.2;have b9:=aG.1;clear aG;obtain⟨aH,aJ,rfl⟩:=a.shape;clear n o p q b c e f i j k l;obtain⟨n,o,p,q⟩:=a.at 0 Q;obtain⟨b,c,e,f⟩:=a.at 2 Q;obtain⟨i,j,k,l⟩:=a.at 3 Q;replace a:=Mz.l8 br ((a.fo 4 (t.pos y) 0 0 F (lT b9 dC) bs (lT bw dC) (λv=>Gr.kO (b8.out v))).pK.sub (T':=m++[(ae 4 (t.pos y) 0 0 F (J aH (O R) aJ)).toList]) (λu B=>by simp only[List.mem_append,List.mem_cons,List.not_mem_nil,or_false,List.nil_append,List.append_nil] at B⊢;exact B.symm) (λal c0=>by simp only[bK,cL,cX];omega));have r:=a.f3;clear n o p q b c e f i j k l;go_wp2_with (at_builtin;refine a.ap (sz b7) (lT bq dC) ?_;clear a r;intro c1 aK aL a;have r:=a.f3)
     go_wp2_with fail;refine(a.rI (J aK (O m+1) aL)).lf (aX · 0 dC _) ?_;clear a r;intro c2 a;have r:=a.f3;go_wp2_with fail
     ·go_wp2_with fail;refine a.wn (aI · _) ?_;clear a r;intro c3 bl bm b' c4 a;have r:=a.f3;go_wp2_with fail;replace a:=a.pop;go_roundg (ml t bl bm)
      case measure=>rw[aZ.out];exact bN ah a.le (a.go trivial)
      case rel=>exact⟨(J aK (O m+1) aL),(m++[(ae 4 (t.pos y) 0 0 F (J aH (O R) aJ)).toList]),bl,bm,b',Q,dQ.snoc (t:=t) hF Q ah h.ar (a.go trivial),⟨sQ,λv=>by obtain⟨L,aM,aN⟩:=ai.out.2;refine⟨L++[4],?_,aO (C:=λal=>al=4) aN Q⟩;rw[List.map_append,aM];show _++[fJ 4 0 _]=_;rw[cY dC];rfl⟩,a.aE (s':= -31) (g':=True) M.out.1 (λ_=>M.out.2.1) (λ_ _=>M.out.2.2) oM⟩
     ·go_wp2_with fail;replace a:=a.pop;go_roundg (ml t aj Z)
      case measure=>rw[aZ.out];exact bN ah a.le (a.go trivial)
      case rel=>exact⟨(J aK (O m+1) aL),(m++[(ae 4 (t.pos y) 0 0 F (J aH (O R) aJ)).toList]),aj,Z,av,Q,dQ.snoc (t:=t) hF Q ah h.ar (a.go trivial),⟨sQ,λv=>by obtain⟨L,aM,aN⟩:=ai.out.2;refine⟨L++[4],?_,aO (C:=λal=>al=4) aN Q⟩;rw[List.map_append,aM];show _++[fJ 4 0 _]=_;rw[cY dC];rfl⟩,a.aE (s':= -31) (g':=True) M.out.1 (λ_=>M.out.2.1) (λ_ _=>M.out.2.2) oM⟩
   ·go_wp2_with fail;go_light;exact Mz.cq (C:=λu=>u=3) (d:=8) Tryz.results61 Q Q ((a.fo 3 pos 1 H K (lT hF.2 dC) aQ (lT aR dC) (λv=>Gr.pW ai.out.2)).aE (s':= -30) (g':=True) M.out.1 (λ_=>M.out.2.1) (λ_ _=>M.out.2.2) oM) 0 Q (λ_=>cY dC) oM Q
end Go.Proofs.YtdghkacbpebcoaaGreat
