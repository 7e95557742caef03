import Derived.Test.YtcnnibahjmekdaaGreatS22
namespace Go.Proofs.YtcnnibahjmekdaaGreat
open Go.RowKit
open Value renaming slice→J
open List renaming length→O
open Option renaming none→I
open World renaming heap→U
open _root_.Array renaming size→E
open Obj renaming cells→Ob
set_option linter.all false
set_option maxRecDepth 100000
set_option maxHeartbeats 0
theorem yu {w:World} {rb W X i:Nat} {t:Tk} {k a:Int} (h:Rd w rb W X t i k a):Calls Tryz.prog 65 #[.pointer (some ⟨rb,0,I⟩)] w (aY 1 w rb W X t i k True 8 (λc=>c=7)):=by
 have bQ:=h.l;have aD:(0:Int)<=(t.pos i:Int)/\(t.pos i:Int)<=7000:=oH (h.ar.aO i);go_enter Tryz.func65,Tryz.ntmps65
 have b:=Mz.start (wt:=1) h;go_wp2_with fail;refine(b.ne' (sz w) (aB)).lf (aE · 7) ?_;clear b;intro ag b;have e:=b.f1;go_wp2_with fail;refine(b.ne' (sz ag) (nk 7 (t.pos i) nl)).wn (aH · _) ?_;clear b e;intro bR bS bT bU bV b;have e:=b.f2;go_wp2_with fail;refine b.nn (qn · true) ?_;clear b e;intro ah L bW bX bY ba bZ b;have e:=b.f2;go_wp2_with fail;refine(b.ne' (sz ah) L.a).nm (jy · 2 dC dC) ?_;clear b e;intro b0 p b1 b2 b3 aF bb bc b;have e:=b.f3;go_wp2_with fail;refine(b.pX p).wn (aH · _) ?_;clear b e;intro b4 b5 b6 b7 aG b;have e:=b.f3;go_upto_region 6 with fail
 go_cut [] (λak=>∃(al:Value) (f:List (List Value)) (aI:Nat) (ai aJ:Int),(O f=2/\(ai=0->cD 2 p/\∃c,f.map aA=[9,c]/\cH c))/\Mz 1 w rb W X t i k True (-55) ak aI ai aJ [(sz ah,L.a),(sz ag,ae 7 (t.pos i) 0 0 p al),(sz w,aB)] [] al f)
 case first=>
  go_wp2_with fail;go_region_law (go_simp;refine b.drew.nd (fW _ · (fN _ _ _ 3)) ?_;clear b e;intro ao bd bf bg bh bi aK b;have e:=b.f3)
  all_goals
   go_wp2_with fail;go_meet;exact⟨(sl (sz ao) 2),[L.t,bd.t],bf,bg,bh,⟨Q,λj=>⟨bb (aG.out (aK.out j)),_,by show [aA L.t,_]=_;rw[ba (bc.out (aG.out (aK.out j)))],bi j⟩⟩,((((b.swap).iW (sl (sz ao) 2)).m2 (sz ao)).less oM)⟩
 case rest=>
  clear e b;obtain⟨al,f,aI,ai,aJ,ap,b⟩:=hcut;obtain⟨b8,aq⟩:∃c,c=wc:=⟨_,Q⟩;subst aq;have e:=b.f3;have bj:Hid (ai=0->cD 2 p/\∃c,f.map aA=[9,c]/\cH c):=ap.2;have b9:=ap.1;clear ap;obtain⟨bk,bl,rfl⟩:=b.shape;replace e:=b.f3;go_wp2_with fail;refine b.wn (aH · _) ?_;clear b e;intro b' aL aN bm bn b;have e:=b.f3;go_wp2_with fail;go_loopg [5] (ml t aL aN) (λg _ wr=>∃(ar:Value) (f:List (List Value)) (m:Nat) (G aO:Int),g=ml t m G/\ez 4 f m G/\(1<=O f/\(G=0->cD 2 p/\∃c H,f.map aA=9::c::H/\cH c/\∀K∈H,K=108))/\Mz 1 w rb W X t i k True (-71) wr m G aO [(sz ah,L.a),(sz ag,ae 7 (t.pos i) 0 0 p ar),(sz w,aB)] [] ar f)
  case atStart=>exact⟨(J bk (O f) bl),f,aL,aN,bm,Q,⟨λ_=>by omega,oM⟩,⟨oM,λj=>by obtain⟨M,c,Y,Z⟩:=bj.out (bn.out j);exact⟨M,c,[],Y,Z,λK bo=>by cases bo⟩⟩,(b.less oM)⟩
  case round=>
   clear e b;obtain⟨ar,f,m,G,aO,aP,hF,au,b⟩:=hrel;have aQ:=b.st.rd.lt;have ca:(0:Int)<=(t.pos m:Int)/\(t.pos m:Int)<=7000:=oH (h.ar.aO m);have bp:Hid (gk=ml t m G):=aP;clear aP;obtain⟨cb,bq,rfl⟩:=b.shape;have e:=b.f3
   cases aS:(G==0)
   ·go_wp2_with fail;refine b.lf aV ?_;clear b e;intro cc b;have e:=b.f3;go_wp2_with fail;go_light;exact Mz.cC (C:=λc=>c=7) (d:=8) Tryz.results65 Q Q (b.fo 7 (t.pos i) 0 0 p (lT hF.2 dC) aD aF (λj=>absurd j (sU aS))) 2 Q (λ_=>dw dC) oM Q
   ·obtain rfl:G=0:=sU aS;have N:Hid (i<=m/\k=0/\i<m):=⟨b.le,b.ok Q,b.go trivial Q⟩;have av:Hid (1<=O f/\cD 2 p/\∃c H,f.map aA=9::c::H/\cH c/\∀K∈H,K=108):=⟨au.1,au.2 Q⟩;clear au;have br:O f<=6005:=oI (hF.1 Q) h.ar.bB;replace b:=b.bU;go_wp2_with fail;refine b.lf aV ?_;clear b e;intro cd b;have e:=b.f3;go_wp2_with fail;refine b.et (aR · _) ?_;clear b e;intro ce cf cg ch b;have e:=b.f3;go_wp2_with fail
    ·obtain⟨aT,rfl⟩:=b.kE av.out.1;clear e;have e:=b.f3;obtain⟨bs,bt,aU⟩:=b.sX;clear b;have b:=aU;clear aU;go_wp2_with fail;refine(tX b.st.rd).mono ?_;rintro j aW ⟨aa,n,ab,bu,bv,ac,ci,bw,cj,rfl,aw,aX,aZ,bx,bz,a0,a1⟩;have bA:Hid (bw=0->∃l c,ac.map aA=9::(l++[c])/\(O l:Int)=n/\(∀ad∈l,ad=12)/\cH c):=a0;clear a0;replace b:=(b.list aw aX a1).up (g':=True) (λ_ j=>Nat.lt_of_le_of_lt b.le (aw.go trivial j));clear aw aX a1;clear e;obtain⟨q,r,s,u⟩:=b.at 1 Q;obtain⟨v,x,y,z⟩:=b.at 2 Q;obtain⟨A,B,D,F⟩:=b.at 3 Q;go_upto_region 10 with fail
     go_cut [] (λak=>∃(ax:Value) (o:List (List Value)) (aj:Nat) (P ay:Int),(O o<=6011/\(P=0->(∃l c af,o.map aA=9::(l++c::af)/\(O l:Int)=n/\(∀ad∈l,ad=12)/\cH c/\O af<=1)/\(O o:Int)=n+3))/\Mz 1 w rb W X t m 0 True (16*((m:Int) - (i:Int))+(-95)) ak aj P ay [(sz aW,ae 8 aa n 0 ab ax),(aT,bs),(sz ah,L.a),(sz ag,ae 7 (t.pos i) 0 0 p (J (some ⟨aT,0,I⟩) (O f) bq)),(sz w,aB)] ([]++(f++[])) ax o)
     case first=>
      go_wp2_with fail;go_region_law (first|(refine b.as (sz bB) (lT aZ dC) ?_;clear b R S T V q r s u v x y z A B D F;intro ck a2 a3 b;obtain⟨R,S,T,V⟩:=b.at 0 rfl;obtain⟨q,r,s,u⟩:=b.at 2 rfl;obtain⟨v,x,y,z⟩:=b.at 3 rfl;obtain⟨A,B,D,F⟩:=b.at 4 Q)|(go_simp;refine(b.ne' (sz aW) (ae 8 aa n 0 ab (J bu (O ac) bv))).drew.nd yH ?_;clear b q r s u v x y z A B D F;intro bB a4 bC bD bE cl bF b;obtain⟨R,S,T,V⟩:=b.at 0 rfl;obtain⟨q,r,s,u⟩:=b.at 2 rfl;obtain⟨v,x,y,z⟩:=b.at 3 rfl;obtain⟨A,B,D,F⟩:=b.at 4 rfl;obtain⟨bG,bH⟩:=b.ne 0 2 Q Q dC;obtain⟨bI,bJ⟩:=b.ne 0 3 Q Q dC;obtain⟨bK,bM⟩:=b.ne 0 4 Q Q dC))
      all_goals
       go_wp2_with fail;go_meet;exact⟨(J a2 (O ac+1) a3),(ac++[a4.t]),bC,bD,bE,⟨by have:=aZ;simp;omega,λj=>by obtain⟨l,c,M,Y,Z,az⟩:=bA.out (bF.out j);exact⟨⟨l,c,[aA a4.t],by rw[List.map_append,M];simp,Y,Z,az,sQ⟩,by have:=congrArg List.length M;simp at this⊢;omega⟩⟩,((b.ek (J a2 (O ac+1) a3)).less oM)⟩
     case rest=>
      clear q r s u v x y z A B D F b;obtain⟨ax,o,aj,P,ay,aC,b⟩:=hcut;obtain⟨bN,aq⟩:∃c,c=wc:=⟨_,Q⟩;subst aq;obtain⟨R,S,T,V⟩:=b.at 0 Q;obtain⟨q,r,s,u⟩:=b.at 2 Q;obtain⟨v,x,y,z⟩:=b.at 3 Q;obtain⟨A,B,D,F⟩:=b.at 4 Q;obtain⟨bG,bH⟩:=b.ne 0 2 Q Q dC;obtain⟨bI,bJ⟩:=b.ne 0 3 Q Q dC;obtain⟨bK,bM⟩:=b.ne 0 4 Q Q dC;have a5:Hid (P=0->(∃l c af,o.map aA=9::(l++c::af)/\(O l:Int)=n/\(∀ad∈l,ad=12)/\cH c/\O af<=1)/\(O o:Int)=n+3):=aC.2;have bP:=aC.1;clear aC;obtain⟨a6,a7,rfl⟩:=b.shape;clear R S T V q r s u v x y z A B D F;obtain⟨R,S,T,V⟩:=b.at 0 Q;obtain⟨q,r,s,u⟩:=b.at 2 Q;obtain⟨v,x,y,z⟩:=b.at 3 Q;obtain⟨A,B,D,F⟩:=b.at 4 Q;replace b:=Mz.l' bt ((b.fo 8 aa n 0 ab (lT bP dC) bz bx (λj=>Gr.tE (a5.out j).1)).pR.sub (T':=f++[(ae 8 aa n 0 ab (J a6 (O o) a7)).toList]) (λc a8=>by simp only[List.mem_append,List.mem_cons,List.not_mem_nil,or_false,List.nil_append,List.append_nil] at a8⊢;exact a8.symm) (λK cm=>by simp only[bL,cU,du];omega));have e:=b.f4;clear R S T V q r s u v x y z A B D F;go_wp2_with (at_builtin;refine b.ap (sz bN) (lT br dC) ?_;clear b e;intro cn a9 a' b;have e:=b.f4)
      go_wp2_with fail;replace b:=(b.rU (J a9 (O f+1) a')).pop;go_roundg (ml t aj P)
      case measure=>rw[bp.out];exact bO aQ b.le (b.go trivial)
      case rel=>exact⟨(J a9 (O f+1) a'),(f++[(ae 8 aa n 0 ab (J a6 (O o) a7)).toList]),aj,P,ay,Q,ez.snoc (t:=t) hF Q aQ h.ar (b.go trivial),⟨sQ,λj=>by obtain⟨M,c,H,Y,Z,az⟩:=av.out.2;refine⟨M,c,H++[108],?_,Z,aM (C:=λK=>K=108) az Q⟩;rw[List.map_append,Y];show _++[fL 8 n (O o)]=_;rw[show fL 8 n (O o)=108 by unfold fL;rw[if_pos ⟨Q,(a5.out j).2⟩]];rfl⟩,b.aD (s':= -71) (g':=True) N.out.1 (λ_=>N.out.2.1) (λ_ _=>N.out.2.2) oM⟩
    ·go_wp2_with fail;go_light;exact Mz.cC (C:=λc=>c=7) (d:=8) Tryz.results65 Q Q ((b.fo 7 (t.pos i) 0 0 p (lT hF.2 dC) aD aF (λj=>Gr.vi av.out.2)).aD (s':= -70) (g':=True) N.out.1 (λ_=>N.out.2.1) (λ_ _=>N.out.2.2) oM) 2 Q (λ_=>dw dC) oM Q
theorem uT {w:World} {rb Z aa i:Nat} {t:Tk} {k a:Int} (h:Rd w rb Z aa t i k a) (pos M:Int) (ao:0<=pos/\pos<=7000):Calls Tryz.prog 66 #[.pointer (some ⟨rb,0,I⟩),.agg (ae 3 pos 0 M ⟨#[]⟩ nl)] w (aY 1 w rb Z aa t i k True 8 (λe=>e=3)):=by
 have a6:=h.l;go_enter Tryz.func66,Tryz.ntmps66
 have b:=Mz.start (wt:=1) h;go_wp2_with fail;refine((b.ne' (sz w) (ae 3 pos 0 M ⟨#[]⟩ nl)).ne' ((sz w)+1) (aB)).nm cJ ?_;clear b;intro a7 W a8 a9 a' ap ba bb b;have c:=b.f2;go_wp2_with fail;refine(b.pX W).nn (qn · false) ?_;clear b c;intro af T R aq bc aQ bd b;have c:=b.f2;go_wp2_with fail;refine(b.ne' (sz af) T.a).lf (aE · 4) ?_;clear b c;intro ag b;have c:=b.f3;have ar:(0:Int)<=((t.pos R):Int)/\((t.pos R):Int)<=7000:=oH (h.ar.aO R);go_wp2_with fail;refine(b.ne' (sz ag) (nk 4 (t.pos R) nl)).wn (aH · _) ?_;clear b c;intro bf au av aS aT b;have c:=b.f4;go_wp2_with fail;go_loopg [7] (ml t au av) (λg _ wr=>∃(ah:Value) (f:List (List Value)) (K:Nat) (L ab:Int),g=ml t K L/\ez 4 f K L/\((L=0->aq=0)/\(L=0->∀e∈f.map aA,e=5))/\Mz 1 w rb Z aa t i k True (-31) wr K L ab [(sz ag,nk 4 (t.pos R) ah),(sz af,T.a),((sz w)+1,aB),(sz w,ae 3 pos 0 M W nl)] [T.t] ah f)
 case atStart=>exact⟨nl,[],au,av,aS,Q,⟨λ_=>by simp,sQ⟩,⟨λN=>aT.out N,λ_ e aU=>by cases aU⟩,(b.less oM)⟩
 case round=>
  clear c b;obtain⟨ah,f,K,L,ab,aw,hF,ai,b⟩:=hrel;have ac:=b.st.rd.lt;have bg:(0:Int)<=(t.pos K:Int)/\(t.pos K:Int)<=7000:=oH (h.ar.aO K);have ax:Hid (gk=ml t K L):=aw;clear aw;obtain⟨ay,az,rfl⟩:=b.shape;have c:=b.f4
  cases aj:(L==0)
  ·go_wp2_with fail;refine b.lf aV ?_;clear b c;intro aC b;have c:=b.f4;go_wp2_with fail;go_light;refine Mz.cC (C:=λe=>e=3) (d:=8) Tryz.results66 Q Q ((((b.fk 4 (t.pos R) (lT hF.2 dC) ar (λN=>absurd N (sU aj))).swap).zG (sl (sz aC) 2)).l2 (sz aC) 3 pos 0 M W ao (lT ap dC) (λN=>absurd N (sU aj))) 2 Q (λ_=>dw dC) oM ?_;simp[bA,World.setCell_alloc_past,c,sL]
  ·obtain rfl:L=0:=sU aj;have P:Hid (i<=K/\k=0/\i<K):=⟨b.le,b.ok Q,b.go trivial Q⟩;have V:Hid (aq=0/\∀e∈f.map aA,e=5):=⟨ai.1 Q,ai.2 Q⟩;clear ai;have aX:O f<=6005:=oI (hF.1 Q) h.ar.bB;replace b:=b.bU;go_wp2_with fail;refine b.lf aV ?_;clear b c;intro bh b;have c:=b.f4;go_wp2_with fail;refine b.et (aR · _) ?_;clear b c;intro aD bi S bj b;have c:=b.f4;go_wp2_with fail
   ·go_wp2_with fail;refine b.lf (aE · 5) ?_;clear b c;intro aF b;have c:=b.f4;have aZ:(0:Int)<=((t.pos S):Int)/\((t.pos S):Int)<=7000:=oH (h.ar.aO S);go_wp2_with fail;refine(b.ne' (sz aF) (nk 5 (t.pos S) nl)).et (aR · _) ?_;clear b c;intro bk bl aG bm b;obtain⟨j,l,m,n⟩:=b.at 0 Q;obtain⟨o,p,q,r⟩:=b.at 1 Q;obtain⟨s,u,v,x⟩:=b.at 2 Q;obtain⟨y,z,A,B⟩:=b.at 3 Q;obtain⟨D,F,G,H⟩:=b.at 4 Q;obtain⟨bn,bo⟩:=b.ne 0 1 Q Q dC;obtain⟨bp,bq⟩:=b.ne 0 2 Q Q dC;obtain⟨br,bs⟩:=b.ne 0 3 Q Q dC;obtain⟨bt,bu⟩:=b.ne 0 4 Q Q dC;go_upto_if 27 with fail
    go_cut [] (λa0=>∃(X:Int) (aI:Nat) (aJ aK:Int),Mz 1 w rb Z aa t K 0 False (16*((K:Int) - (i:Int))+(-31)) a0 aI aJ aK [(sz aF,ae 5 (t.pos S) 0 X ⟨#[]⟩ nl),(sz ag,nk 4 (t.pos R) (J ay (O f) az)),(sz af,T.a),((sz w)+1,aB),(sz w,ae 3 pos 0 M W nl)] [T.t] (J ay (O f) az) f)
    case first=>
     go_wp2_with fail
     ·go_wp2_with fail;go_meet;exact⟨1,aG,0,ab,((b.vh 1).less oM)⟩
     ·go_wp2_with fail;go_meet;exact⟨0,aG,0,ab,(b.less oM)⟩
    case rest=>
     clear j l m n o p q r s u v x y z A B D F G H b;obtain⟨X,aI,aJ,aK,b⟩:=hcut;obtain⟨bv,a1⟩:∃e,e=wc:=⟨_,Q⟩;subst a1;obtain⟨j,l,m,n⟩:=b.at 0 Q;obtain⟨o,p,q,r⟩:=b.at 1 Q;obtain⟨s,u,v,x⟩:=b.at 2 Q;obtain⟨y,z,A,B⟩:=b.at 3 Q;obtain⟨D,F,G,H⟩:=b.at 4 Q;go_wp2_with fail;refine b.nm cJ ?_;clear b j l m n o p q r s u v x y z A B D F G H;intro bw ad bx bz bB a2 bC bD b;obtain⟨j,l,m,n⟩:=b.at 0 Q;obtain⟨o,p,q,r⟩:=b.at 1 Q;obtain⟨s,u,v,x⟩:=b.at 2 Q;obtain⟨y,z,A,B⟩:=b.at 3 Q;obtain⟨D,F,G,H⟩:=b.at 4 Q;go_wp2_with fail;refine(b.gI ad).wn (aH · _) ?_;clear b j l m n o p q r s u v x y z A B D F G H;intro bE bF bG bH bI b;obtain⟨j,l,m,n⟩:=b.at 0 Q;obtain⟨o,p,q,r⟩:=b.at 1 Q;obtain⟨s,u,v,x⟩:=b.at 2 Q;obtain⟨y,z,A,B⟩:=b.at 3 Q;obtain⟨D,F,G,H⟩:=b.at 4 Q;go_wp2_with fail;refine b.nd (fW _ · (fN _ _ _ 3)) ?_;clear b j l m n o p q r s u v x y z A B D F G H;intro Y bJ aL aN a3 a4 bK b;obtain⟨j,l,m,n⟩:=b.at 0 Q;obtain⟨o,p,q,r⟩:=b.at 1 Q;obtain⟨s,u,v,x⟩:=b.at 2 Q;obtain⟨y,z,A,B⟩:=b.at 3 Q;obtain⟨D,F,G,H⟩:=b.at 4 Q;go_wp2_with (at_builtin;refine((b.ek (sl (sz Y) 1)).l1 (sz Y) 5 (t.pos S) 0 X ad aZ (lT a2 dC) (λN=>Gr.nW ⟨_,Q,a4 N⟩)).ap ((sz Y)+1) (lT aX dC) ?_;clear b j l m n o p q r s u v x y z A B D F G H;intro bL ak al b;obtain⟨j,l,m,n⟩:=b.at 0 rfl;obtain⟨o,p,q,r⟩:=b.at 1 rfl;obtain⟨s,u,v,x⟩:=b.at 2 rfl;obtain⟨y,z,A,B⟩:=b.at 3 rfl;obtain⟨D,F,G,H⟩:=b.at 4 Q)
     go_wp2_with fail;refine(b.iW (J ak (O f+1) al)).lf (aW · 0 dC _) ?_;clear b j l m n o p q r s u v x y z A B D F G H;intro bM b;obtain⟨j,l,m,n⟩:=b.at 0 Q;obtain⟨o,p,q,r⟩:=b.at 1 Q;obtain⟨s,u,v,x⟩:=b.at 2 Q;obtain⟨y,z,A,B⟩:=b.at 3 Q;obtain⟨D,F,G,H⟩:=b.at 4 Q;go_wp2_with fail
     ·go_wp2_with fail;refine b.wn (aH · _) ?_;clear b j l m n o p q r s u v x y z A B D F G H;intro bN aO aP a5 bP b;obtain⟨j,l,m,n⟩:=b.at 0 Q;obtain⟨o,p,q,r⟩:=b.at 1 Q;obtain⟨s,u,v,x⟩:=b.at 2 Q;obtain⟨y,z,A,B⟩:=b.at 3 Q;obtain⟨D,F,G,H⟩:=b.at 4 Q;go_wp2_with fail;replace b:=b.pop;go_roundg (ml t aO aP)
      case measure=>rw[ax.out];exact bO ac b.le (b.go trivial)
      case rel=>exact⟨(J ak (O f+1) al),(f++[(ae 5 (t.pos S) 0 X ad (sl (sz Y) 1)).toList]),aO,aP,a5,Q,ez.snoc (t:=t) hF Q ac h.ar (b.go trivial),⟨λ_=>V.out.1,λ_=>by rw[List.map_append];exact aM (C:=λe=>e=5) V.out.2 (dw dC)⟩,b.aD (s':= -31) (g':=True) P.out.1 (λ_=>P.out.2.1) (λ_ _=>P.out.2.2) oM⟩
     ·go_wp2_with fail;replace b:=b.pop;go_roundg (ml t aL aN)
      case measure=>rw[ax.out];exact bO ac b.le (b.go trivial)
      case rel=>exact⟨(J ak (O f+1) al),(f++[(ae 5 (t.pos S) 0 X ad (sl (sz Y) 1)).toList]),aL,aN,a3,Q,ez.snoc (t:=t) hF Q ac h.ar (b.go trivial),⟨λ_=>V.out.1,λ_=>by rw[List.map_append];exact aM (C:=λe=>e=5) V.out.2 (dw dC)⟩,b.aD (s':= -31) (g':=True) P.out.1 (λ_=>P.out.2.1) (λ_ _=>P.out.2.2) oM⟩
   ·go_wp2_with fail;go_light;refine Mz.cC (C:=λe=>e=3) (d:=8) Tryz.results66 Q Q (((((b.fk 4 (t.pos R) (lT hF.2 dC) ar (λN=>Gr.kO V.out.2)).swap).zG (sl (sz aD) 2)).l2 (sz aD) 3 pos 0 M W ao (lT ap dC) (λN=>Gr.qh ⟨[4],by show [aA T.t,fL 4 0 _]=[9,4];rw[aQ V.out.1,dw dC],sQ⟩)).aD (s':= -29) (g':=True) P.out.1 (λ_=>P.out.2.1) (λ_ _=>P.out.2.2) oM) 2 Q (λ_=>dw dC) oM ?_;simp[bA,World.setCell_alloc_past,c,sL]
def uf:Prop:=∀{w:World} {rb tb cap i:Nat} {t:Tk} {k a:Int},Rd w rb tb cap t i k a->∀pos M:Int,(0<=pos/\pos<=7000)->Calls Tryz.prog 67 #[.pointer (some ⟨rb,0,I⟩),.agg (ae 3 pos 1 M ⟨#[]⟩ nl)] w (aY 1 w rb tb cap t i k True 8 (λx=>x=3))
theorem vL (aw:uf) {w:World} {rb p q i:Nat} {t:Tk} {k a:Int} (h:Rd w rb p q t i k a):Calls Tryz.prog 43 #[.pointer (some ⟨rb,0,I⟩)] w (aY 1 w rb p q t i k True 8 (λe=>e=3\/e=6\/e=7\/e=108)):=by
 have a8:=h.l;have v:(0:Int)<=(t.pos i:Int)/\(t.pos i:Int)<=7000:=oH (h.ar.aO i);go_enter Tryz.func43,Tryz.ntmps43
 have b:=Mz.start (wt:=1) h;go_wp2_with fail;refine(b.ne' (sz w) (aB)).lf (aE · 0) ?_;clear b;intro x b;have c:=b.f1;go_wp2_with fail;refine(b.ne' (sz x) (nk 0 (t.pos i) nl)).lf (aW · 0 dC _) ?_;clear b c;intro a9 b;have c:=b.f2;go_wp2_with fail
 ·go_wp2_with fail;refine b.nd yu ?_;clear b c;intro a' ba bb bc bd ax bf b;have c:=b.f2;go_wp2_with fail;go_light;exact Mz.cC (C:=λe=>e=3\/e=6\/e=7\/e=108) (d:=8) Tryz.results43 Q Q b 1 Q (λf=>.inr (.inr (.inl (ax f)))) oM Q
 ·go_wp2_with fail;refine b.et (aR · _) ?_;clear b c;intro bg bh L bi b;have c:=b.f2;go_upto_if 13 with fail
  go_cut [] (λy=>∃(r:Int) (j:Nat),Mz 1 w rb p q t i k False (0) y j k a [(sz x,ae 0 (t.pos i) 0 r ⟨#[]⟩ nl),(sz w,aB)] [] nl [])
  case first=>
   go_wp2_with fail
   ·go_wp2_with fail;go_meet;exact⟨1,L,((b.vh 1).less oM)⟩
   ·go_wp2_with fail;go_meet;exact⟨0,L,(b.less oM)⟩
  case rest=>
   clear c b;obtain⟨r,j,b⟩:=hcut;obtain⟨bj,z⟩:∃e,e=wc:=⟨_,Q⟩;subst z;have c:=b.f2;go_upto_region 6 with fail
   go_cut [24] (λay y=>∃(A:Bool),(ay=.bool A/\(A=true->bW t j k 0 ⟨#[99,111,112,121]⟩=true))/\Mz 1 w rb p q t i k False (0) y j k a [(sz x,ae 0 (t.pos i) 0 r ⟨#[]⟩ nl),(sz w,aB)] [] nl [])
   case first=>
    cases M:bW t j k 0 ⟨#[99,111,112,121]⟩
    ·go_wp2_with fail;refine b.lf (aW · 0 dC _) ?_;clear b c;intro bk b;have c:=b.f2;go_wp2_with fail;go_meet;exact⟨false,⟨Q,λf=>by cases f⟩,(b.less oM)⟩
    ·cases bl:bW t j k 1 ⟨#[115,116,114,117,99,116]⟩
     ·cases bm:bW t j k 1 ⟨#[101,110,117,109]⟩
      ·go_wp2_with fail;refine b.lf (aW · 0 dC _) ?_;clear b c;intro bn b;have c:=b.f2;go_wp2_with fail;refine b.lf (aW · 1 dC _) ?_;clear b c;intro bo b;have c:=b.f2;go_wp2_with fail;refine b.lf (aW · 1 dC _) ?_;clear b c;intro bp b;have c:=b.f2;go_wp2_with fail;go_meet;exact⟨false,⟨Q,λf=>by cases f⟩,(b.less oM)⟩
      ·go_wp2_with fail;refine b.lf (aW · 0 dC _) ?_;clear b c;intro bq b;have c:=b.f2;go_wp2_with fail;refine b.lf (aW · 1 dC _) ?_;clear b c;intro br b;have c:=b.f2;go_wp2_with fail;refine b.lf (aW · 1 dC _) ?_;clear b c;intro bs b;have c:=b.f2;go_wp2_with fail;go_meet;exact⟨true,⟨Q,λ_=>M⟩,(b.less oM)⟩
     ·go_wp2_with fail;refine b.lf (aW · 0 dC _) ?_;clear b c;intro bt b;have c:=b.f2;go_wp2_with fail;refine b.lf (aW · 1 dC _) ?_;clear b c;intro bu b;have c:=b.f2;go_wp2_with fail;go_meet;exact⟨true,⟨Q,λ_=>M⟩,(b.less oM)⟩
   case rest=>
    clear c b;obtain⟨A,⟨rfl,N⟩,b⟩:=hcut;obtain⟨bv,z⟩:∃e,e=wc:=⟨_,Q⟩;subst z;have c:=b.f2;have az:Hid (A=true->bW t j k 0 ⟨#[99,111,112,121]⟩=true):=N;clear N;have bw:(j:Int)<(t.len:Int):=oH b.st.rd.lt;have bx:(t.len:Int)<=6001:=oH h.ar.bB;have aC:=b.st.rd.r1;have aD:=b.st.rd.fz 1;have aF:=b.st.rd.l;go_upto_if 24 with fail
    go_cut [] (λy=>∃(o:Int) (P:Nat),Mz 1 w rb p q t i k False (0) y P k a [(sz x,ae 0 (t.pos i) 0 o ⟨#[]⟩ nl),(sz w,aB)] [] nl [])
    case first=>
     go_wp2_with fail
     ·have aG:j+1<t.len:=(dI h.ar b.st.rd.lt (az.out ‹_›)).2;go_wp2_with fail;go_meet;exact⟨(wrap64 (r+2)),(j+1),((((b.jE (j':=j+1) aG (Nat.lt_succ_self _)).vh (wrap64 (r+2))).up (g':=False) (λf=>absurd f (λe=>e))).less oM)⟩
     ·go_wp2_with fail;go_meet;exact⟨r,j,(b.less oM)⟩
    case rest=>
     clear c aC aD aF b;obtain⟨o,P,b⟩:=hcut;obtain⟨bz,z⟩:∃e,e=wc:=⟨_,Q⟩;subst z;have c:=b.f2;go_wp2_with fail;refine b.et (aR · _) ?_;clear b c;intro bA bB bC bD b;have c:=b.f2;go_wp2_with fail
     ·go_wp2_with fail;refine(b.fE 3).nd (uT · _ _ v) ?_;clear b c;intro bE bF bG bH bI aI jA b;have c:=b.f2;go_wp2_with fail;go_light;exact Mz.cC (C:=λe=>e=3\/e=6\/e=7\/e=108) (d:=8) Tryz.results43 Q Q b 1 Q (λf=>.inl (aI f)) oM Q
     ·go_wp2_with fail;refine b.et (aR · _) ?_;clear b c;intro bJ bK bL bM b;have c:=b.f2;go_wp2_with fail
      ·go_wp2_with fail;refine((b.fE 3).jW 1).nd (aw · _ _ v) ?_;clear b c;intro bN bP bQ bR bS aJ bT b;have c:=b.f2;go_wp2_with fail;go_light;exact Mz.cC (C:=λe=>e=3\/e=6\/e=7\/e=108) (d:=8) Tryz.results43 Q Q b 1 Q (λf=>.inl (aJ f)) oM Q
      ·go_wp2_with fail;refine b.et (aR · _) ?_;clear b c;intro bU bV bX bY b;have c:=b.f2;go_wp2_with fail
       ·go_wp2_with fail;refine(b.fE 6).nm cJ ?_;clear b c;intro bZ B b0 b1 b2 R b3 b4 b;have c:=b.f2;go_wp2_with fail;refine(b.gI B).wn (aH · _) ?_;clear b c;intro b5 S T aK b6 b;have c:=b.f2;go_wp2_with fail;go_loopg [4] (ml t S T) (λg _ wr=>∃(H:Value) (m:List (List Value)) (l:Nat) (n V:Int),g=ml t l n/\ez 4 m l n/\(n=0->∀e∈m.map aA,e=8)/\Mz 1 w rb p q t i k True (-32) wr l n V [(sz x,ae 6 (t.pos i) 0 o B H),(sz w,aB)] [] H m)
        case atStart=>exact⟨nl,[],S,T,aK,Q,⟨λ_=>by simp,sQ⟩,(λ_ e aL=>by cases aL),(b.less oM)⟩
        case round=>
         clear c b;obtain⟨H,m,l,n,V,W,hF,X,b⟩:=hrel;have Y:=b.st.rd.lt;have b7:(0:Int)<=(t.pos l:Int)/\(t.pos l:Int)<=7000:=oH (h.ar.aO l);have aN:Hid (gk=ml t l n):=W;clear W;obtain⟨b8,b9,rfl⟩:=b.shape;have c:=b.f2
         cases Z:(n==0)
         ·go_wp2_with fail;refine b.lf aV ?_;clear b c;intro b' b;have c:=b.f2;go_wp2_with fail;go_light;exact Mz.cC (C:=λe=>e=3\/e=6\/e=7\/e=108) (d:=8) Tryz.results43 Q Q (b.fo 6 (t.pos i) 0 o B (lT hF.2 dC) v (lT R dC) (λf=>absurd f (sU Z))) 1 Q (λ_=>.inr (.inl (dw dC))) oM Q
         ·obtain rfl:n=0:=sU Z;have s:Hid (i<=l/\k=0/\i<l):=⟨b.le,b.ok Q,b.go trivial Q⟩;have aa:Hid (∀e∈m.map aA,e=8):=X Q;clear X;have aO:O m<=6005:=oI (hF.1 Q) h.ar.bB;replace b:=b.bU;go_wp2_with fail;refine b.lf aV ?_;clear b c;intro ca b;have c:=b.f2;go_wp2_with fail;refine b.et (aR · _) ?_;clear b c;intro cb cc cd ce b;have c:=b.f2;go_wp2_with fail
          ·go_wp2_with fail;refine b.nd (λe=>(tX e).mono (λ_ _ h=>h.node)) ?_;clear b c;intro aP ab cf cg ch aQ _ b;have c:=b.f2;go_wp2_with fail;refine(b.ne' (sz aP) ab.a).wn (aH · _) ?_;clear b c;intro aS ac ad aT aU b;have c:=b.f3;go_wp2_with (at_builtin;refine b.ap (sz aS) (lT aO dC) ?_;clear b c;intro ci af ag b;have c:=b.f3)
           go_wp2_with fail;replace b:=(b.iW (J af (O m+1) ag)).pop;go_roundg (ml t ac ad)
           case measure=>rw[aN.out];exact bO Y b.le (b.go trivial)
           case rel=>exact⟨(J af (O m+1) ag),(m++[ab.t]),ac,ad,aT,Q,ez.snoc (t:=t) hF Q Y h.ar (b.go trivial),(λf=>by rw[List.map_append];exact aM (C:=λe=>e=8) aa.out (aQ (aU.out f))),b.aD (s':= -32) (g':=True) s.out.1 (λ_=>s.out.2.1) (λ_ _=>s.out.2.2) oM⟩
          ·go_wp2_with fail;go_light;exact Mz.cC (C:=λe=>e=3\/e=6\/e=7\/e=108) (d:=8) Tryz.results43 Q Q ((b.fo 6 (t.pos i) 0 o B (lT hF.2 dC) v (lT R dC) (λf=>Gr.tu aa.out)).aD (s':= -31) (g':=True) s.out.1 (λ_=>s.out.2.1) (λ_ _=>s.out.2.2) oM) 1 Q (λ_=>.inr (.inl (dw dC))) oM Q
       ·go_wp2_with fail;refine(wY b.st.rd).mono ?_;rintro f aX ⟨cj,D,ah,aZ,a0,F,ck,ai,cl,rfl,G,aj,ak,a1,cm,al,ao⟩;have ap:Hid (ai=0->∃u e,F.map aA=9::(u++[e])/\(O u:Int)=D/\(∀a2∈u,a2=12)/\cH e):=al;clear al;have cn:Hid (ai=0->k=0):=G.ok;replace b:=(b.list G aj ao).up (g':=True) (λ_ f=>Nat.lt_of_le_of_lt b.le (G.go trivial f));clear G aj ao;replace c:=b.f2;go_wp2_with fail;go_region_law (first|(refine b.as (sz a3) (lT ak dC) ?_;clear b c;intro co a4 a5 b;have c:=b.f3)|(go_simp;refine(b.ne' (sz aX) (ae 8 (t.pos i) D o ah (J aZ (O F) a0))).drew.nd yH ?_;clear b c;intro a3 a6 cp cq cr cs aq b;have c:=b.f3))
        all_goals
         go_wp2_with fail;go_light;exact Mz.cC (C:=λe=>e=3\/e=6\/e=7\/e=108) (d:=8) Tryz.results43 Q Q ((b.ek (J a4 (O F+1) a5)).fo 8 (t.pos i) D o ah (by have:=ak;simp;omega) v a1 (λf=>by obtain⟨u,e,K,ar,au,av⟩:=ap.out (aq.out f);exact Gr.tE ⟨u,e,[aA a6.t],by rw[List.map_append,K];simp,ar,au,av,sQ⟩)) 2 Q (λf=>.inr (.inr (.inr (by obtain⟨u,e,K,ar,au,av⟩:=ap.out (aq.out f);have a7:=congrArg List.length K;simp at a7;show fL 8 D (O F+1)=108;unfold fL;rw[if_pos ⟨Q,oM⟩])))) oM Q
end Go.Proofs.YtcnnibahjmekdaaGreat
