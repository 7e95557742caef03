import Derived.Test.YtdghkacbpebcoaaGreatS28
namespace Go.Proofs.YtdghkacbpebcoaaGreat
open Go.RowKit
open Value renaming slice→J
open List renaming length→O
open Option renaming none→I
open World renaming heap→U
open _root_.Array renaming size→E
open Obj renaming cells→Ob
set_option linter.all false
set_option maxRecDepth 100000
set_option maxHeartbeats 0
theorem tR {h:Nat} (au:bV h) {w:World} {d:Nat} {K:CK} {M:MK} {T:Nat} {u:Nat->Prop} {W P B0:Nat} {how next one fk fa:Int} (j:Cx w d K M T u W P) (R:bJ w d K how next one fk fa) (av:B0<=d) {pos t m:Int} {name:ByteArray} {g:Nat} {kc nl:Nat} {ks:VV} (x:GN h B0 w (aS g) kc ks nl) {kind n:Int} (aw:(kind=4->0<=n/\n<(O M.ds:Int))/\kind≠5/\kind≠6/\kind≠7) (e:Nat) (ax:Int) (hl:e<=6100) (aR:nl<O ks) (bx:e<=O ks) (bz:((O ks:Int) - (nl:Int) !=ax)=false) (bA:((nl:Int) !=0)=true) (bB:((nl:Int)==0)=false) (bC:((nl:Int) !=(e:Int))=false):
 Calls Tryz.prog 84 #[.pointer (some ⟨d,0,I⟩),.agg (ae 18 pos t m name (J (some ⟨g,0,I⟩) (O ks) kc)),.agg (ak kind n (J I 0 0) (J I 0 0)),.int .i64 e,.int .i64 ax] w (bE w d K how one u (O M.ds) ((1+(ks.map (aG h w)).sum)*P)):=by
 have ay:Hid (bV h):=@au;clear au;have bD:=x.km;have bF:=x.uu;have bG:=x.tC;have aU:=j.z1;have aV:=R.lt;have X:Hid (Cx w d K M T (λc=>u c/\c<E (U w)) W P):=j.low;have aA:Hid (bJ w d K how next one fk fa):=R;have k:Hid (GN h B0 w (aS g) kc ks nl):=x;obtain⟨Y,aB,aC,aD⟩:=mZ w (Ob (ae 18 pos t m name (J (aS g) (O ks) kc)) 48) (Ob (ak kind n (J I 0 0) (J I 0 0)) 41) (Ob eJ 41);have aE:GM w d K how one (ae 18 pos t m name (J (aS g) (O ks) kc)) kind n (((w.alloc (Ob (ae 18 pos t m name (J (aS g) (O ks) kc)) 48)).alloc (Ob (ak kind n (J I 0 0) (J I 0 0)) 41)).alloc (Ob eJ 41)) I 0 [] next fk fa:=⟨Kp.al Y,R.below Y,aV,aB,aC,aD,World.ownsRow_nil _ _ _ _⟩;clear Y aB aC aD j R x;have aW:Hid ((kind=4->0<=n/\n<(O M.ds:Int))/\kind≠5/\kind≠6/\kind≠7):=aw;clear aw;go_enter Tryz.func84,Tryz.ntmps84
 go_wp2_with fail;go_loopg [11] (O ks) (λZ aa wr=>∃f:Nat,Z=O ks - f/\aa=vN f/\f<=nl/\GM w d K how one (ae 18 pos t m name (J (aS g) (O ks) kc)) kind n wr I 0 [] next fk fa)
 case atStart=>exact⟨0,Q,Q,zL _,aE⟩
 case round=>
  clear aE;obtain⟨f,aF,rfl,aX,a⟩:=hrel;have aY:Hid (gk=O ks - f):=aF;clear aF;have y:=λq=>cell_of_row wr _ q _ 48 (0,0) a.nb;have z:E (U w)<E (U wr):=(gE a.nb).1;have A:=a.tb.cell;have B:=a.tb.fz;have C:=a.tb.lt;have D:=a.zb.cell;have F:=a.zb.fz;have G:=a.zb.lt;by_cases ab:f<nl
  ·obtain⟨ac,aZ,a0,a1,a2,a3,a4,a5,ad,-,af,a6,H,S,-⟩:=k.out.er f oM;obtain rfl:g=ad:=sU af;obtain rfl:=S ab;have V:(f:Int)<(O ks:Int):=oM;have a7:wr.cell? ⟨g,f*11,I⟩=some (vN 19):=(a.k.cell (p:=⟨g,f*11,I⟩) (by show g<_;omega) (by show g≠d;omega)).trans (H 0 dC);have a8:g<E (U wr):=oM;clear H;go_wp2_with fail;go_roundg (O ks - (f+1))
   case measure=>rw[aY.out];omega
   case rel=>exact⟨f+1,Q,by go_num,ab,a⟩
  ·obtain rfl:nl=f:=oM;clear ab aX;obtain⟨ac,aZ,a0,a1,a2,a3,a4,a5,ad,-,af,a6,H,-,S⟩:=k.out.er nl aR;obtain rfl:g=ad:=sU af
   have bH:(ac==19)=false:=by
    have:=S (lR _);have bI:=this.1;have bK:=this.2;exact eF oM
   have V:(nl:Int)<(O ks:Int):=oM;have a7:wr.cell? ⟨g,nl*11,I⟩=some (vN ac):=(a.k.cell (p:=⟨g,nl*11,I⟩) (by show g<_;omega) (by show g≠d;omega)).trans (H 0 dC);have a8:g<E (U wr):=oM;clear H S;go_wp2_with fail;go_loopg [12] e (λZ aa wr=>∃(b:Nat) (ag:OA) (ah:Nat) (l:List Int) (next fk fa:Int),Z=e - b/\aa=vN b/\b<=e/\O l=b/\GM w d K how one (ae 18 pos t m name (J (aS g) (O ks) kc)) kind n wr ag ah l next fk fa)
   case atStart=>exact⟨0,I,0,[],next,fk,fa,Q,Q,zL _,Q,a⟩
   case round=>
    clear a y z A B C D F G;obtain⟨b,ag,ah,l,next,fk,fa,aH,rfl,bL,aI,a⟩:=hrel;have a9:Hid (gk=e - b):=aH;have aJ:Hid (O l=b):=aI;have a':O l<=30000:=oM;clear aH aI;have y:=λq=>cell_of_row wr _ q _ 48 (0,0) a.nb;have z:E (U w)<E (U wr):=(gE a.nb).1;have A:=a.tb.cell;have B:=a.tb.fz;have C:=a.tb.lt;have D:=a.zb.cell;have F:=a.zb.fz;have G:=a.zb.lt;by_cases ba:b<e
    ·have V:(b:Int)<(e:Int):=oM;obtain⟨bM,bb,bN,bO,bc,bP,bQ,bR,bd,-,aK,bS,ai,-,-⟩:=k.out.er b oM;obtain rfl:g=bd:=sU aK;have bT:wr.cell? ⟨g,b*11+1,I⟩=some (vN bb):=(a.k.cell (p:=⟨g,b*11+1,I⟩) (by show g<_;omega) (by show g≠d;omega)).trans (ai 1 dC);have bU:wr.cell? ⟨g,b*11+4,I⟩=some (.string bc):=(a.k.cell (p:=⟨g,b*11+4,I⟩) (by show g<_;omega) (by show g≠d;omega)).trans (ai 4 dC);have bW:g<E (U wr):=oM;have bX:(b:Int)<(O ks:Int):=oM;clear ai aK;go_wp2_with fail;go_region_law (first|(refine bg 38 (v:=J ag (O l) ah) (xv:=J (aS (E (U aj))) 1 1) rQ rQ rQ rQ (i.run aL a' _ Q) ?_;rintro bY bZ ⟨bf,bh,rfl,al,bi⟩;have b0:=al.cell;have b1:=al.fz;have b2:=al.lt)|(go_simp;refine(fE a.drew.c ((X.out.step aA.out a.k).step a.c (Kp.refl _ _ _).drew).lv X.out.lf _ _).mono ?_;rintro bj aj ⟨aL,bk,bl,bm,rfl,bn,bo,-⟩;have i:=a.drew.step bo bn;have y:=λq=>cell_of_row aj _ q _ 48 (0,0) i.nb;have z:E (U w)<E (U aj):=(gE i.nb).1;have A:=i.tb.cell;have B:=i.tb.fz;have C:=i.tb.lt;have D:=i.zb.cell;have F:=i.zb.fz;have G:=i.zb.lt))
     all_goals
      go_wp2_with fail;go_roundg (e - (b+1))
      case measure=>rw[a9.out];omega
      case rel=>exact⟨b+1,bf,bh,l++[aL],bk,bl,bm,Q,by go_num,ba,by simp[aJ.out],sU bi⟩
    ·have V:¬(b:Int)<(e:Int):=oM;have b3:decide ((b:Int)<(e:Int))=false:=sU V;have b4:(nl:Int)<=(O ks:Int):=oM;have b5:(O ks:Int)<=(kc:Int):=oM;have bp:O l<=6100:=oH aJ.out;have L:aq (λc=>c<B0) w wr:=λc N hl=>a.k.block c hl oM;have bq:Hid (∀ao r,O ks - nl=0->cU B0 wr (J ao (O ks - nl) r) (ks.drop nl)):=λao r br=>(k.out.uO ao r br).frame L oM;have bs:Hid (∀r,cU B0 wr (J (some ⟨g,nl*11,I⟩) (O ks - nl) r) (ks.drop nl)):=λr=>(k.out.xz r).frame L oM;have aM:Hid (∀s∈ks.drop nl,isNode (λc=>c<B0) True h wr s/\cx (az s)):=λs j=>⟨isNode.frame L _ _ (k.out.node s (List.mem_of_mem_drop j)),k.out.ty s j⟩;have bt:Hid (((ks.drop nl).map (aG h wr)).sum=((ks.drop nl).map (aG h w)).sum):=congrArg List.sum (List.map_congr_left (λs j=>aT L _ _ (k.out.node s (List.mem_of_mem_drop j)) h));have ap:Hid (Cx wr d K M T (λc=>u c/\c<E (U w)) W P):=X.out.step aA.out a.k;clear L;go_wp2_with fail
     all_goals
      first
       |refine(fK @ay.out ap.out a.c av (bs.out _) aM.out).mono ?_
       |refine(fK @ay.out ap.out a.c av (bq.out _ _ oM) aM.out).mono ?_
      rintro bj aN ⟨b6,b7,bu,b8,b9,b',rfl,aO,aP,aQ,ar⟩;rw[bt.out] at ar;have o:=a.step aQ aP;have bv:O bu<=20000:=by rw[aO];simp;omega
      have bw:=ar.mono (S1:=λc=>u c/\c<E (U w)) (λc N=>N.1) (λc N=>⟨ap.out.s0 c N,oI N.2 a.k.size⟩);clear y z A B C D F G ar aO;have y:=λq=>cell_of_row aN _ q _ 48 (0,0) o.nb;have z:E (U w)<E (U aN):=(gE o.nb).1;have A:=o.tb.cell;have B:=o.tb.fz;have C:=o.tb.lt;have D:=o.zb.cell;have F:=o.zb.fz;have G:=o.zb.lt;go_wp2_with fail;go_light;exact iB aW.out aU a bp aP aQ bv bw _ Q Q
end Go.Proofs.YtdghkacbpebcoaaGreat
