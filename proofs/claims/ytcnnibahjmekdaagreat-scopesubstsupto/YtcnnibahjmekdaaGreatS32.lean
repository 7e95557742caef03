import Derived.Test.YtcnnibahjmekdaaGreatS27
namespace Go.Proofs.YtcnnibahjmekdaaGreat
open Go.RowKit
open Value renaming slice→J
open List renaming length→O
open Option renaming none→I
open World renaming heap→U
open _root_.Array renaming size→E
open Obj renaming cells→Ob
set_option linter.all false
set_option maxRecDepth 100000
set_option maxHeartbeats 0
theorem tY {h:Nat} (aj:bZ h) {w:World} {d:Nat} {K:CK} {M:MK} {T:Nat} {t:Nat->Prop} {R L B0:Nat} {how next one fk fa:Int} (j:Cx w d K M T t R L) (N:bP w d K how next one fk fa) (aK:B0<=d) {pos r m:Int} {name:ByteArray} {g:Nat} {kc nl:Nat} {ks:VV} (u:GN h B0 w (aS g) kc ks nl) {kind n:Int} (ak:(kind=4->0<=n/\n<(O M.ds:Int))/\kind≠5/\kind≠6/\kind≠7) (e:Nat) (ao:Int) (hl:e<=6100) (bl:¬nl<O ks) (bm:e<=O ks) (bn:((O ks:Int) - (nl:Int) !=ao)=false) (bo:((nl:Int) !=0)=true) (bp:((nl:Int)==0)=false) (bq:((nl:Int) !=(e:Int))=false):
 Calls Tryz.prog 90 #[.pointer (some ⟨d,0,I⟩),.agg (ae 18 pos r m name (J (some ⟨g,0,I⟩) (O ks) kc)),.agg (ai kind n (J I 0 0) (J I 0 0)),.int .i64 e,.int .i64 ao] w (bS w d K how one t (O M.ds) ((1+(ks.map (aG h w)).sum)*L)):=by
 have aL:Hid (bZ h):=@aj;clear aj;have br:=u.km;have bs:=u.uF;have bt:=u.tK;have aM:=j.z1;have aN:=N.lt;have S:Hid (Cx w d K M T (λc=>t c/\c<E (U w)) R L):=j.low;have ap:Hid (bP w d K how next one fk fa):=N;have s:Hid (GN h B0 w (aS g) kc ks nl):=u;obtain⟨V,aq,ar,au⟩:=np w (Ob (ae 18 pos r m name (J (aS g) (O ks) kc)) 46) (Ob (ai kind n (J I 0 0) (J I 0 0)) 39) (Ob dF 39);have av:GM w d K how one (ae 18 pos r m name (J (aS g) (O ks) kc)) kind n (((w.alloc (Ob (ae 18 pos r m name (J (aS g) (O ks) kc)) 46)).alloc (Ob (ai kind n (J I 0 0) (J I 0 0)) 39)).alloc (Ob dF 39)) I 0 [] next fk fa:=⟨Kp.aq V,N.below V,aN,aq,ar,au,World.ownsRow_nil _ _ _ _⟩;clear V aq ar au j N u;have aO:Hid ((kind=4->0<=n/\n<(O M.ds:Int))/\kind≠5/\kind≠6/\kind≠7):=ak;clear ak;go_enter Tryz.func90,Tryz.ntmps90
 go_wp2_with fail;go_loopg [11] (O ks) (λW X wr=>∃f:Nat,W=O ks - f/\X=vN f/\f<=nl/\GM w d K how one (ae 18 pos r m name (J (aS g) (O ks) kc)) kind n wr I 0 [] next fk fa)
 case atStart=>exact⟨0,Q,Q,zL _,av⟩
 case round=>
  clear av;obtain⟨f,aw,rfl,aP,a⟩:=hrel;have aR:Hid (gk=O ks - f):=aw;clear aw;have x:=λo=>cell_of_row wr _ o _ 46 (0,0) a.nb;have y:E (U w)<E (U wr):=(gE a.nb).1;have z:=a.tb.cell;have A:=a.tb.fz;have B:=a.tb.lt;have C:=a.zb.cell;have D:=a.zb.fz;have F:=a.zb.lt;by_cases Y:f<nl
  ·obtain⟨bu,bv,bw,bx,bz,bA,bB,bC,aT,-,aU,bD,ax,aV,-⟩:=s.out.eH f oM;obtain rfl:g=aT:=sU aU;obtain rfl:=aV Y;have G:(f:Int)<(O ks:Int):=oM;have bE:wr.cell? ⟨g,f*11,I⟩=some (vN 19):=(a.k.cell (p:=⟨g,f*11,I⟩) (by show g<_;omega) (by show g≠d;omega)).trans (ax 0 dC);have bF:g<E (U wr):=oM;clear ax;go_wp2_with fail;go_roundg (O ks - (f+1))
   case measure=>rw[aR.out];omega
   case rel=>exact⟨f+1,Q,by go_num,Y,a⟩
  ·obtain rfl:nl=f:=oM;clear Y aP;have G:¬(nl:Int)<(O ks:Int):=oM;have aW:decide ((nl:Int)<(O ks:Int))=false:=sU G;go_wp2_with fail;go_loopg [12] e (λW X wr=>∃(b:Nat) (Z:OA) (aa:Nat) (k:List Int) (next fk fa:Int),W=e - b/\X=vN b/\b<=e/\O k=b/\GM w d K how one (ae 18 pos r m name (J (aS g) (O ks) kc)) kind n wr Z aa k next fk fa)
   case atStart=>exact⟨0,I,0,[],next,fk,fa,Q,Q,zL _,Q,a⟩
   case round=>
    clear a x y z A B C D F;obtain⟨b,Z,aa,k,next,fk,fa,ay,rfl,bG,az,a⟩:=hrel;have aX:Hid (gk=e - b):=ay;have aB:Hid (O k=b):=az;have aY:O k<=30000:=oM;clear ay az;have x:=λo=>cell_of_row wr _ o _ 46 (0,0) a.nb;have y:E (U w)<E (U wr):=(gE a.nb).1;have z:=a.tb.cell;have A:=a.tb.fz;have B:=a.tb.lt;have C:=a.zb.cell;have D:=a.zb.fz;have F:=a.zb.lt;by_cases aZ:b<e
    ·have G:(b:Int)<(e:Int):=oM;obtain⟨bH,a0,bI,bJ,a1,bK,bL,bM,a2,-,aC,bN,ab,-,-⟩:=s.out.eH b oM;obtain rfl:g=a2:=sU aC;have bO:wr.cell? ⟨g,b*11+1,I⟩=some (vN a0):=(a.k.cell (p:=⟨g,b*11+1,I⟩) (by show g<_;omega) (by show g≠d;omega)).trans (ab 1 dC);have bQ:wr.cell? ⟨g,b*11+4,I⟩=some (.string a1):=(a.k.cell (p:=⟨g,b*11+4,I⟩) (by show g<_;omega) (by show g≠d;omega)).trans (ab 4 dC);have bR:g<E (U wr):=oM;have bT:(b:Int)<(O ks:Int):=oM;clear ab aC;go_wp2_with fail;go_region_law (first|(refine bf 22 (v:=J Z (O k) aa) (xv:=J (aS (E (U ac))) 1 1) rQ rQ rQ rQ (i.run aD aY _ Q) ?_;rintro bU bV ⟨a3,a4,rfl,ad,a5⟩;have bW:=ad.cell;have bX:=ad.fz;have bY:=ad.lt)|(go_simp;refine(fG a.drew.c ((S.out.step ap.out a.k).step a.c (Kp.refl _ _ _).drew).lv S.out.lf _ _).mono ?_;rintro a6 ac ⟨aD,a7,a8,a9,rfl,a',ba,-⟩;have i:=a.drew.step ba a';have x:=λo=>cell_of_row ac _ o _ 46 (0,0) i.nb;have y:E (U w)<E (U ac):=(gE i.nb).1;have z:=i.tb.cell;have A:=i.tb.fz;have B:=i.tb.lt;have C:=i.zb.cell;have D:=i.zb.fz;have F:=i.zb.lt))
     all_goals
      go_wp2_with fail;go_roundg (e - (b+1))
      case measure=>rw[aX.out];omega
      case rel=>exact⟨b+1,a3,a4,k++[aD],a7,a8,a9,Q,by go_num,aZ,by simp[aB.out],sU a5⟩
    ·have G:¬(b:Int)<(e:Int):=oM;have aW:decide ((b:Int)<(e:Int))=false:=sU G;have b0:(nl:Int)<=(O ks:Int):=oM;have b1:(O ks:Int)<=(kc:Int):=oM;have bb:O k<=6100:=oH aB.out;have P:al (λc=>c<B0) w wr:=λc H hl=>a.k.block c hl oM;have bc:Hid (∀af ag,O ks - nl=0->cZ B0 wr (J af (O ks - nl) ag) (ks.drop nl)):=λaf ag bd=>(s.out.u6 af ag bd).frame P oM;have bg:Hid (∀q∈ks.drop nl,isNode (λc=>c<B0) True h wr q/\cH (aA q)):=λq j=>⟨isNode.frame P _ _ (s.out.node q (List.mem_of_mem_drop j)),s.out.ty q j⟩;have bh:Hid (((ks.drop nl).map (aG h wr)).sum=((ks.drop nl).map (aG h w)).sum):=congrArg List.sum (List.map_congr_left (λq j=>aQ P _ _ (s.out.node q (List.mem_of_mem_drop j)) h));have aE:Hid (Cx wr d K M T (λc=>t c/\c<E (U w)) R L):=S.out.step ap.out a.k;clear P;go_wp2_with fail
     all_goals
      refine(fJ @aL.out aE.out a.c aK (bc.out _ _ oM) bg.out).mono ?_;rintro a6 aF ⟨b2,b3,bi,b4,b5,b6,rfl,aH,aI,aJ,ah⟩;rw[bh.out] at ah;have l:=a.step aJ aI;have bj:O bi<=20000:=by rw[aH];simp;omega
      have bk:=ah.mono (S1:=λc=>t c/\c<E (U w)) (λc H=>H.1) (λc H=>⟨aE.out.s0 c H,oI H.2 a.k.size⟩);clear x y z A B C D F ah aH;have x:=λo=>cell_of_row aF _ o _ 46 (0,0) l.nb;have y:E (U w)<E (U aF):=(gE l.nb).1;have z:=l.tb.cell;have A:=l.tb.fz;have B:=l.tb.lt;have C:=l.zb.cell;have D:=l.zb.fz;have F:=l.zb.lt;go_wp2_with fail;go_light;exact iE aO.out aM a bb aI aJ bj bk _ Q Q
end Go.Proofs.YtcnnibahjmekdaaGreat
