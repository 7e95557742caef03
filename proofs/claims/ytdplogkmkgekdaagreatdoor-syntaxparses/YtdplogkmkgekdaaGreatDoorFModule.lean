/- Modules. -/
import Derived.Test.YtdplogkmkgekdaaGreatDoorFStruct
import Derived.Test.YtdplogkmkgekdaaGreatDoorFHeadB
set_option linter.all false
set_option maxRecDepth 100000
set_option maxHeartbeats 4000000
namespace Go.Proofs.YtdplogkmkgekdaaGreatDoor
open Go.RowKit
def enumF:Prop:=∀{w:World} {rb tb cap i:Nat} {t:Tk} {k a:Int},Rd w rb tb cap t i k a→∀pos M:Int,(0≤pos∧pos≤7000)→(0≤M∧M≤3)→Calls Tryz.prog 102 #[.pointer (some ⟨rb,0,none⟩),.agg (nodeC 3 pos 1 M ⟨#[]⟩ nl)] w (NodeF 1 w rb tb cap t i k a True 8 (fun x=>x=3) (fun n=>gEnum t (gG t n 0) pos M n))
theorem itemF (hEn:enumF) {w:World} {rb tb cap i:Nat} {t:Tk} {k a:Int} (h:Rd w rb tb cap t i k a):Calls Tryz.prog 46 #[.pointer (some ⟨rb,0,none⟩)] w (NodeF 1 w rb tb cap t i k a True 8 (fun x=>x=3∨x=6∨x=7∨x=108∨x=208) (fun n=>gItem t (gG t n 0) (gG t n 3) n)):=by
 have hl:=h.l
 have hposI:(0:Int)≤(t.pos i:Int)∧(t.pos i:Int)≤7000:=by have:=h.good.posb i;omega
 go_enter Tryz.func46,Tryz.ntmps46
 have q:=Mf.start (wt:=1) h
 go_wp2_with fail
 refine(q.ne' (sz w) (zeroC)).lf (node20 · 0) ?_
 clear q
 intro w1 q
 have F:=q.f1
 go_wp2_with fail
 refine(q.ne' (sz w1) (nk 0 (t.pos i) nl)).lf (is41 · 0 (by decide) _) ?_
 clear q F
 intro w2 q
 have F:=q.f2
 go_wp2_with fail
 ·go_wp2_with fail
  refine q.nd implF ?_
  clear q F
  intro w3 x3 i3 k3 a3 y3 hc3 ok3 m3 q
  have F:=q.f2
  go_wp2_with fail
  go_light
  exact Mf.retb (C:=fun x=>x=3∨x=6∨x=7∨x=108∨x=208) (d:=8) Tryz.results46 rfl rfl q 1 rfl (fun e=>.inr (.inr (.inl (hc3 e)))) (by omega) rfl (by unfold gItem;exact evt)
 ·go_wp2_with fail
  refine q.et (eat42 · _) ?_
  clear q F
  intro w4 b4 i4 hE4 m4 q
  have F:=q.f2
  go_upto_if 13 with fail
  go_cut [] (fun wx=>∃(M0:Int) (j5:Nat),Hid (M0=0∨M0=1)∧(Ev (fun _=>bnd (gEat t ⟨#[112,117,98]⟩) (fun b55=>cond (b55) (ret ((1:Int))) (ret ((0:Int))))) ⟨i,k,a⟩ (M0,⟨j5,k,a⟩)∧Mf 1 w rb tb cap t i k False (0) wx j5 k a [(sz w1,nodeC 0 (t.pos i) 0 M0 ⟨#[]⟩ nl),(sz w,zeroC)] [] nl [] [] []))
  case first=>
   go_wp2_with fail
   ·go_wp2_with fail
    go_meet
    exact⟨1,i4,.inr rfl,evt,((q.p03 1).less (by omega))⟩
   ·go_wp2_with fail
    go_meet
    exact⟨0,i4,.inl rfl,evt,(q.less (by omega))⟩
  case rest=>
   clear F q
   obtain⟨M0,j5,HM0,mp,q⟩:=hcut
   obtain⟨w6,hw⟩:∃x,x=wc:=⟨_,rfl⟩
   subst hw
   have F:=q.f2
   go_upto_region 6 with fail
   go_cut [24] (fun s24 wx=>∃(bc:Bool),(s24=.bool bc∧(bc=true→isB t j5 k 0 ⟨#[99,111,112,121]⟩=true∧(isB t j5 k 1 ⟨#[115,116,114,117,99,116]⟩=true∨isB t j5 k 1 ⟨#[101,110,117,109]⟩=true)))∧(Hid ((isB t j5 k 0 ⟨#[99,111,112,121]⟩&&(isB t j5 k 1 ⟨#[115,116,114,117,99,116]⟩||isB t j5 k 1 ⟨#[101,110,117,109]⟩))=bc)∧Mf 1 w rb tb cap t i k False (0) wx j5 k a [(sz w1,nodeC 0 (t.pos i) 0 M0 ⟨#[]⟩ nl),(sz w,zeroC)] [] nl [] [] []))
   case first=>
    cases hc0:isB t j5 k 0 ⟨#[99,111,112,121]⟩
    ·go_wp2_with fail
     refine q.lf (is41 · 0 (by decide) _) ?_
     clear q F
     intro w8 q
     have F:=q.f2
     go_wp2_with fail
     go_meet
     exact⟨false,⟨rfl,fun e=>by cases e⟩,(by show(_&&_)=_;simp[*]),(q.less (by omega))⟩
    ·cases hc1:isB t j5 k 1 ⟨#[115,116,114,117,99,116]⟩
     ·cases hc2:isB t j5 k 1 ⟨#[101,110,117,109]⟩
      ·go_wp2_with fail
       refine q.lf (is41 · 0 (by decide) _) ?_
       clear q F
       intro w9 q
       have F:=q.f2
       go_wp2_with fail
       refine q.lf (is41 · 1 (by decide) _) ?_
       clear q F
       intro w10 q
       have F:=q.f2
       go_wp2_with fail
       refine q.lf (is41 · 1 (by decide) _) ?_
       clear q F
       intro w11 q
       have F:=q.f2
       go_wp2_with fail
       go_meet
       exact⟨false,⟨rfl,fun e=>by cases e⟩,(by show(_&&_)=_;simp[*]),(q.less (by omega))⟩
      ·go_wp2_with fail
       refine q.lf (is41 · 0 (by decide) _) ?_
       clear q F
       intro w12 q
       have F:=q.f2
       go_wp2_with fail
       refine q.lf (is41 · 1 (by decide) _) ?_
       clear q F
       intro w13 q
       have F:=q.f2
       go_wp2_with fail
       refine q.lf (is41 · 1 (by decide) _) ?_
       clear q F
       intro w14 q
       have F:=q.f2
       go_wp2_with fail
       go_meet
       exact⟨true,⟨rfl,fun _=>⟨hc0,.inr hc2⟩⟩,(by show(_&&_)=_;simp[*]),(q.less (by omega))⟩
     ·go_wp2_with fail
      refine q.lf (is41 · 0 (by decide) _) ?_
      clear q F
      intro w15 q
      have F:=q.f2
      go_wp2_with fail
      refine q.lf (is41 · 1 (by decide) _) ?_
      clear q F
      intro w16 q
      have F:=q.f2
      go_wp2_with fail
      go_meet
      exact⟨true,⟨rfl,fun _=>⟨hc0,.inl hc1⟩⟩,(by show(_&&_)=_;simp[*]),(q.less (by omega))⟩
   case rest=>
    clear F q
    obtain⟨bc,⟨rfl,hbc⟩,HOB,q⟩:=hcut
    obtain⟨w17,hw⟩:∃x,x=wc:=⟨_,rfl⟩
    subst hw
    have F:=q.f2
    have HBC:Hid (bc=true→isB t j5 k 0 ⟨#[99,111,112,121]⟩=true∧(isB t j5 k 1 ⟨#[115,116,114,117,99,116]⟩=true∨isB t j5 k 1 ⟨#[101,110,117,109]⟩=true)):=hbc
    clear hbc
    have hi1:(j5:Int)<(t.len:Int):=by have:=q.st.rd.lt;omega
    have hfew:(t.len:Int)≤6001:=by have:=h.good.few;omega
    have r1:=q.st.rd.r1
    have fr1:=q.st.rd.fz 1
    have lr:=q.st.rd.l
    go_upto_if 24 with fail
    go_cut [] (fun wx=>∃(M:Int) (j18:Nat),Hid ((M=0∨M=1)∨((M=2∨M=3)∧(isB t j18 k 0 ⟨#[115,116,114,117,99,116]⟩=true∨isB t j18 k 0 ⟨#[101,110,117,109]⟩=true)))∧(Ev (fun _=>cond (isB t j5 k 0 ⟨#[99,111,112,121]⟩&&(isB t j5 k 1 ⟨#[115,116,114,117,99,116]⟩||isB t j5 k 1 ⟨#[101,110,117,109]⟩)) (seq (gAdd 1) (ret (M0+2))) (ret M0)) ⟨j5,k,a⟩ (M,⟨j18,k,a⟩)∧Mf 1 w rb tb cap t i k False (0) wx j18 k a [(sz w1,nodeC 0 (t.pos i) 0 M ⟨#[]⟩ nl),(sz w,zeroC)] [] nl [] [] []))
    case first=>
     go_wp2_with fail
     ·have hlt:j5+1<t.len:=(isB_lt h.good q.st.rd.lt (HBC.out ‹_›).1).2
      have HS2:Hid (isB t (j5+1) k 0 ⟨#[115,116,114,117,99,116]⟩=true∨isB t (j5+1) k 0 ⟨#[101,110,117,109]⟩=true):=(HBC.out ‹_›).2
      go_wp2_with fail
      go_meet
      exact⟨(wrap64 (M0+2)),(j5+1),(.inr ⟨HM0.out.elim (fun e=>.inl (by rw[e];unfold wrap64;decide)) (fun e=>.inr (by rw[e];unfold wrap64;decide)),HS2.out⟩),(Ev.yes (HOB.out.trans ‹_›) (Ev.seq ev_add (Ev.ret (fun _=>(wrap2 HM0.out).symm)))),((((q.goI (j':=j5+1) hlt (Nat.lt_succ_self _)).p03 (wrap64 (M0+2))).up (g':=False) (fun e=>absurd e (fun x=>x))).less (by omega))⟩
     ·go_wp2_with fail
      go_meet
      exact⟨M0,j5,(.inl HM0.out),(Ev.no (HOB.out.trans ‹_›) Ev.ret'),(q.less (by omega))⟩
    case rest=>
     clear F r1 fr1 lr q
     obtain⟨M,j18,HM,mc,q⟩:=hcut
     have HMR:Hid (0≤M∧M≤3):=by
      show 0≤M∧M≤3
      rcases HM.out with(h9|h9)|⟨h9|h9,-⟩<;>omega
     obtain⟨w19,hw⟩:∃x,x=wc:=⟨_,rfl⟩
     subst hw
     have F:=q.f2
     go_wp2_with fail
     refine q.et (eat42 · _) ?_
     clear q F
     intro w20 b20 i20 hE20 m20 q
     have F:=q.f2
     go_wp2_with fail
     ·go_wp2_with fail
      refine(q.p00 3).nd (structF · _ _ hposI HMR.out) ?_
      clear q F
      intro w21 x21 i21 k21 a21 y21 hc21 ok21 m21 q
      have F:=q.f2
      go_wp2_with fail
      go_light
      exact Mf.retb (C:=fun x=>x=3∨x=6∨x=7∨x=108∨x=208) (d:=8) Tryz.results46 rfl rfl q 1 rfl (fun e=>.inl (hc21 e)) (by omega) rfl (by unfold gItem;exact evt)
     ·go_wp2_with fail
      refine q.et (eat42 · _) ?_
      clear q F
      intro w22 b22 i22 hE22 m22 q
      have F:=q.f2
      go_wp2_with fail
      ·go_wp2_with fail
       refine((q.p00 3).p02 1).nd (hEn · _ _ hposI HMR.out) ?_
       clear q F
       intro w23 x23 i23 k23 a23 y23 hc23 ok23 m23 q
       have F:=q.f2
       go_wp2_with fail
       go_light
       exact Mf.retb (C:=fun x=>x=3∨x=6∨x=7∨x=108∨x=208) (d:=8) Tryz.results46 rfl rfl q 1 rfl (fun e=>.inl (hc23 e)) (by omega) rfl (by unfold gItem;exact evt)
      ·go_wp2_with fail
       refine q.et (eat42 · _) ?_
       clear q F
       intro w24 b24 i24 hE24 m24 q
       have HM01:Hid (M=0∨M=1):=HM.out.elim id (fun h9=>by
        exfalso
        have e20:b20=false:= ‹_›
        have e22:b22=false:= ‹_›
        rcases h9.2 with h9|h9
        ·rw[←hE20.is_,e20] at h9
         cases h9
        ·rw[←hE20.no e20,←hE22.is_,e22] at h9
         cases h9)
       have F:=q.f2
       go_wp2_with fail
       ·go_wp2_with fail
        refine(q.p00 6).nm name40F ?_
        clear q F
        intro w25 s25 i25 k25 a25 hs25 ho25 ok25 m25 q
        have F:=q.f2
        go_wp2_with fail
        refine(q.p04 s25).wn (want39F · _) ?_
        clear q F
        intro w26 i26 k26 a26 ok26 m26 q
        have F:=q.f2
        go_wp2_with fail
        go_loopg [4] (ml t i26 k26) (fun g _ wr=>∃(v:Value) (vs:List (List Value)) (j:Nat) (kj aj:Int),g=ml t j kj∧Few 4 vs j kj∧(kj=0→∀x∈vs.map labOf,x=8)∧∃(V:List (List Nr)),Hid (∀r,EvL (fun n=>gItemB t (gG t n 0) n) V ⟨j,kj,aj⟩ r→Ev (fun n=>gItem t (gG t n 0) (gG t n 3) n) ⟨i,k,a⟩ (nd 6 (t.pos i:Int) 0 M s25 r.1,r.2))∧Mf 1 w rb tb cap t i k True (-32) wr j kj aj [(sz w1,nodeC 6 (t.pos i) 0 M s25 v),(sz w,zeroC)] [] v vs [] V)
        case atStart=>exact⟨nl,[],i26,k26,a26,rfl,⟨fun _=>by simp,by simp⟩,(fun _ x hx=>by cases hx),_,(fun r hr=>(by unfold gItem;exact evt)),(q.less (by omega))⟩
        case round=>
         clear F q
         obtain⟨v,vs,j,kj,aj,hgk,hF,hE,V,HM,q⟩:=hrel
         have hj:=q.st.rd.lt
         have hposJ:(0:Int)≤(t.pos j:Int)∧(t.pos j:Int)≤7000:=by have:=h.good.posb j;omega
         have HG:Hid (gk=ml t j kj):=hgk
         clear hgk
         obtain⟨ao27,cp27,rfl⟩:=q.shape
         have F:=q.f2
         cases hk0:(kj==0)
         ·go_wp2_with fail
          refine q.lf ok21b ?_
          clear q F
          intro w28 q
          have F:=q.f2
          go_wp2_with fail
          go_light
          exact Mf.retb (C:=fun x=>x=3∨x=6∨x=7∨x=108∨x=208) (d:=8) Tryz.results46 rfl rfl (q.fo 6 (t.pos i) 0 M s25 (Nat.le_trans hF.2 (by decide)) hposI (Nat.le_trans hs25 (by decide)) (fun e=>absurd e (by simpa using hk0))) 1 rfl (fun _=>.inr (.inl (lab_ne (by decide)))) (by omega) rfl (HM.out (_,_) (EvL.stop (by unfold gItemB;exact evt)))
         ·obtain rfl:kj=0:=by simpa using hk0
          have hb1:Hid (i≤j∧k=0∧i<j):=⟨q.le,q.ok rfl,q.go trivial rfl⟩
          have HE:Hid (∀x∈vs.map labOf,x=8):=hE rfl
          clear hE
          have hFl:vs.length≤6005:=by have:=hF.1 rfl;have:=h.good.few;omega
          replace q:=q.rebase
          go_wp2_with fail
          refine q.lf ok21b ?_
          clear q F
          intro w29 q
          have F:=q.f2
          go_wp2_with fail
          refine q.et (eat42 · _) ?_
          clear q F
          intro w30 b30 i30 hE30 m30 q
          have F:=q.f2
          go_wp2_with fail
          ·go_wp2_with fail
           refine q.nd (fun x=>(headFp x).mono (fun _ _ h=>HeadF.node (m':=fun n=>bnd (gHead t (gG t n 0) false n) (fun h=>ret (nd 8 h.1 h.2.2.2 0 h.2.1 h.2.2.1))) (fun e=>Ev.bnd e Ev.ret') h)) ?_
           clear q F
           intro w31 x31 i31 k31 a31 y31 hc31 ok31 m31 q
           have F:=q.f2
           go_wp2_with fail
           refine(q.ne' (sz w31) x31.a).wn (want39F · _) ?_
           clear q F
           intro w32 i32 k32 a32 ok32 m32 q
           have F:=q.f3
           go_wp2_with (at_builtin;refine q.ap (sz w32) (Nat.le_trans hFl (by decide)) ?_;clear q F;intro w33 ao33 cp33 q;have F:=q.f3)
           go_wp2_with fail
           replace q:=(q.p15 (.slice ao33 (vs.length+1) cp33)).pop
           go_roundg (ml t i32 k32)
           case measure=>rw[HG.out];exact ml_lt hj q.le (q.go trivial)
           case rel=>exact⟨(.slice ao33 (vs.length+1) cp33),(vs++[x31.t]),i32,k32,a32,rfl,Few.snoc (t:=t) hF rfl hj h.good (q.go trivial),(fun e=>by rw[List.map_append];exact all_snoc (C:=fun x=>x=8) HE.out (hc31 (ok32.out e))),_,(fun r hr=>HM.out r (EvL.on (by unfold gItemB;exact evt) hr)),q.unbase (s':= -32) (g':=True) hb1.out.1 (fun _=>hb1.out.2.1) (fun _ _=>hb1.out.2.2) (by omega)⟩
          ·go_wp2_with fail
           go_light
           exact Mf.retb (C:=fun x=>x=3∨x=6∨x=7∨x=108∨x=208) (d:=8) Tryz.results46 rfl rfl ((q.fo 6 (t.pos i) 0 M s25 (Nat.le_trans hF.2 (by decide)) hposI (Nat.le_trans hs25 (by decide)) (fun e=>Gr.of_trait ⟨HM01.out,HE.out⟩)).unbase (s':= -31) (g':=True) hb1.out.1 (fun _=>hb1.out.2.1) (fun _ _=>hb1.out.2.2) (by omega)) 1 rfl (fun _=>.inr (.inl (lab_ne (by decide)))) (by omega) rfl (HM.out (_,_) (EvL.stop (by unfold gItemB;exact evt)))
       ·go_wp2_with fail
        refine(headFb q.st.rd).mono ?_
        rintro e w34 ⟨p34,n34,s34,ao34,cp34,vs34,i34,k34,a34,rfl,hx34,hK34,hl34,hs34,hp34,hC34,hz34,V34,hF34,m34⟩
        have HC:Hid (k34=0→∃ps x,vs34.map labOf=9::(ps++[x])∧(ps.length:Int)=n34∧(∀p∈ps,p=12)∧tyK x):=hC34
        clear hC34
        have ok34:Hid (k34=0→k=0):=hx34.ok
        replace q:=(q.list hx34 hK34 hz34 hF34).up (g':=True) (fun _ e=>Nat.lt_of_le_of_lt q.le (hx34.go trivial e))
        clear hx34 hK34 hz34
        replace F:=q.f2
        go_wp2_with fail
        go_region_law (first|(refine q.as (sz w35) (Nat.le_trans hl34 (by decide)) ?_;clear q F;intro w36 ao36 cp36 q;have F:=q.f3)|(go_simp;refine(q.ne' (sz w34) (nodeC 8 (t.pos i) n34 M s34 (.slice ao34 vs34.length cp34))).drew.nd blkF ?_;clear q F;intro w35 x35 i35 k35 a35 y35 hc35 ok35 m35 q;have F:=q.f3))
        all_goals
         go_wp2_with fail
         go_light
         exact Mf.retb (C:=fun x=>x=3∨x=6∨x=7∨x=108∨x=208) (d:=8) Tryz.results46 rfl rfl ((q.p05 (.slice ao36 (vs34.length+1) cp36)).fo 8 (t.pos i) n34 M s34 (by have:=hl34;simp;omega) hposI hs34 (fun e=>by obtain⟨ps,x,h1,h2,h3,h4⟩:=HC.out (ok35.out e);exact Gr.of_fn ⟨HM01.out,ps,x,[labOf x35.t],by rw[List.map_append,h1];simp,h2,h3,h4,by simp,fun y hy=>by have h9:=List.mem_singleton.1 hy;rw[h9];exact hc35 e⟩)) 2 rfl (fun e=>.inr (.inr (.inr (by obtain⟨ps,x,h1,h2,h3,h4⟩:=HC.out (ok35.out e);have h5:=congrArg List.length h1;simp at h5;show lab 8 n34 M s34 (vs34.length+1)=108∨lab 8 n34 M s34 (vs34.length+1)=208;unfold lab;rw[if_pos rfl,if_pos (by omega)];by_cases h9:M=0;exact .inr (if_pos h9);exact .inl (if_neg h9))))) (by omega) rfl (by unfold gItem;exact evt)
end Go.Proofs.YtdplogkmkgekdaaGreatDoor
namespace Go.Proofs.YtdplogkmkgekdaaGreatDoor
open Go.RowKit
theorem is_no {w:World} {rb tb cap i:Nat} {t:Tk} {k a:Int} (h:Rd w rb tb cap t i k a) (ahead:Nat) (ha:ahead≤2) (s:ByteArray) (hb:isB t i k ahead s=false):Calls Tryz.prog 44 #[.pointer (some ⟨rb,0,none⟩),.int .i64 ahead,.string s] w fun e w'=>e=.returned (.bool false)∧Below (sz w) w w':=by
 have:=is41 h ahead ha s
 rwa [hb] at this
theorem is_yes {w:World} {rb tb cap i:Nat} {t:Tk} {k a:Int} (h:Rd w rb tb cap t i k a) (ahead:Nat) (ha:ahead≤2) (s:ByteArray) (hb:isB t i k ahead s=true):Calls Tryz.prog 44 #[.pointer (some ⟨rb,0,none⟩),.int .i64 ahead,.string s] w fun e w'=>e=.returned (.bool true)∧Below (sz w) w w':=by
 have:=is41 h ahead ha s
 rwa [hb] at this
theorem two_path {a b:ByteArray} (ha:nameOK a) (hb:nameOK b):pathOK 2 (a++⟨#[58,58]⟩++b)∧¬pathOK 1 (a++⟨#[58,58]⟩++b):=by
 have e:(a++⟨#[58,58]⟩++b).toList=a.toList++58::58::b.toList:=by
  rw[append_list,append_list,show(⟨#[58,58]⟩:ByteArray).toList=[58,58] by rw[Lib.toList_data]]
  simp
 refine⟨⟨[a.toList,b.toList],by simp,by simp,fun n hn=>?_,by rw[e];rfl⟩,?_⟩
 ·simp only[List.mem_cons,List.not_mem_nil,or_false] at hn
  rcases hn with rfl|rfl
  ·exact ha
  ·exact hb
 ·rintro⟨ns,h1,h2,h3,h4⟩
  match ns,h1,h2,h3,h4 with
  |[m],_,_,h3,h4=>
   rw[e] at h4
   have h5:=(h3 m (by simp)).2
   have h6:m=a.toList++58::58::b.toList:=h4.symm
   exact h5 (by rw[h6];simp)
theorem moduleF (hEn:enumF) {w:World} {rb tb cap i:Nat} {t:Tk} {k a:Int} (h:Rd w rb tb cap t i k a):Calls Tryz.prog 20 #[.pointer (some ⟨rb,0,none⟩)] w (NodeF 1 w rb tb cap t i k a True 8 (fun x=>x=1) (fun n=>gModule t (gG t n 0) (gG t n 3) n)):=by
 have hl:=h.l
 have hposI:(0:Int)≤(t.pos i:Int)∧(t.pos i:Int)≤7000:=by have:=h.good.posb i;omega
 go_enter Tryz.func20,Tryz.ntmps20
 have q:=Mf.start (wt:=1) h
 go_wp2_with fail
 refine(q.ne' (sz w) (zeroC)).lf (node20 · 1) ?_
 clear q
 intro w1 q
 have F:=q.f1
 go_wp2_with fail
 refine(q.ne' (sz w1) (nk 1 (t.pos i) nl)).wn (want39F · _) ?_
 clear q F
 intro w2 i2 k2 a2 ok2 m2 q
 have F:=q.f2
 go_wp2_with fail
 refine q.nm name40F ?_
 clear q F
 intro w3 s3 i3 k3 a3 hs3 ho3 ok3 m3 q
 have F:=q.f2
 go_wp2_with fail
 refine(q.p04 s3).wn (want39F · _) ?_
 clear q F
 intro w4 i4 k4 a4 ok4 m4 q
 have F:=q.f2
 go_wp2_with fail
 go_loopg [4] (ml t i4 k4) (fun g _ wr=>∃(v:Value) (vs:List (List Value)) (j:Nat) (kj aj:Int),g=ml t j kj∧Few 4 vs j kj∧(kj=0→∀x∈vs.map labOf,x=2∨x=3∨x=6∨x=7∨x=108∨x=208)∧∃(V:List (List Nr)),Hid (∀r r2,EvL (fun _=>gModuleB t) V ⟨j,kj,aj⟩ r→EvL (fun n=>gModuleB2 t (gG t n 0) (gG t n 3) n) r.1 r.2 r2→Ev (fun n=>gModule t (gG t n 0) (gG t n 3) n) ⟨i,k,a⟩ (nd 1 (t.pos i:Int) 0 0 s3 r2.1,r2.2))∧Mf 1 w rb tb cap t i k True (-48) wr j kj aj [(sz w1,nodeC 1 (t.pos i) 0 0 s3 v),(sz w,zeroC)] [] v vs [] V)
 case atStart=>exact⟨nl,[],i4,k4,a4,rfl,⟨fun _=>by simp,by simp⟩,(fun _ x hx=>by cases hx),_,(fun r r2 hr h2=>by unfold gModule;exact evt),(q.less (by omega))⟩
 case round=>
  clear F q
  obtain⟨v,vs,j,kj,aj,hgk,hF,hE,V,HM,q⟩:=hrel
  have hj:=q.st.rd.lt
  have hposJ:(0:Int)≤(t.pos j:Int)∧(t.pos j:Int)≤7000:=by have:=h.good.posb j;omega
  have HG:Hid (gk=ml t j kj):=hgk
  clear hgk
  obtain⟨ao5,cp5,rfl⟩:=q.shape
  have F:=q.f2
  cases hk0:(kj==0)
  ·go_wp2_with fail
   refine q.lf ok21b ?_
   clear q F
   intro w6 q
   have F:=q.f2
   have hkn:kj≠0:=by simpa using hk0
   go_wp2_with fail
   go_loopg [] (ml t j kj) (fun g wr=>∃(v:Value) (vs:List (List Value)) (j:Nat) (kj aj:Int),g=ml t j kj∧Few 4 vs j kj∧(kj=0→∀x∈vs.map labOf,x=2∨x=3∨x=6∨x=7∨x=108∨x=208)∧∃(V:List (List Nr)),Hid (∀r,EvL (fun n=>gModuleB2 t (gG t n 0) (gG t n 3) n) V ⟨j,kj,aj⟩ r→Ev (fun n=>gModule t (gG t n 0) (gG t n 3) n) ⟨i,k,a⟩ (nd 1 (t.pos i:Int) 0 0 s3 r.1,r.2))∧Mf 1 w rb tb cap t i k True (-48) wr j kj aj [(sz w1,nodeC 1 (t.pos i) 0 0 s3 v),(sz w,zeroC)] [] v vs [] V)
   case atStart=>exact⟨(.slice ao5 vs.length cp5),vs,j,kj,aj,rfl,hF,(fun e=>absurd e hkn),V,(fun r hr=>HM.out (V,⟨j,kj,aj⟩) r (EvL.stop (by unfold gModuleB;exact evt)) hr),(q.less (by omega))⟩
   case round=>
    clear F q
    obtain⟨v,vs,j,kj,aj,hgk,hF,hE,V,HM,q⟩:=hrel
    have hj:=q.st.rd.lt
    have hposJ:(0:Int)≤(t.pos j:Int)∧(t.pos j:Int)≤7000:=by have:=h.good.posb j;omega
    have HG:Hid (gk=ml t j kj):=hgk
    clear hgk
    obtain⟨ao7,cp7,rfl⟩:=q.shape
    have F:=q.f2
    cases hk0:(kj==0)
    ·go_wp2_with fail
     refine q.lf ok21b ?_
     clear q F
     intro w8 q
     have F:=q.f2
     go_wp2_with fail
     go_light
     exact Mf.retb (C:=fun x=>x=1) (d:=8) Tryz.results20 rfl rfl (q.fo 1 (t.pos i) 0 0 s3 (Nat.le_trans hF.2 (by decide)) hposI (Nat.le_trans hs3 (by decide)) (fun e=>absurd e (by simpa using hk0))) 1 rfl (fun _=>lab_ne (by decide)) (by omega) rfl (HM.out (_,_) (EvL.stop (by unfold gModuleB2;exact evt)))
    ·obtain rfl:kj=0:=by simpa using hk0
     have hb1:Hid (i≤j∧k=0∧i<j):=⟨q.le,q.ok rfl,q.go trivial rfl⟩
     have HE:Hid (∀x∈vs.map labOf,x=2∨x=3∨x=6∨x=7∨x=108∨x=208):=hE rfl
     clear hE
     have hFl:vs.length≤6005:=by have:=hF.1 rfl;have:=h.good.few;omega
     replace q:=q.rebase
     go_wp2_with fail
     refine q.lf ok21b ?_
     clear q F
     intro w9 q
     have F:=q.f2
     go_wp2_with fail
     refine q.et (eat42 · _) ?_
     clear q F
     intro w10 b10 i10 hE10 m10 q
     have F:=q.f2
     go_wp2_with fail
     ·go_wp2_with fail
      go_region_law (first|(refine q.as (sz w11) (Nat.le_trans hFl (by decide)) ?_;clear q F;intro w12 ao12 cp12 q;have F:=q.f2)|(go_simp;refine q.drew.nd (itemF hEn ·) ?_;clear q F;intro w11 x11 i11 k11 a11 y11 hc11 ok11 m11 q;have F:=q.f2))
      all_goals
       go_wp2_with fail
       replace q:=q.p05 (.slice ao12 (vs.length+1) cp12)
       go_roundg (ml t i11 k11)
       case measure=>rw[HG.out];exact ml_lt hj q.le (q.go trivial)
       case rel=>exact⟨(.slice ao12 (vs.length+1) cp12),(vs++[x11.t]),i11,k11,a11,rfl,Few.snoc (t:=t) hF rfl hj h.good (q.go trivial),(fun e=>by rw[List.map_append];exact all_snoc (C:=fun x=>x=2∨x=3∨x=6∨x=7∨x=108∨x=208) HE.out (.inr (hc11 e))),_,(fun r hr=>HM.out r (EvL.on (by unfold gModuleB2;exact evt) hr)),q.unbase (s':= -48) (g':=True) hb1.out.1 (fun _=>hb1.out.2.1) (fun _ _=>hb1.out.2.2) (by omega)⟩
     ·go_wp2_with fail
      go_light
      exact Mf.retb (C:=fun x=>x=1) (d:=8) Tryz.results20 rfl rfl ((q.fo 1 (t.pos i) 0 0 s3 (Nat.le_trans hF.2 (by decide)) hposI (Nat.le_trans hs3 (by decide)) (fun e=>Gr.of_mod HE.out)).unbase (s':= -47) (g':=True) hb1.out.1 (fun _=>hb1.out.2.1) (fun _ _=>hb1.out.2.2) (by omega)) 1 rfl (fun _=>lab_ne (by decide)) (by omega) rfl (HM.out (_,_) (EvL.stop (by unfold gModuleB2;exact evt)))
  ·obtain rfl:kj=0:=by simpa using hk0
   have hb1:Hid (i≤j∧k=0∧i<j):=⟨q.le,q.ok rfl,q.go trivial rfl⟩
   have HE:Hid (∀x∈vs.map labOf,x=2∨x=3∨x=6∨x=7∨x=108∨x=208):=hE rfl
   clear hE
   have hFl:vs.length≤6005:=by have:=hF.1 rfl;have:=h.good.few;omega
   replace q:=q.rebase
   go_wp2_with fail
   refine q.lf ok21b ?_
   clear q F
   intro w13 q
   have F:=q.f2
   cases hu:isB t j 0 0 ⟨#[117,115,101]⟩
   ·go_wp2_with fail
    refine q.lf (is_no · 0 (by decide) _ hu) ?_
    clear q F
    intro w14 q
    have F:=q.f2
    have HKB:Hid (isB t j 0 0 ⟨#[117,115,101]⟩=false):=hu
    clear hu
    go_wp2_with fail
    replace q:=q.unbase (s':= -48) (g':=True) hb1.out.1 (fun _=>hb1.out.2.1) (fun _ _=>hb1.out.2.2) (by omega)
    replace F:=q.f2
    go_wp2_with fail
    go_loopg [] (ml t j 0) (fun g wr=>∃(v:Value) (vs:List (List Value)) (j:Nat) (kj aj:Int),g=ml t j kj∧Few 4 vs j kj∧(kj=0→∀x∈vs.map labOf,x=2∨x=3∨x=6∨x=7∨x=108∨x=208)∧∃(V:List (List Nr)),Hid (∀r,EvL (fun n=>gModuleB2 t (gG t n 0) (gG t n 3) n) V ⟨j,kj,aj⟩ r→Ev (fun n=>gModule t (gG t n 0) (gG t n 3) n) ⟨i,k,a⟩ (nd 1 (t.pos i:Int) 0 0 s3 r.1,r.2))∧Mf 1 w rb tb cap t i k True (-48) wr j kj aj [(sz w1,nodeC 1 (t.pos i) 0 0 s3 v),(sz w,zeroC)] [] v vs [] V)
    case atStart=>exact⟨(.slice ao5 vs.length cp5),vs,j,0,aj,rfl,hF,(fun _=>HE.out),V,(fun r hr=>HM.out (V,⟨j,0,aj⟩) r (EvL.stop (by have hkb:=HKB.out;unfold gModuleB;exact evt)) hr),(q.less (by omega))⟩
    case round=>
     clear F q
     obtain⟨v,vs,j,kj,aj,hgk,hF,hE,V,HM,q⟩:=hrel
     have hj:=q.st.rd.lt
     have hposJ:(0:Int)≤(t.pos j:Int)∧(t.pos j:Int)≤7000:=by have:=h.good.posb j;omega
     have HG:Hid (gk=ml t j kj):=hgk
     clear hgk
     obtain⟨ao15,cp15,rfl⟩:=q.shape
     have F:=q.f2
     cases hk0:(kj==0)
     ·go_wp2_with fail
      refine q.lf ok21b ?_
      clear q F
      intro w16 q
      have F:=q.f2
      go_wp2_with fail
      go_light
      exact Mf.retb (C:=fun x=>x=1) (d:=8) Tryz.results20 rfl rfl (q.fo 1 (t.pos i) 0 0 s3 (Nat.le_trans hF.2 (by decide)) hposI (Nat.le_trans hs3 (by decide)) (fun e=>absurd e (by simpa using hk0))) 1 rfl (fun _=>lab_ne (by decide)) (by omega) rfl (HM.out (_,_) (EvL.stop (by unfold gModuleB2;exact evt)))
     ·obtain rfl:kj=0:=by simpa using hk0
      have hb1:Hid (i≤j∧k=0∧i<j):=⟨q.le,q.ok rfl,q.go trivial rfl⟩
      have HE:Hid (∀x∈vs.map labOf,x=2∨x=3∨x=6∨x=7∨x=108∨x=208):=hE rfl
      clear hE
      have hFl:vs.length≤6005:=by have:=hF.1 rfl;have:=h.good.few;omega
      replace q:=q.rebase
      go_wp2_with fail
      refine q.lf ok21b ?_
      clear q F
      intro w17 q
      have F:=q.f2
      go_wp2_with fail
      refine q.et (eat42 · _) ?_
      clear q F
      intro w18 b18 i18 hE18 m18 q
      have F:=q.f2
      go_wp2_with fail
      ·go_wp2_with fail
       go_region_law (first|(refine q.as (sz w19) (Nat.le_trans hFl (by decide)) ?_;clear q F;intro w20 ao20 cp20 q;have F:=q.f2)|(go_simp;refine q.drew.nd (itemF hEn ·) ?_;clear q F;intro w19 x19 i19 k19 a19 y19 hc19 ok19 m19 q;have F:=q.f2))
       all_goals
        go_wp2_with fail
        replace q:=q.p05 (.slice ao20 (vs.length+1) cp20)
        go_roundg (ml t i19 k19)
        case measure=>rw[HG.out];exact ml_lt hj q.le (q.go trivial)
        case rel=>exact⟨(.slice ao20 (vs.length+1) cp20),(vs++[x19.t]),i19,k19,a19,rfl,Few.snoc (t:=t) hF rfl hj h.good (q.go trivial),(fun e=>by rw[List.map_append];exact all_snoc (C:=fun x=>x=2∨x=3∨x=6∨x=7∨x=108∨x=208) HE.out (.inr (hc19 e))),_,(fun r hr=>HM.out r (EvL.on (by unfold gModuleB2;exact evt) hr)),q.unbase (s':= -48) (g':=True) hb1.out.1 (fun _=>hb1.out.2.1) (fun _ _=>hb1.out.2.2) (by omega)⟩
      ·go_wp2_with fail
       go_light
       exact Mf.retb (C:=fun x=>x=1) (d:=8) Tryz.results20 rfl rfl ((q.fo 1 (t.pos i) 0 0 s3 (Nat.le_trans hF.2 (by decide)) hposI (Nat.le_trans hs3 (by decide)) (fun e=>Gr.of_mod HE.out)).unbase (s':= -47) (g':=True) hb1.out.1 (fun _=>hb1.out.2.1) (fun _ _=>hb1.out.2.2) (by omega)) 1 rfl (fun _=>lab_ne (by decide)) (by omega) rfl (HM.out (_,_) (EvL.stop (by unfold gModuleB2;exact evt)))
   ·go_wp2_with fail
    refine q.lf (is_yes · 0 (by decide) _ hu) ?_
    clear q F
    intro w21 q
    have F:=q.f2
    go_wp2_with fail
    refine q.lf (node20 · 2) ?_
    clear q F
    intro w22 q
    have F:=q.f2
    have hposA:(0:Int)≤((t.pos j):Int)∧((t.pos j):Int)≤7000:=by have:=h.good.posb j;omega
    go_wp2_with fail
    refine(q.ne' (sz w22) (nk 2 (t.pos j) nl)).wn (want39F · _) ?_
    clear q F
    intro w23 i23 k23 a23 ok23 m23 q
    have F:=q.f3
    go_wp2_with fail
    refine q.nm name40F ?_
    clear q F
    intro w24 s24 i24 k24 a24 hs24 ho24 ok24 m24 q
    have F:=q.f3
    go_wp2_with fail
    refine(q.p04 s24).wn (want39F · _) ?_
    clear q F
    intro w25 i25 k25 a25 ok25 m25 q
    have F:=q.f3
    have hcat1:¬(9223372036854775807<s24.size+2):=by have:=hs24;omega
    go_upto_region 10 with fail
    go_cut [] (fun wx=>∃(nmu:ByteArray) (j26:Nat) (k26 a26:Int),(nmu.size≤20000∧(k26=0→pathOK 2 nmu∧¬pathOK 1 nmu))∧(∃(sb:ByteArray),Ev (fun _=>gName t) ⟨i25,k25,a25⟩ (sb,⟨j26,k26,a26⟩)∧Hid (nmu=s24++⟨#[58,58]⟩++sb)∧Mf 1 w rb tb cap t j 0 True (16*((j:Int) - (i:Int))+(-96)) wx j26 k26 a26 [(sz w22,nodeC 2 (t.pos j) 0 0 nmu nl),(sz w1,nodeC 1 (t.pos i) 0 0 s3 (.slice ao5 vs.length cp5)),(sz w,zeroC)] [] (.slice ao5 vs.length cp5) vs [] V))
    case first=>
     go_wp2_with fail
     go_region_law (go_simp;refine(name40F q.drew.st.rd).mono ?_;rintro e w27 ⟨s27,rfl,hs27,i27,k27,a27,hx27,ho27,m27⟩;have hcat2:¬(9223372036854775807<s24.size+2+s27.size):=(by have:=hs24;omega);have ok27:Hid (k27=0→k25=0):=hx27.ok;replace q:=q.drew.nxm hx27;clear hx27;replace F:=q.f3)
     all_goals
      go_wp2_with fail
      go_meet
      exact⟨(s24++⟨#[58,58]⟩++s27),i27,k27,a27,⟨by rw[append_size,append_size];show s24.size+2+s27.size≤_;omega,fun e=>two_path (ho24 (ok25.out (ok27.out e))) (ho27 e)⟩,s27,m27,(by show _=_;rfl),((q.p04 (s24++⟨#[58,58]⟩++s27)).less (by omega))⟩
    case rest=>
     clear F q
     obtain⟨nmu,j26,k26,a26,hN,sb,mn,HNE,q⟩:=hcut
     obtain⟨w28,hw⟩:∃x,x=wc:=⟨_,rfl⟩
     subst hw
     have F:=q.f3
     have HNm:Hid (k26=0→pathOK 2 nmu∧¬pathOK 1 nmu):=hN.2
     have hNs:=hN.1
     clear hN
     go_wp2_with fail
     refine q.wn (want39F · _) ?_
     clear q F
     intro w29 i29 k29 a29 ok29 m29 q
     have F:=q.f3
     go_wp2_with (at_builtin;refine(q.lk 2 (t.pos j) 0 0 nmu hposA hNs (fun e=>Gr.of_use ⟨rfl,(HNm.out (ok29.out e)).1⟩)).ap (sz w29) (Nat.le_trans hFl (by decide)) ?_;clear q F;intro w30 ao30 cp30 q;have F:=q.f3)
     go_wp2_with fail
     replace q:=(q.p15 (.slice ao30 (vs.length+1) cp30)).pop
     go_roundg (ml t i29 k29)
     case measure=>rw[HG.out];exact ml_lt hj q.le (q.go trivial)
     case rel=>exact⟨(.slice ao30 (vs.length+1) cp30),(vs++[(nodeC 2 (t.pos j) 0 0 nmu nl).toList]),i29,k29,a29,rfl,Few.snoc (t:=t) hF rfl hj h.good (q.go trivial),(fun e=>by rw[List.map_append];exact all_snoc (C:=fun x=>x=2∨x=3∨x=6∨x=7∨x=108∨x=208) HE.out (.inl (lab_ne (by decide)))),_,(fun r r2 hr=>HM.out r r2 (EvL.on (by have hfin:(true,V++[nd 2 (t.pos j:Int) 0 0 (s24++⟨#[58,58]⟩++sb) []])=(true,V++[nd 2 (t.pos j:Int) 0 0 nmu []]):=(by rw[HNE.out]);unfold gModuleB;exact evt) hr)),q.unbase (s':= -48) (g':=True) hb1.out.1 (fun _=>hb1.out.2.1) (fun _ _=>hb1.out.2.2) (by omega)⟩
end Go.Proofs.YtdplogkmkgekdaaGreatDoor
