/- References in types, counted. -/
import Derived.Test.YtdplogkmkgekdaaGreatDoorGmd
import Derived.Test.YtdplogkmkgekdaaGreatDoorZParams
import Derived.Test.YtdplogkmkgekdaaGreatDoorMid
import Derived.Test.YtdplogkmkgekdaaGreatDoorGmc
set_option linter.all false
set_option maxRecDepth 100000
set_option maxHeartbeats 4000000
namespace Go.Proofs.YtdplogkmkgekdaaGreatDoor
open Go.RowKit
def gPathB (t:Tk) (most:Nat) (x:ByteArray × Nat × Bool):GP (Bool × ByteArray × Nat × Bool):=bnd (gIs t 0 ⟨#[58,58]⟩) (fun b=>bnd (gKind t 1 2) (fun b2=>cond (b&&b2) (cond (x.2.1==most) (seq (gBad t) (ret (false,(E0,x.2.1,true)))) (seq (gAdd 1) (bnd (gName t) (fun s=>ret (true,(x.1++⟨#[58,58]⟩++s,x.2.1+1,x.2.2)))))) (ret (false,x))))
section
variable {t:Tk} {most n j:Nat} {kj aj:Int} {s:ByteArray} {f:Bool}
theorem pb_no (h:(isB t j kj 0 ⟨#[58,58]⟩&&kindB t j kj 1 2)=false):Ev (fun _=>gPathB t most (s,n,f)) ⟨j,kj,aj⟩ ((false,(s,n,f)),⟨j,kj,aj⟩):=Ev.bnd' ev_is (Ev.bnd' ev_kind (Ev.no h Ev.ret'))
theorem pb_full {r:Rs} (h1:isB t j kj 0 ⟨#[58,58]⟩=true) (h2:kindB t j kj 1 2=true) (h:Ev (fun _=>gBad t) ⟨j,kj,aj⟩ ((),r)):Ev (fun _=>gPathB t n (s,n,f)) ⟨j,kj,aj⟩ ((false,(E0,n,true)),r):=Ev.bnd' ev_is (Ev.bnd' ev_kind (Ev.yes (by rw[h1,h2];rfl) (Ev.yes (by simp) (Ev.seq h Ev.ret'))))
theorem pb_on {r:Rs} {s5:ByteArray} (h1:isB t j kj 0 ⟨#[58,58]⟩=true) (h2:kindB t j kj 1 2=true) (h3:n≠most) (h:Ev (fun _=>gName t) ⟨j+1,kj,aj⟩ (s5,r)):Ev (fun _=>gPathB t most (s,n,f)) ⟨j,kj,aj⟩ ((true,(s++⟨#[58,58]⟩++s5,n+1,f)),r):=Ev.bnd' ev_is (Ev.bnd' ev_kind (Ev.yes (by rw[h1,h2];rfl) (Ev.no (by simpa using h3) (Ev.seq ev_add (Ev.bnd' h Ev.ret')))))
end
theorem path80F {w:World} {rb tb cap i:Nat} {t:Tk} {k a:Int} (h:Rd w rb tb cap t i k a) (most:Nat) (hm1:1≤most) (hm:most≤3):
 Calls Tryz.prog 168 #[.pointer (some ⟨rb,0,none⟩),.int .i64 most] w fun e w'=>∃s,e=.returned (.string s)∧s.size≤20000∧∃i' k' a',Nx w rb tb cap t i k True w' i' k' a'∧(k'=0→pathOK most s)∧Ev (fun fu=>gPath t fu most) ⟨i,k,a⟩ (s,⟨i',k',a'⟩):=by
 have hfew:(t.len:Int)≤6001:=by have:=h.good.few;omega
 go_enter Tryz.func168,Tryz.ntmps168
 go_wp2_with (go_at_call 43;refine(name40F h).mono ?_;rintro e w1 ⟨s1,rfl,hs1,i1,k1,a1,hx1,ho1,m1⟩)
 go_loopg [5,6] (ml t i1 k1) (fun g v q wr=>∃(s:ByteArray) (n j:Nat) (kj aj:Int),g=ml t j kj∧v=.string s∧q=.int .i64 n∧PathL w rb tb cap t i k most wr s n j kj aj∧Hid (∀r,EvL (fun _=>gPathB t most) (s,n,false) ⟨j,kj,aj⟩ r→Ev (fun fu=>gPath t fu most) ⟨i,k,a⟩ (r.1.1,r.2)))
 case atStart=>exact⟨s1,1,i1,k1,a1,rfl,rfl,rfl,⟨hx1,hm1,by omega,fun e=>⟨[s1.toList],by simp,rfl,by simpa[nameOK] using ho1 e,rfl⟩⟩,fun r hr=>Ev.bnd' m1 (Ev.bnd hr.ev Ev.ret')⟩
 case round=>
  obtain⟨s,n,j,kj,aj,hgk,rfl,rfl,hR,HM⟩:=hrel
  have HG:Hid (gk=ml t j kj):=hgk
  clear hgk
  have hj:=hR.nx.rd.lt
  have hn:=hR.le
  have hsz:=hR.size
  have out:(isB t j kj 0 ⟨#[58,58]⟩&&kindB t j kj 1 2)=false→∃s',Ending.returned (.string s)=.returned (.string s')∧s'.size≤20000∧∃i' k' a',Nx w rb tb cap t i k True wr i' k' a'∧(k'=0→pathOK most s')∧Ev (fun fu=>gPath t fu most) ⟨i,k,a⟩ (s',⟨i',k',a'⟩):=fun hno=>
   ⟨s,rfl,by omega,j,kj,aj,hR.nx,fun e=>by obtain⟨ns,h1,h2,h3,h4⟩:=hR.ok e;exact⟨ns,h1,by omega,h3,h4⟩,HM.out _ (EvL.stop (pb_no hno))⟩
  cases hk:(kj==0)
  ·go_wp2_with (go_at_call 18;refine(ok21 hR.nx.rd).mono ?_;rintro e w2 ⟨rfl,rfl⟩)
   go_ret
   exact out (by simp[isB,(show kj≠0 by simpa using hk)])
  ·have hk0:Hid (kj=0):=by show kj=0;simpa using hk
   cases hb:isB t j kj 0 ⟨#[58,58]⟩
   ·have HB:Hid (isB t j kj 0 ⟨#[58,58]⟩=false):=hb
    go_wp2_with (first|(go_at_call 18;refine(ok21 hR.nx.rd).mono ?_;rintro e w2 ⟨rfl,rfl⟩)|(go_at_call 44;refine(is41 hR.nx.rd 0 (by omega) _).mono ?_;rintro e w3 ⟨rfl,hb3⟩))
    go_ret
    obtain⟨s',e1,e2,i',k',a',e3,e4⟩:=out (by rw[HB.out];rfl)
    refine⟨s',e1,e2,i',k',a',⟨?_,?_,e3.le,e3.ok,e3.go⟩,e4⟩
    ·exact e3.rd.below hb3
    ·exact e3.kp.trans ((Kp.of_below hb3).mono e3.kp.size)
   ·have HB:Hid (isB t j kj 0 ⟨#[58,58]⟩=true):=hb
    have hlt:=(isB_lt h.good hj hb).2
    cases hq:kindB t j kj 1 2
    ·have HQ:Hid (kindB t j kj 1 2=false):=hq
     go_wp2_with (first|(go_at_call 18;refine(ok21 hR.nx.rd).mono ?_;rintro e w2 ⟨rfl,rfl⟩)|(go_at_call 44;refine(is41 hR.nx.rd 0 (by omega) _).mono ?_;rintro e w3 ⟨rfl,hb3⟩)|(go_at_call 19;refine(kind22 (hR.nx.rd.below hb3) 1 (by omega) 2).mono ?_;rintro e w4 ⟨rfl,hb4⟩))
     go_ret
     obtain⟨s',e1,e2,i',k',a',e3,e4⟩:=out (by rw[HQ.out];simp)
     refine⟨s',e1,e2,i',k',a',⟨?_,?_,e3.le,e3.ok,e3.go⟩,e4⟩
     ·exact(e3.rd.below hb3).below hb4
     ·exact e3.kp.trans ((Kp.of_below (hb3.trans (hb4.mono hb3.size))).mono e3.kp.size)
    ·have HQ:Hid (kindB t j kj 1 2=true):=hq
     by_cases hnm:n=most
     ·subst hnm
      go_wp2_with (first|(go_at_call 18;refine(ok21 hR.nx.rd).mono ?_;rintro e w2 ⟨rfl,rfl⟩)|(go_at_call 44;refine(is41 hR.nx.rd 0 (by omega) _).mono ?_;rintro e w3 ⟨rfl,hb3⟩)|(go_at_call 19;refine(kind22 (hR.nx.rd.below hb3) 1 (by omega) 2).mono ?_;rintro e w4 ⟨rfl,hb4⟩;have h4:=(hR.nx.rd.below hb3).below hb4)|(go_at_call 99;refine(bad64F h4).mono ?_;rintro e w5 ⟨rfl,⟨k5,a5,hk5,h5,m5⟩,hk5'⟩))
      go_ret
      refine⟨⟨#[]⟩,rfl,by decide,j,k5,a5,⟨h5,?_,hR.nx.le,fun e=>absurd e hk5,fun _ e=>absurd e hk5⟩,fun e=>absurd e hk5,HM.out _ (EvL.stop (pb_full HB.out HQ.out m5))⟩
      have hb34:=hb3.trans (hb4.mono hb3.size)
      exact hR.nx.kp.trans (((Kp.of_below hb34).trans (hk5'.mono hb34.size)).mono hR.nx.kp.size)
     ·have hnm':((n:Int)==(most:Int))=false:=by simp;omega
      go_wp2_with (first|(go_at_call 18;refine(ok21 hR.nx.rd).mono ?_;rintro e w2 ⟨rfl,rfl⟩)|(go_at_call 44;refine(is41 hR.nx.rd 0 (by omega) _).mono ?_;rintro e w3 ⟨rfl,hb3⟩)|(go_at_call 19;refine(kind22 (hR.nx.rd.below hb3) 1 (by omega) 2).mono ?_;rintro e w4 ⟨rfl,hb4⟩;have h4:=(hR.nx.rd.below hb3).below hb4;have r1:=h4.r1;have hl4:=h4.l;have f4:=h4.fz 1)|(go_at_call 43;refine(name40F (h4.setI hlt)).mono ?_;rintro e w5 ⟨s5,rfl,hs5,i5,k5,a5,hx5,ho5,m5⟩))
      have hb34:=hb3.trans (hb4.mono hb3.size)
      have hkp:Kp w.heap.size rb w (w4.setCell ⟨rb,1,none⟩ (.int .i64 (j+1:Nat))):=Kp.setCell (p:=⟨rb,1,none⟩) (hR.nx.kp.trans ((Kp.of_below hb34).mono hR.nx.kp.size)) (.inr rfl) _
      have hP:PathL w rb tb cap t i k most w5 (s++⟨#[58,58]⟩++s5) (n+1) i5 k5 a5:=by
       refine⟨⟨hx5.rd,hkp.trans (hx5.kp.mono hkp.size),?_,fun e=>hR.nx.ok (hx5.ok e),fun _ e=>?_⟩,by omega,?_,fun e=>?_⟩
       ·have:=hR.nx.le;have:=hx5.le;omega
       ·have:=hR.nx.le;have:=hx5.le;omega
       ·rw[append_size,append_size];show s.size+2+s5.size≤_;omega
       ·obtain⟨ns,h1,h2,h3,h4⟩:=hR.ok hk0.out
        refine⟨ns++[s5.toList],by simp,by simp[h2],fun x hx=>?_,?_⟩
        ·rcases List.mem_append.1 hx with hx|hx
         ·exact h3 x hx
         ·obtain rfl:x=s5.toList:=by simpa using hx
          exact ho5 e
        ·rw[append_list,append_list,joinP_snoc ns _ h1,h4]
         rw[show(⟨#[58,58]⟩:ByteArray).toList=[58,58] by rw[Lib.toList_data]]
         simp
      have hms:ml t i5 k5<gk:=by
       rw[HG.out,hk0.out]
       exact ml_lt hj (by have:=hx5.le;omega) (fun e=>by have:=hx5.le;omega)
      go_roundg (ml t i5 k5)
      case measure=>exact hms
      case rel=>exact⟨_,n+1,i5,k5,a5,rfl,rfl,by go_num,hP,fun r hr=>HM.out r (EvL.on (pb_on HB.out HQ.out hnm m5) hr)⟩
end Go.Proofs.YtdplogkmkgekdaaGreatDoor
namespace Go.Proofs.YtdplogkmkgekdaaGreatDoor
open Go.RowKit
theorem lifeF {w:World} {rb tb cap i:Nat} {t:Tk} {k a:Int} (h:Rd w rb tb cap t i k a):Calls Tryz.prog 204 #[.pointer (some ⟨rb,0,none⟩)] w (NodeF 3 w rb tb cap t i k a True 8 (fun x=>x=19) (fun _=>gLife t)):=by
 have hl:=h.l
 have hposI:(0:Int)≤(t.pos i:Int)∧(t.pos i:Int)≤7000:=by have:=h.good.posb i;omega
 go_enter Tryz.func204,Tryz.ntmps204
 have hfd:=fld103_2
 have hi:(i:Int)<(t.len:Int):=by have:=h.lt;omega
 have hfew:(t.len:Int)≤6001:=by have:=h.good.few;omega
 have q:=Mf.start (wt:=3) h
 go_wp2_with fail
 refine(q.ne' (sz w) (zeroC)).lf (node20 · 19) ?_
 clear q
 intro w1 q
 have F:=q.f1
 cases hq:kindB t i k 0 4
 ·have HQ:Hid (kindB t i k 0 4=false):=hq
  go_wp2_with fail
  refine(q.ne' (sz w1) (nk 19 (t.pos i) nl)).lf (kind22 · 0 (by decide) 4) ?_
  clear q F
  intro w2 q
  have F:=q.f2
  go_wp2_with fail
  refine(bad64F q.st.rd).mono ?_
  rintro e w3 ⟨rfl,⟨k3,a3,hk3,h3,m3⟩,hk3'⟩
  replace q:=((q.rk h3 hk3' (Nat.le_refl _) (fun e=>absurd e hk3)).up (g':=True) (fun _ e=>absurd e hk3)).dead (s':=(-100)) hk3
  clear h3 hk3'
  replace F:=q.f2
  go_wp2_with fail
  go_light
  refine Mf.retb (C:=fun x=>x=19) (d:=8) Tryz.results204 rfl rfl (q.lk 19 (t.pos i) 0 0 ⟨#[]⟩ hposI (by decide) (fun e=>absurd e hk3)) 1 rfl (fun _=>rfl) (by omega) rfl ?_
  unfold gLife
  repeat' (first|with_reducible exact Ev.ret'|refine Ev.bnd' ev_at ?_|refine Ev.bnd' ev_kind ?_|refine Ev.no HQ.out ?_|refine Ev.yes HQ.out ?_|refine Ev.seq m3 ?_)
 ·have HQ:Hid (kindB t i k 0 4=true):=hq
  go_wp2_with fail
  refine(q.ne' (sz w1) (nk 19 (t.pos i) nl)).lf (kind22 · 0 (by decide) 4) ?_
  clear q F
  intro w4 q
  have F:=q.f2
  have hlt:i+1<t.len:=(kindB_lt h.good h.lt (by decide) hq).2.1
  go_wp2_with fail
  refine q.lf tok38 ?_
  clear q F
  intro w5 q
  have F:=q.f2
  have r1:=q.st.rd.r1
  have fr1:=q.st.rd.fz 1
  have lr:=q.st.rd.l
  go_wp2_with fail
  go_light
  refine Mf.retb (C:=fun x=>x=19) (d:=8) Tryz.results204 rfl rfl (((q.p04 (t.text i)).goI (j':=i+1) hlt (Nat.lt_succ_self _)).lk 19 (t.pos i) 0 0 (t.text i) hposI (Nat.le_trans (h.good.textb i) (by decide)) (fun _=>Gr.free (by unfold frK;decide))) 1 rfl (fun _=>rfl) (by omega) rfl ?_
  unfold gLife
  repeat' (first|with_reducible exact Ev.ret'|refine Ev.bnd' ev_at ?_|refine Ev.bnd' ev_text ?_|refine Ev.bnd' ev_kind ?_|refine Ev.no HQ.out ?_|refine Ev.yes HQ.out ?_|refine Ev.seq ev_add ?_)
end Go.Proofs.YtdplogkmkgekdaaGreatDoor
namespace Go.Proofs.YtdplogkmkgekdaaGreatDoor
open Go.RowKit
theorem sign118F {w:World} {rb tb cap i:Nat} {t:Tk} {k a:Int} (h:Rd w rb tb cap t i k a) {sb:Nat} (L:List ByteArray) (hL:∀(j:Nat) (hj:j<L.length),w.cell? ⟨sb,j,none⟩=some (.string L[j])) (hsb:sb<w.heap.size) (hlen:L.length≤10) (hsz:∀x∈L,x.size≤10):
 Calls Tryz.prog 261 #[.pointer (some ⟨rb,0,none⟩),.slice (some ⟨sb,0,none⟩) L.length L.length] w fun e w'=>∃s:ByteArray,e=.returned (.string s)∧Below w.heap.size w w'∧s.size≤10∧(s.toList.isEmpty=false→isB t i k 0 s=true∧s∈L)∧Ev (fun _=>gSign t L) ⟨i,k,a⟩ (s,⟨i,k,a⟩):=by
 have HL:Hid (∀(j:Nat) (hj:j<L.length),w.cell? ⟨sb,j,none⟩=some (.string L[j])):=hL
 clear hL
 go_enter Tryz.func261,Tryz.ntmps261
 go_wp2_with fail
 go_loopg [9,6] L.length (fun g u9 _ wr=>∃q:Nat,q≤L.length∧g=L.length - q∧u9=.int .i64 q∧Below w.heap.size w wr∧Hid (L.find? (fun x=>isB t i k 0 x)=(L.drop q).find? (fun x=>isB t i k 0 x)))
 case atStart=>exact⟨0,Nat.zero_le _,by omega,rfl,Below.refl _ _,rfl⟩
 case round=>
  obtain⟨q,hq,hgk,rfl,hb,HS⟩:=hrel
  have HG:Hid (gk=L.length - q):=hgk
  clear hgk
  by_cases hlt:q<L.length
  ·have hlt':(q:Int)<(L.length:Int):=by omega
   have hc:wr.cell? ⟨sb,q,none⟩=some (.string L[q]):=by rw[hb.cell (p:=⟨sb,q,none⟩) hsb];exact HL.out q hlt
   have hr:=h.below hb
   obtain⟨x,hx⟩:∃x,x=L[q]:=⟨_,rfl⟩
   have HX:Hid (x=L[q]):=hx
   rw[←hx] at hc
   clear hx
   cases hs:isB t i k 0 x
   ·have HSB:Hid (isB t i k 0 x=false):=hs
    go_wp2_with (go_at_call 44;refine(is41 hr 0 (by decide) _).mono ?_;rintro e w2 ⟨rfl,hb2⟩)
    go_roundg (L.length - (q+1))
    case measure=>rw[HG.out];omega
    case rel=>exact⟨q+1,hlt,rfl,by go_num,hb.trans (hb2.mono hb.size),HS.out.trans (by rw[List.drop_eq_getElem_cons hlt,List.find?_cons_of_neg (by rw[←HX.out,HSB.out];decide)])⟩
   ·go_wp2_with (go_at_call 44;refine(is41 hr 0 (by decide) _).mono ?_;rintro e w2 ⟨rfl,hb2⟩)
    go_ret
    exact⟨x,rfl,hb.trans (hb2.mono hb.size),by rw[HX.out];exact hsz _ (List.getElem_mem _),fun _=>⟨hs,by rw[HX.out];exact List.getElem_mem _⟩,Ev.of (by show some (((L.find? (fun x=>isB t i k 0 x))).getD E0,_)=_;rw[HS.out,List.drop_eq_getElem_cons hlt,List.find?_cons_of_pos (by rw[←HX.out];exact hs),HX.out];rfl)⟩
  ·go_wp2_with fail
   go_ret
   exact⟨⟨#[]⟩,rfl,hb,by decide,fun e=>by simp[Lib.toList_data] at e,Ev.of (by show some (((L.find? (fun x=>isB t i k 0 x))).getD E0,_)=_;rw[HS.out,List.drop_eq_nil_of_le (by omega)];rfl)⟩
def noF (wt f:Nat) (must:Prop) (d:Int) (C:Int→Prop) (m:Tk→Nat→GP (List Nr)):Prop:=∀{w:World} {rb tb cap i:Nat} {t:Tk} {k a:Int},Rd w rb tb cap t i k a→Calls Tryz.prog f #[.pointer (some ⟨rb,0,none⟩)] w (NodeF wt w rb tb cap t i k a must d C (m t))
def liF (f:Nat) (must:Prop) (C:List Int→Prop) (m:Tk→Nat→GP (List (List Nr))):Prop:=∀{w:World} {rb tb cap i:Nat} {t:Tk} {k a:Int},Rd w rb tb cap t i k a→Calls Tryz.prog f #[.pointer (some ⟨rb,0,none⟩)] w (ListF 1 w rb tb cap t i k a must 0 C (m t))
theorem flat_name {w:World} {kd p n m:Int} {s:ByteArray} {v:Value} {y:List Nr}:Fl w [(nodeC kd p n m s v).toList] [y]→(match y with|[]=>E0|z::_=>z.s)=s∧(match y with|[]=>0|z::_=>z.p)=p:=by
 intro hy
 obtain⟨h,hf⟩:=hy
 have:=hf (h+1) (Nat.le_succ _)
 simp only[List.map_cons,List.map_nil,List.cons.injEq,and_true] at this
 rw[←this]
 exact⟨rfl,rfl⟩
theorem life_ev {w:World} {kd p n m:Int} {s:ByteArray} {v:Value} {y:List Nr} {t:Tk} {s0 s1:Rs} (hy:Fl w [(nodeC kd p n m s v).toList] [y]) (e:Ev (fun _=>gLife t) s0 (y,s1)):Ev (fun _=>gLifeName t) s0 (s,s1):=Ev.bnd' e (Ev.ret (fun _=>(flat_name hy).1))
theorem kindB_off {t:Tk} {i d:Nat} {k q:Int} (h:(k==0)=false):kindB t i k d q=false:=by unfold kindB;rw[h];rfl
theorem isB_off {t:Tk} {i d:Nat} {k:Int} {q:ByteArray} (h:(k==0)=false):isB t i k d q=false:=by unfold isB;rw[h];rfl
abbrev BK (t:Tk) (i:Nat) (k:Int):Bool:=isB t i k 0 ⟨#[105,102]⟩||(isB t i k 0 ⟨#[109,97,116,99,104]⟩||(isB t i k 0 ⟨#[119,104,105,108,101]⟩||(isB t i k 0 ⟨#[108,111,111,112]⟩||isB t i k 0 ⟨#[123]⟩)))
theorem blockishF {w:World} {rb tb cap i:Nat} {t:Tk} {k a:Int} (h:Rd w rb tb cap t i k a):
 Calls Tryz.prog 174 #[.pointer (some ⟨rb,0,none⟩)] w fun e w'=>∃b,e=.returned (.bool b)∧Hid (BK t i k=b)∧Below w.heap.size w w':=by
 have hb:=Below.refl w.heap.size w
 go_enter Tryz.func174,Tryz.ntmps174
 go_wp2_with (go_at_call 44;refine(is41 (h.below hb) 0 (by decide) _).mono ?_;rintro e w2 ⟨rfl,hb2⟩;have hb:=hb.trans (hb2.mono hb.size))
 all_goals
  go_ret
  exact⟨_,rfl,by show BK t i k=_;unfold BK;simp[*],hb⟩
def PlainPost (s:ByteArray) (e:Ending):Prop:=∃b,e=.returned (.bool b)∧Hid ((!(s.toList.contains 58))=b)
theorem plainF (s:ByteArray) (w:World) (hs:s.size≤20000):
 Calls Tryz.prog 259 #[.string s] w fun e w'=>PlainPost s e∧w'=w:=by
 go_enter Tryz.func259,Tryz.ntmps259
 go_wp2_with fail
 go_loop [3] (fun u=>∃q:Nat,q≤s.size∧u=.int .i64 q∧Hid (∀j (hj:j<s.size),j<q→s[j]≠58)) (fun u=>s.size - (intOf u).toNat)
 case atStart=>exact⟨0,Nat.zero_le _,rfl,fun _ _ h=>absurd h (by omega)⟩
 case round=>
  obtain⟨q,hq,rfl,HQ⟩:=hrel
  by_cases hlt:q<s.size
  ·cases hc:(((s[q]'hlt).toNat:Int)==58)
   ·have HN:Hid (s[q]≠58):=by
     intro e
     rw[e] at hc
     exact absurd hc (by decide)
    go_wp2_with fail
    go_round
    case rel=>exact⟨q+1,hlt,by go_num,fun j hj h1=>by
     rcases Nat.lt_or_ge j q with h2|h2
     ·exact HQ.out j hj h2
     ·obtain rfl:j=q:=by omega
      exact HN.out⟩
    case measure=>simp[intOf];omega
   ·have HN:Hid (s[q]=58):=by
     have h1:((s[q]'hlt).toNat:Int)=58:=by simpa using hc
     have h2:(s[q]'hlt).toNat=58:=by omega
     exact UInt8.toNat_inj.1 h2
    go_wp2_with fail
    go_ret
    exact⟨⟨_,rfl,by
     show(!(s.toList.contains 58))=false
     have:s.toList.contains 58=true:=by
      rw[List.contains_iff_mem,Lib.toList_data]
      rw[←HN.out]
      exact Array.mem_toList_iff.2 (Array.getElem_mem _)
     rw[this];rfl⟩,rfl⟩
  ·go_wp2_with fail
   go_ret
   exact⟨⟨_,rfl,by
    show(!(s.toList.contains 58))=true
    have:s.toList.contains 58=false:=by
     rw[Bool.eq_false_iff]
     intro h
     rw[List.contains_iff_mem,Lib.toList_data] at h
     obtain⟨j,hj,e⟩:=List.mem_iff_getElem.1 h
     exact HQ.out j (by simpa using hj) (by have:j<s.data.toList.length:=hj;simp at this;have:s.data.size=s.size:=rfl;omega) (by simpa using e:s.data[j]=58)
    rw[this];rfl⟩,rfl⟩
theorem Mf.rot {wt:Nat} {w W:World} {rb tb cap i j:Nat} {t:Tk} {k kj aj:Int} {g:Prop} {s:Int} {L:List (Nat × Array Value)} {us:List (List Value)} {x:List Value} {U:List (List Nr)} {y:List Nr} (q:Mf wt w rb tb cap t i k g s W j kj aj L (us++[x]) nl [] (U++[y]) []) (hU:U.length=us.length):Mf wt w rb tb cap t i k g s W j kj aj L (x::(us++[])) nl [] (y::(U++[])) []:=
 ⟨q.z.sub (T':=[x]++(us++[])) (fun x hx=>by simp at hx⊢;exact hx.symm) (fun f W=>by simp only[tot_append,tot_nil];omega),by
  have h:=q.fT.split hU
  exact h.2.cons (h.1.app Fl.nil),q.fv⟩
def exWF (N:Nat):Prop:=∀{w:World} {rb tb cap i:Nat} {t:Tk} {a:Int},t.kind i=3→Rd w rb tb cap t i 0 a→Bd N t i 0 9→Calls Tryz.prog 210 #[.pointer (some ⟨rb,0,none⟩)] w (NodeF 1 w rb tb cap t i 0 a True 8 noK (fun n=>gWorded t (gG t n 0) (gG t n 1) (gG t n 3) (gG t n 5) (gG t n 4) n))
theorem exKF.at0 {f r N:Nat} {m:Tk→Nat→GP (List Nr)} (hI:exKF f r N m) {w:World} {rb tb cap i:Nat} {t:Tk} {k a:Int} (hk:k=0) (h:Rd w rb tb cap t i k a) (hN:Bd N t i k r):Calls Tryz.prog f #[.pointer (some ⟨rb,0,none⟩)] w (NodeF 1 w rb tb cap t i k a True 8 noK (m t)):=by
 subst hk
 exact hI h hN
theorem exWF.at0 {N:Nat} (hI:exWF N) {w:World} {rb tb cap i:Nat} {t:Tk} {k a:Int} (hk:k=0) (hw:t.kind i=3) (h:Rd w rb tb cap t i k a) (hN:Bd N t i k 9):Calls Tryz.prog 210 #[.pointer (some ⟨rb,0,none⟩)] w (NodeF 1 w rb tb cap t i k a True 8 noK (fun n=>gWorded t (gG t n 0) (gG t n 1) (gG t n 3) (gG t n 5) (gG t n 4) n)):=by
 subst hk
 exact hI hw h hN
theorem NodeF.up {wt:Nat} {w:World} {rb tb cap i:Nat} {t:Tk} {k a d:Int} {must:Prop} {C:Int→Prop} {m m':Nat→GP (List Nr)} {e:Ending} {w':World} (h:NodeF wt w rb tb cap t i k a must d C m e w') (hm:∀n,m' (n+1)=m n):NodeF wt w rb tb cap t i k a must d C m' e w':=by
 obtain⟨k1,p1,n1,m1,s1,ko,kl,kc,i',k',a',h1,h2,h3,h4,h5,x,h6,h7⟩:=h
 exact⟨k1,p1,n1,m1,s1,ko,kl,kc,i',k',a',h1,h2,h3,h4,h5,x,h6,h7.up hm⟩
theorem NodeF.le {w:World} {rb tb cap i:Nat} {t:Tk} {k a d:Int} {must:Prop} {C:Int→Prop} {m:Nat→GP (List Nr)} {e:Ending} {w':World} (h:NodeF 3 w rb tb cap t i k a must d C m e w'):NodeF 1 w rb tb cap t i k a must d C m e w':=by
 obtain⟨k1,p1,n1,m1,s1,ko,kl,kc,i',k',a',h1,h2,h3,h4,h5,h6⟩:=h
 exact⟨k1,p1,n1,m1,s1,ko,kl,kc,i',k',a',h1,h2,h3,h4,fun e f=>by have:=h5 e f;rw[nsy_nsz] at this⊢;omega,h6⟩
end Go.Proofs.YtdplogkmkgekdaaGreatDoor
namespace Go.Proofs.YtdplogkmkgekdaaGreatDoor
open Go.RowKit
end Go.Proofs.YtdplogkmkgekdaaGreatDoor
namespace Go.Proofs.YtdplogkmkgekdaaGreatDoor
open Go.RowKit
end Go.Proofs.YtdplogkmkgekdaaGreatDoor
namespace Go.Proofs.YtdplogkmkgekdaaGreatDoor
open Go.RowKit
end Go.Proofs.YtdplogkmkgekdaaGreatDoor
namespace Go.Proofs.YtdplogkmkgekdaaGreatDoor
open Go.RowKit
end Go.Proofs.YtdplogkmkgekdaaGreatDoor
namespace Go.Proofs.YtdplogkmkgekdaaGreatDoor
open Go.RowKit
end Go.Proofs.YtdplogkmkgekdaaGreatDoor
namespace Go.Proofs.YtdplogkmkgekdaaGreatDoor
open Go.RowKit
section
variable {w W w':World} {rb tb cap i j:Nat} {t:Tk} {k kj aj:Int} {g:Prop} {s:Int} {L:List (Nat × Array Value)} {T us:List (List Value)} {kv:Value} {vs:List (List Value)}
theorem Mz.take1 {idx:Nat} {x:List Value} (q:Mz 1 w rb tb cap t i k g s W j kj aj L (us++(us.drop idx++T)) kv vs) (h:us[idx]? =some x):Mz 1 w rb tb cap t i k g s W j kj aj L ([x]++(us++(us.drop (idx+1)++T))) kv vs:=by
 have e:us.drop idx=x::us.drop (idx+1):=by
  obtain⟨h1,h2⟩:=List.getElem?_eq_some_iff.1 h
  rw[List.drop_eq_getElem_cons h1,h2]
 rw[e] at q
 refine q.sub (fun y hy=>?_) (fun f X=>?_)
 ·simp only[List.mem_append,List.mem_cons,List.not_mem_nil,or_false] at hy⊢
  rcases hy with h|h|h|h
  ·exact .inr (.inl (.inl h))
  ·exact .inl h
  ·exact .inr (.inl (.inr h))
  ·exact .inr (.inr h)
 ·simp only[tot_append,tot_cons,tot_nil]
  omega
theorem Mz.forget {idx:Nat} (q:Mz 1 w rb tb cap t i k g s W j kj aj L (us++(us.drop idx++T)) kv vs):Mz 1 w rb tb cap t i k g s W j kj aj L T kv vs:=by
 refine q.sub (fun y hy=>by simp only[List.mem_append];exact .inr (.inr hy)) (fun f X=>?_)
 have h1:=tot_nonneg 1 f X us
 have h2:=tot_nonneg 1 f X (us.drop idx)
 simp only[tot_append]
 omega
end
end Go.Proofs.YtdplogkmkgekdaaGreatDoor
namespace Go.Proofs.YtdplogkmkgekdaaGreatDoor
open Go.RowKit
theorem refFsn {N:Nat} (hT:tyF 3 N) (hLi:noF 3 204 True 8 (fun x=>x=19) (fun t _=>gLife t)) {w:World} {rb tb cap i:Nat} {t:Tk} {k a:Int} (h:Rd w rb tb cap t i k a) (hlt:i+1<t.len) (HB:Hid (∀i' k' r',(k'=0→i<i')→r'<64→Bd N t i' k' r')) (hd:isB t i k 0 ⟨#[38,38]⟩=false) (hq:kindB t (i+1) k 0 4=false):Calls Tryz.prog 206 #[.pointer (some ⟨rb,0,none⟩)] w (NodeF 3 w rb tb cap t i k a True 8 tyK (fun n=>gRef t (gG t n 0))):=by
 have hl:=h.l
 have hpos:(t.pos i:Int)≤6000:=by have:=h.good.posb i;omega
 have hposI:(0:Int)≤(t.pos i:Int)∧(t.pos i:Int)≤7000:=by have:=h.good.posb i;omega
 have hposJ:(0:Int)≤(t.pos i:Int)+1∧(t.pos i:Int)+1≤7000:=by omega
 go_enter Tryz.func206,Tryz.ntmps206
 have hfd4:=fld46_4
 have hi:(i:Int)<(t.len:Int):=by have:=h.lt;omega
 have hfew:(t.len:Int)≤6001:=by have:=h.good.few;omega
 have q:=Mf.start (wt:=3) h
 go_wp2_with fail
 refine(q.ne' (sz w) (zeroC)).lf (node20 · 16) ?_
 clear q
 intro w1 q
 have F:=q.f1
 go_wp2_with fail
 refine(q.ne' (sz w1) (nk 16 (t.pos i) nl)).lf (node20 · 16) ?_
 clear q F
 intro w2 q
 have F:=q.f2
 go_wp2_with fail
 refine(q.ne' (sz w2) (nk 16 (↑(t.pos i)+1) nl)).lf (is41 · 0 (by decide) _) ?_
 clear q F
 intro w3 q
 have F:=q.f3
 have r1:=q.st.rd.r1
 have fr1:=q.st.rd.fz 1
 have lr:=q.st.rd.l
 go_wp2_with fail
 refine((q.goI (j':=i+1) hlt (Nat.lt_succ_self _)).ne' (sz w3) (zeroC)).lf (kind22 · 0 (by decide) 4) ?_
 clear q F r1 fr1 lr
 intro w4 q
 have F:=q.f4
 go_wp2_with fail
 refine q.et (eat42 · _) ?_
 clear q F
 intro w5 b5 i5 hE5 m5 q
 have F:=q.f4
 go_wp2_with fail
 ·go_wp2_with fail
  replace q:=q.p02 1
  refine q.nd (hT · (q.bd HB.out (by decide))) ?_
  clear q F
  intro w6 x6 i6 k6 a6 y6 hc6 ok6 m6 q
  have F:=q.f4
  go_wp2_with fail
  go_light
  refine Mf.retb (C:=tyK) (d:=8) Tryz.results206 rfl rfl (((((q.p24 ⟨#[]⟩).p22 1).p25 (sl ((sz w6)+1) 1)).ne' (sz w6) x6.a).l1 ((sz w6)+1) 16 (t.pos i) 1 0 ⟨#[]⟩ hposI (by decide) (fun e=>Gr.of_ref ⟨.inr rfl,_,rfl,hc6 e⟩)) 4 rfl (fun _=>⟨by show(13:Int)≤16;decide,by show(16:Int)≤18;decide⟩) (by omega) ?_ (by unfold gRef;unfold gMut;exact evt)
  simp[set11,World.setCell_alloc_past,F,Nat.lt_succ_of_lt]
 ·go_wp2_with fail
  refine q.nd (hT · (q.bd HB.out (by decide))) ?_
  clear q F
  intro w7 x7 i7 k7 a7 y7 hc7 ok7 m7 q
  have F:=q.f4
  go_wp2_with fail
  go_light
  refine Mf.retb (C:=tyK) (d:=8) Tryz.results206 rfl rfl (((((q.p24 ⟨#[]⟩).p22 0).p25 (sl ((sz w7)+1) 1)).ne' (sz w7) x7.a).l1 ((sz w7)+1) 16 (t.pos i) 0 0 ⟨#[]⟩ hposI (by decide) (fun e=>Gr.of_ref ⟨.inl rfl,_,rfl,hc7 e⟩)) 4 rfl (fun _=>⟨by show(13:Int)≤16;decide,by show(16:Int)≤18;decide⟩) (by omega) ?_ (by unfold gRef;unfold gMut;exact evt)
  simp[set11,World.setCell_alloc_past,F,Nat.lt_succ_of_lt]
end Go.Proofs.YtdplogkmkgekdaaGreatDoor
namespace Go.Proofs.YtdplogkmkgekdaaGreatDoor
open Go.RowKit
theorem refFsl {N:Nat} (hT:tyF 3 N) (hLi:noF 3 204 True 8 (fun x=>x=19) (fun t _=>gLife t)) {w:World} {rb tb cap i:Nat} {t:Tk} {k a:Int} (h:Rd w rb tb cap t i k a) (hlt:i+1<t.len) (HB:Hid (∀i' k' r',(k'=0→i<i')→r'<64→Bd N t i' k' r')) (hd:isB t i k 0 ⟨#[38,38]⟩=false) (hq:kindB t (i+1) k 0 4=true):Calls Tryz.prog 206 #[.pointer (some ⟨rb,0,none⟩)] w (NodeF 3 w rb tb cap t i k a True 8 tyK (fun n=>gRef t (gG t n 0))):=by
 have hl:=h.l
 have hpos:(t.pos i:Int)≤6000:=by have:=h.good.posb i;omega
 have hposI:(0:Int)≤(t.pos i:Int)∧(t.pos i:Int)≤7000:=by have:=h.good.posb i;omega
 have hposJ:(0:Int)≤(t.pos i:Int)+1∧(t.pos i:Int)+1≤7000:=by omega
 go_enter Tryz.func206,Tryz.ntmps206
 have hfd4:=fld46_4
 have hi:(i:Int)<(t.len:Int):=by have:=h.lt;omega
 have hfew:(t.len:Int)≤6001:=by have:=h.good.few;omega
 have q:=Mf.start (wt:=3) h
 go_wp2_with fail
 refine(q.ne' (sz w) (zeroC)).lf (node20 · 16) ?_
 clear q
 intro w1 q
 have F:=q.f1
 go_wp2_with fail
 refine(q.ne' (sz w1) (nk 16 (t.pos i) nl)).lf (node20 · 16) ?_
 clear q F
 intro w2 q
 have F:=q.f2
 go_wp2_with fail
 refine(q.ne' (sz w2) (nk 16 (↑(t.pos i)+1) nl)).lf (is41 · 0 (by decide) _) ?_
 clear q F
 intro w3 q
 have F:=q.f3
 have r1:=q.st.rd.r1
 have fr1:=q.st.rd.fz 1
 have lr:=q.st.rd.l
 go_wp2_with fail
 refine((q.goI (j':=i+1) hlt (Nat.lt_succ_self _)).ne' (sz w3) (zeroC)).lf (kind22 · 0 (by decide) 4) ?_
 clear q F r1 fr1 lr
 intro w4 q
 have F:=q.f4
 go_wp2_with fail
 refine(hLi q.st.rd).mono ?_
 rintro e w5 ⟨q5,p5,n5,m5,s5,ko5,kl5,kc5,i5,k5,a5,rfl,hx5,hn5,hc5,hz5,y5,hy5,ml5⟩
 have e5:=life_ev hy5 ml5
 have hnm5:=hn5.name
 replace q:=q.nxm hx5
 clear hx5 hn5 hc5 hz5
 replace F:=q.f4
 go_wp2_with fail
 refine(q.p04 s5).et (eat42 · _) ?_
 clear q F
 intro w6 b6 i6 hE6 m6 q
 have F:=q.f4
 go_wp2_with fail
 ·go_wp2_with fail
  replace q:=q.p02 1
  refine q.nd (hT · (q.bd HB.out (by decide))) ?_
  clear q F
  intro w7 x7 i7 k7 a7 y7 hc7 ok7 m7 q
  have F:=q.f4
  go_wp2_with fail
  go_light
  refine Mf.retb (C:=tyK) (d:=8) Tryz.results206 rfl rfl (((((q.p24 s5).p22 1).p25 (sl ((sz w7)+1) 1)).ne' (sz w7) x7.a).l1 ((sz w7)+1) 16 (t.pos i) 1 0 s5 hposI hnm5 (fun e=>Gr.of_ref ⟨.inr rfl,_,rfl,hc7 e⟩)) 4 rfl (fun _=>⟨by show(13:Int)≤16;decide,by show(16:Int)≤18;decide⟩) (by omega) ?_ (by unfold gRef;unfold gMut;exact evt)
  simp[set11,World.setCell_alloc_past,F,Nat.lt_succ_of_lt]
 ·go_wp2_with fail
  refine q.nd (hT · (q.bd HB.out (by decide))) ?_
  clear q F
  intro w8 x8 i8 k8 a8 y8 hc8 ok8 m8 q
  have F:=q.f4
  go_wp2_with fail
  go_light
  refine Mf.retb (C:=tyK) (d:=8) Tryz.results206 rfl rfl (((((q.p24 s5).p22 0).p25 (sl ((sz w8)+1) 1)).ne' (sz w8) x8.a).l1 ((sz w8)+1) 16 (t.pos i) 0 0 s5 hposI hnm5 (fun e=>Gr.of_ref ⟨.inl rfl,_,rfl,hc8 e⟩)) 4 rfl (fun _=>⟨by show(13:Int)≤16;decide,by show(16:Int)≤18;decide⟩) (by omega) ?_ (by unfold gRef;unfold gMut;exact evt)
  simp[set11,World.setCell_alloc_past,F,Nat.lt_succ_of_lt]
end Go.Proofs.YtdplogkmkgekdaaGreatDoor
namespace Go.Proofs.YtdplogkmkgekdaaGreatDoor
open Go.RowKit
theorem refFdn {N:Nat} (hT:tyF 3 N) (hLi:noF 3 204 True 8 (fun x=>x=19) (fun t _=>gLife t)) {w:World} {rb tb cap i:Nat} {t:Tk} {k a:Int} (h:Rd w rb tb cap t i k a) (hlt:i+1<t.len) (HB:Hid (∀i' k' r',(k'=0→i<i')→r'<64→Bd N t i' k' r')) (hd:isB t i k 0 ⟨#[38,38]⟩=true) (hq:kindB t (i+1) k 0 4=false):Calls Tryz.prog 206 #[.pointer (some ⟨rb,0,none⟩)] w (NodeF 3 w rb tb cap t i k a True 8 tyK (fun n=>gRef t (gG t n 0))):=by
 have hl:=h.l
 have hpos:(t.pos i:Int)≤6000:=by have:=h.good.posb i;omega
 have hposI:(0:Int)≤(t.pos i:Int)∧(t.pos i:Int)≤7000:=by have:=h.good.posb i;omega
 have hposJ:(0:Int)≤(t.pos i:Int)+1∧(t.pos i:Int)+1≤7000:=by omega
 go_enter Tryz.func206,Tryz.ntmps206
 have hfd4:=fld46_4
 have hi:(i:Int)<(t.len:Int):=by have:=h.lt;omega
 have hfew:(t.len:Int)≤6001:=by have:=h.good.few;omega
 have q:=Mf.start (wt:=3) h
 go_wp2_with fail
 refine(q.ne' (sz w) (zeroC)).lf (node20 · 16) ?_
 clear q
 intro w1 q
 have F:=q.f1
 go_wp2_with fail
 refine(q.ne' (sz w1) (nk 16 (t.pos i) nl)).lf (node20 · 16) ?_
 clear q F
 intro w2 q
 have F:=q.f2
 go_wp2_with fail
 refine(q.ne' (sz w2) (nk 16 (↑(t.pos i)+1) nl)).lf (is41 · 0 (by decide) _) ?_
 clear q F
 intro w3 q
 have F:=q.f3
 have r1:=q.st.rd.r1
 have fr1:=q.st.rd.fz 1
 have lr:=q.st.rd.l
 go_wp2_with fail
 refine((q.goI (j':=i+1) hlt (Nat.lt_succ_self _)).ne' (sz w3) (zeroC)).lf (kind22 · 0 (by decide) 4) ?_
 clear q F r1 fr1 lr
 intro w4 q
 have F:=q.f4
 go_wp2_with fail
 refine q.et (eat42 · _) ?_
 clear q F
 intro w5 b5 i5 hE5 m5 q
 have F:=q.f4
 go_wp2_with fail
 ·go_wp2_with fail
  replace q:=q.p02 1
  refine q.nd (hT · (q.bd HB.out (by decide))) ?_
  clear q F
  intro w6 x6 i6 k6 a6 y6 hc6 ok6 m6 q
  have F:=q.f4
  have g1_m:=Nat.lt_succ_of_lt (q.fa 0 rfl).2.2.1;have g2_m:_<(sz w6)+2:=Nat.lt_succ_of_lt g1_m;have g3_m:_<(sz w6)+3:=Nat.lt_succ_of_lt g2_m
  have g1_v:=Nat.lt_succ_of_lt (q.fa 1 rfl).2.2.1;have g2_v:_<(sz w6)+2:=Nat.lt_succ_of_lt g1_v;have g3_v:_<(sz w6)+3:=Nat.lt_succ_of_lt g2_v
  have g1_n:=Nat.lt_succ_of_lt (q.fa 2 rfl).2.2.1;have g2_n:_<(sz w6)+2:=Nat.lt_succ_of_lt g1_n;have g3_n:_<(sz w6)+3:=Nat.lt_succ_of_lt g2_n
  have g1_z:=Nat.lt_succ_of_lt (q.fa 3 rfl).2.2.1;have g2_z:_<(sz w6)+2:=Nat.lt_succ_of_lt g1_z;have g3_z:_<(sz w6)+3:=Nat.lt_succ_of_lt g2_z
  go_wp2_with fail
  go_light
  refine Mf.retb (C:=tyK) (d:=8) Tryz.results206 rfl rfl (((((((q.p14 ⟨#[]⟩).p12 1).p15 (sl ((sz w6)+1) 1)).p25 (sl ((sz w6)+2) 1)).ne' (sz w6) x6.a).l1 ((sz w6)+1) 16 (↑(t.pos i)+1) 1 0 ⟨#[]⟩ hposJ (by decide) (fun e=>Gr.of_ref ⟨.inr rfl,_,rfl,hc6 e⟩)).l1 ((sz w6)+2) 16 (t.pos i) 0 0 ⟨#[]⟩ hposI (by decide) (fun _=>Gr.of_ref ⟨.inl rfl,_,rfl,⟨by show(13:Int)≤16;decide,by show(16:Int)≤18;decide⟩⟩)) 4 rfl (fun _=>⟨by show(13:Int)≤16;decide,by show(16:Int)≤18;decide⟩) (by omega) ?_ (by unfold gRef;unfold gMut;exact evt)
  have l_m:=(q.fa 0 rfl).2.2.1
  have l_v:=(q.fa 1 rfl).2.2.1
  have l_n:=(q.fa 2 rfl).2.2.1
  have l_z:=(q.fa 3 rfl).2.2.1
  simp[set11,World.setCell_alloc_past,l_m,(Nat.lt_succ_of_lt l_m),(Nat.lt_succ_of_lt (Nat.lt_succ_of_lt l_m)),l_v,(Nat.lt_succ_of_lt l_v),(Nat.lt_succ_of_lt (Nat.lt_succ_of_lt l_v)),l_n,(Nat.lt_succ_of_lt l_n),(Nat.lt_succ_of_lt (Nat.lt_succ_of_lt l_n)),l_z,(Nat.lt_succ_of_lt l_z),(Nat.lt_succ_of_lt (Nat.lt_succ_of_lt l_z))]
 ·go_wp2_with fail
  refine q.nd (hT · (q.bd HB.out (by decide))) ?_
  clear q F
  intro w7 x7 i7 k7 a7 y7 hc7 ok7 m7 q
  have F:=q.f4
  have g1_m:=Nat.lt_succ_of_lt (q.fa 0 rfl).2.2.1;have g2_m:_<(sz w7)+2:=Nat.lt_succ_of_lt g1_m;have g3_m:_<(sz w7)+3:=Nat.lt_succ_of_lt g2_m
  have g1_v:=Nat.lt_succ_of_lt (q.fa 1 rfl).2.2.1;have g2_v:_<(sz w7)+2:=Nat.lt_succ_of_lt g1_v;have g3_v:_<(sz w7)+3:=Nat.lt_succ_of_lt g2_v
  have g1_n:=Nat.lt_succ_of_lt (q.fa 2 rfl).2.2.1;have g2_n:_<(sz w7)+2:=Nat.lt_succ_of_lt g1_n;have g3_n:_<(sz w7)+3:=Nat.lt_succ_of_lt g2_n
  have g1_z:=Nat.lt_succ_of_lt (q.fa 3 rfl).2.2.1;have g2_z:_<(sz w7)+2:=Nat.lt_succ_of_lt g1_z;have g3_z:_<(sz w7)+3:=Nat.lt_succ_of_lt g2_z
  go_wp2_with fail
  go_light
  refine Mf.retb (C:=tyK) (d:=8) Tryz.results206 rfl rfl (((((((q.p14 ⟨#[]⟩).p12 0).p15 (sl ((sz w7)+1) 1)).p25 (sl ((sz w7)+2) 1)).ne' (sz w7) x7.a).l1 ((sz w7)+1) 16 (↑(t.pos i)+1) 0 0 ⟨#[]⟩ hposJ (by decide) (fun e=>Gr.of_ref ⟨.inl rfl,_,rfl,hc7 e⟩)).l1 ((sz w7)+2) 16 (t.pos i) 0 0 ⟨#[]⟩ hposI (by decide) (fun _=>Gr.of_ref ⟨.inl rfl,_,rfl,⟨by show(13:Int)≤16;decide,by show(16:Int)≤18;decide⟩⟩)) 4 rfl (fun _=>⟨by show(13:Int)≤16;decide,by show(16:Int)≤18;decide⟩) (by omega) ?_ (by unfold gRef;unfold gMut;exact evt)
  have l_m:=(q.fa 0 rfl).2.2.1
  have l_v:=(q.fa 1 rfl).2.2.1
  have l_n:=(q.fa 2 rfl).2.2.1
  have l_z:=(q.fa 3 rfl).2.2.1
  simp[set11,World.setCell_alloc_past,l_m,(Nat.lt_succ_of_lt l_m),(Nat.lt_succ_of_lt (Nat.lt_succ_of_lt l_m)),l_v,(Nat.lt_succ_of_lt l_v),(Nat.lt_succ_of_lt (Nat.lt_succ_of_lt l_v)),l_n,(Nat.lt_succ_of_lt l_n),(Nat.lt_succ_of_lt (Nat.lt_succ_of_lt l_n)),l_z,(Nat.lt_succ_of_lt l_z),(Nat.lt_succ_of_lt (Nat.lt_succ_of_lt l_z))]
end Go.Proofs.YtdplogkmkgekdaaGreatDoor
