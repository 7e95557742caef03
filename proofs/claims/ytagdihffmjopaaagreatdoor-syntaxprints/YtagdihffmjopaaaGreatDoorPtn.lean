/- The document's writer: items. -/
import Derived.Test.YtagdihffmjopaaaGreatDoorPtj
namespace Go.Proofs.YtagdihffmjopaaaGreatDoor
set_option linter.all false
open Go.RowKit
section
variable{B:Nat} {w0 w:World} {wb f:Nat} {bs:List UInt8} {kind pos n m:Int} {name:ByteArray} {ko:Option Addr} {kl kc:Nat}
theorem lab8 {k p n m:Int} {s:ByteArray} {v:Value} (h:labOf (nodeC k p n m s v).toList=8∨labOf (nodeC k p n m s v).toList=208):k=8∧m=0:=by
 have h2:lab k n m s (lenOf v)=8∨lab k n m s (lenOf v)=208:=h
 unfold lab at h2
 split at h2
 ·split at h2<;>split at h2
  ·exact⟨‹_›,‹_›⟩
  ·omega
  ·exact⟨‹_›,‹_›⟩
  ·omega
 ·split at h2
  ·split at h2<;>omega
  ·split at h2
   ·split at h2
    ·split at h2<;>omega
    ·omega
   ·split at h2
    ·split at h2<;>omega
    ·split at h2<;>omega
theorem fn74_any (hRs:∀g,g≤f→RN B w0 wb g) (ht:Tab B w0) (hx:Nw B w0 (f+1) (nodeC 8 pos n m name (.slice ko kl kc)).toList):∃F,tok (f+1) w0 (nodeC 8 pos n m name (.slice ko kl kc)).toList=pWhen (m==1) [[112,117,98]]++F∧Wc B w0 wb 74 (nodeC 8 pos n m name (.slice ko kl kc)) F:=by
 obtain⟨vs,hkl,hr,hg,htok,hs,hc⟩:=hx.opened
 obtain⟨-,ps,y1,rest,eks,hpl,-,-,hrl,-⟩:=hg.fn rfl
 have hlen:kl=ps.length+2+rest.length:=by
  have h9:=congrArg List.length eks
  simp at h9;omega
 have hz:∀z:Nat,n=(z:Int)→ps.length=z:=fun z hz=>by omega
 have hF:tok (f+1) w0 (nodeC 8 pos n m name (.slice ko kl kc)).toList=pWhen (m==1) [[112,117,98]]++_:=htok
 refine⟨_,hF,?_⟩
 by_cases h0:rest.length=0
 ·exact e74_8a hRs ht (fun z h=>by have:=hz z h;omega) hx hF
 ·exact e74_8b hRs ht (fun z h=>by have:=hz z h;omega) hx hF
theorem fn_open (hRs:∀g,g≤f→RN B w0 wb g) (ht:Tab B w0) (hx:Nw B w0 f (nodeC kind pos n m name (.slice ko kl kc)).toList) (h1:labOf (nodeC kind pos n m name (.slice ko kl kc)).toList=8∨labOf (nodeC kind pos n m name (.slice ko kl kc)).toList=208):∃T,Wc B w0 wb 74 (nodeC kind pos n m name (.slice ko kl kc)) T∧tok f w0 (nodeC kind pos n m name (.slice ko kl kc)).toList=T:=by
 obtain⟨rfl,rfl⟩:=lab8 h1
 cases f with
 |zero=>exact absurd hx (fun x=>x)
 |succ f=>
  obtain⟨F,h1,h2⟩:=fn74_any (fun g hg=>@hRs g (Nat.le_succ_of_le hg)) ht hx
  exact⟨F,h2,h1⟩
def tR (ks:List Kd) (i:Nat):List (List UInt8):=((ks.drop i).map (fun k:Kd=>k.t++[[59]])).flatten
theorem tR_step {k:Kd} {ks:List Kd} {i:Nat} (h:ks[i]? =some k):tR ks i=(k.t++[[59]])++tR ks (i+1):=by
 have e:ks.drop i=k::ks.drop (i+1):=by
  rw[List.drop_eq_getElem_cons (List.getElem?_eq_some_iff.1 h).1,(List.getElem?_eq_some_iff.1 h).2]
 unfold tR
 rw[e]
 simp
theorem tR_end {ks:List Kd}:tR ks ks.length=[]:=by unfold tR;rw[List.drop_of_length_le (Nat.le_refl _)];rfl
def aR (ks:List Kd) (i:Nat):List (List UInt8):=pAll (ks.drop i)
theorem aR_step {k:Kd} {ks:List Kd} {i:Nat} (h:ks[i]? =some k):aR ks i=k.t++aR ks (i+1):=pAll_step h
theorem aR_end {ks:List Kd}:aR ks ks.length=[]:=by unfold aR;rw[List.drop_of_length_le (Nat.le_refl _)];rfl
set_option maxRecDepth 100000 in
set_option maxHeartbeats 2000000 in
theorem e32_2 (hRs:∀g,g≤f→RN B w0 wb g) (ht:Tab B w0) (hx:Nw B w0 (f+1) (nodeC 2 pos n m name (.slice ko kl kc)).toList):Wc B w0 wb 32 (nodeC 2 pos n m name (.slice ko kl kc)) (tok (f+1) w0 (nodeC 2 pos n m name (.slice ko kl kc)).toList):=by
 intro w bs h hne hf
 have hR:RN B w0 wb f:=@hRs f (Nat.le_refl f)
 have hcap:=hx.cap
 obtain⟨vs,hkl,hr,hg,htok,hs,hc⟩:=hx.opened
 rw[htok] at hf⊢
 clear htok hx
 obtain⟨rfl,hp2⟩:=hg.use rfl
 have HNT:Hid (NTl name.data.toList):=hp2.ntl
 have e:asm 2 n 0 (name:ByteArray).data.toList (vs.map (kdAt f w0))=[117,115,101]::pth (tl name)::[59]::[]:=by
  rfl
 rw[e] at hf⊢
 clear e
 have q:=(Sw.start h hne hf).box (nodeC 2 pos n 0 name (.slice ko kl kc))
 clear h hne hf hr hg hc hkl hcap hRs hp2
 have F:=q.f1
 go_enter Tryz.func32,Tryz.ntmps32
 go_wp2_with (first
  |(go_at_call 33;refine q.put ?_;clear q F;intro w2 q;have F:=q.f1)
  |(go_at_call 72;refine q.path hs HNT.out ?_;clear q F;intro w2 q;have F:=q.f1))
 all_goals(go_end0;exact q.done (rfl))
set_option maxRecDepth 100000 in
set_option maxHeartbeats 2000000 in
theorem f32_3_0 {T:List (List UInt8)} (HP:Wc B w0 wb 73 (nodeC 3 pos n 0 name (.slice ko kl kc)) T):Wc B w0 wb 32 (nodeC 3 pos n 0 name (.slice ko kl kc)) (T):=by
 intro w bs h hne hf
 have q:=((Sw.start h hne hf).as (rest':=T++[]) (by simp)).box (nodeC 3 pos n 0 name (.slice ko kl kc))
 have H:Hid (Wc B w0 wb 73 (nodeC 3 pos n 0 name (.slice ko kl kc)) T):=HP
 clear h hne hf HP
 have F:=q.f1
 go_enter Tryz.func32,Tryz.ntmps32
 go_wp2_with (first|(go_at_call 73;refine q.go (fun a1 a2 a3=>H.out a1 a2 a3) ?_;clear q F;intro w2 q;have F:=q.f1)|(go_at_call 33;refine q.put ?_;clear q F;intro w2 q;have F:=q.f1))
 go_end0
 exact q.done (by simp)
set_option maxRecDepth 100000 in
set_option maxHeartbeats 2000000 in
theorem f32_3_1 {T:List (List UInt8)} (HP:Wc B w0 wb 73 (nodeC 3 pos n 1 name (.slice ko kl kc)) T):Wc B w0 wb 32 (nodeC 3 pos n 1 name (.slice ko kl kc)) ([[112,117,98]]++T):=by
 intro w bs h hne hf
 have q:=((Sw.start h hne hf).as (rest':=[112,117,98]::(T++[])) (by simp)).box (nodeC 3 pos n 1 name (.slice ko kl kc))
 have H:Hid (Wc B w0 wb 73 (nodeC 3 pos n 1 name (.slice ko kl kc)) T):=HP
 clear h hne hf HP
 have F:=q.f1
 go_enter Tryz.func32,Tryz.ntmps32
 go_wp2_with (first|(go_at_call 73;refine q.go (fun a1 a2 a3=>H.out a1 a2 a3) ?_;clear q F;intro w2 q;have F:=q.f1)|(go_at_call 33;refine q.put ?_;clear q F;intro w2 q;have F:=q.f1))
 go_end0
 exact q.done (by simp)
set_option maxRecDepth 100000 in
set_option maxHeartbeats 2000000 in
theorem f32_3_2 {T:List (List UInt8)} (HP:Wc B w0 wb 73 (nodeC 3 pos n 2 name (.slice ko kl kc)) T):Wc B w0 wb 32 (nodeC 3 pos n 2 name (.slice ko kl kc)) (T):=by
 intro w bs h hne hf
 have q:=((Sw.start h hne hf).as (rest':=T++[]) (by simp)).box (nodeC 3 pos n 2 name (.slice ko kl kc))
 have H:Hid (Wc B w0 wb 73 (nodeC 3 pos n 2 name (.slice ko kl kc)) T):=HP
 clear h hne hf HP
 have F:=q.f1
 go_enter Tryz.func32,Tryz.ntmps32
 go_wp2_with (first|(go_at_call 73;refine q.go (fun a1 a2 a3=>H.out a1 a2 a3) ?_;clear q F;intro w2 q;have F:=q.f1)|(go_at_call 33;refine q.put ?_;clear q F;intro w2 q;have F:=q.f1))
 go_end0
 exact q.done (by simp)
set_option maxRecDepth 100000 in
set_option maxHeartbeats 2000000 in
theorem f32_3_3 {T:List (List UInt8)} (HP:Wc B w0 wb 73 (nodeC 3 pos n 3 name (.slice ko kl kc)) T):Wc B w0 wb 32 (nodeC 3 pos n 3 name (.slice ko kl kc)) ([[112,117,98]]++T):=by
 intro w bs h hne hf
 have q:=((Sw.start h hne hf).as (rest':=[112,117,98]::(T++[])) (by simp)).box (nodeC 3 pos n 3 name (.slice ko kl kc))
 have H:Hid (Wc B w0 wb 73 (nodeC 3 pos n 3 name (.slice ko kl kc)) T):=HP
 clear h hne hf HP
 have F:=q.f1
 go_enter Tryz.func32,Tryz.ntmps32
 go_wp2_with (first|(go_at_call 73;refine q.go (fun a1 a2 a3=>H.out a1 a2 a3) ?_;clear q F;intro w2 q;have F:=q.f1)|(go_at_call 33;refine q.put ?_;clear q F;intro w2 q;have F:=q.f1))
 go_end0
 exact q.done (by simp)
set_option maxRecDepth 100000 in
set_option maxHeartbeats 2000000 in
theorem f32_8_0 {T:List (List UInt8)} (HP:Wc B w0 wb 74 (nodeC 8 pos n 0 name (.slice ko kl kc)) T):Wc B w0 wb 32 (nodeC 8 pos n 0 name (.slice ko kl kc)) (T):=by
 intro w bs h hne hf
 have q:=((Sw.start h hne hf).as (rest':=T++[]) (by simp)).box (nodeC 8 pos n 0 name (.slice ko kl kc))
 have H:Hid (Wc B w0 wb 74 (nodeC 8 pos n 0 name (.slice ko kl kc)) T):=HP
 clear h hne hf HP
 have F:=q.f1
 go_enter Tryz.func32,Tryz.ntmps32
 go_wp2_with (first|(go_at_call 74;refine q.go (fun a1 a2 a3=>H.out a1 a2 a3) ?_;clear q F;intro w2 q;have F:=q.f1)|(go_at_call 33;refine q.put ?_;clear q F;intro w2 q;have F:=q.f1))
 go_end0
 exact q.done (by simp)
set_option maxRecDepth 100000 in
set_option maxHeartbeats 2000000 in
theorem f32_8_1 {T:List (List UInt8)} (HP:Wc B w0 wb 74 (nodeC 8 pos n 1 name (.slice ko kl kc)) T):Wc B w0 wb 32 (nodeC 8 pos n 1 name (.slice ko kl kc)) ([[112,117,98]]++T):=by
 intro w bs h hne hf
 have q:=((Sw.start h hne hf).as (rest':=[112,117,98]::(T++[])) (by simp)).box (nodeC 8 pos n 1 name (.slice ko kl kc))
 have H:Hid (Wc B w0 wb 74 (nodeC 8 pos n 1 name (.slice ko kl kc)) T):=HP
 clear h hne hf HP
 have F:=q.f1
 go_enter Tryz.func32,Tryz.ntmps32
 go_wp2_with (first|(go_at_call 74;refine q.go (fun a1 a2 a3=>H.out a1 a2 a3) ?_;clear q F;intro w2 q;have F:=q.f1)|(go_at_call 33;refine q.put ?_;clear q F;intro w2 q;have F:=q.f1))
 go_end0
 exact q.done (by simp)
set_option maxRecDepth 100000 in
set_option maxHeartbeats 2000000 in
theorem e32_60 (hRs:∀g,g≤f→RN B w0 wb g) (ht:Tab B w0) (hm1:m=0) (hx:Nw B w0 (f+1) (nodeC 6 pos n m name (.slice ko kl kc)).toList):Wc B w0 wb 32 (nodeC 6 pos n m name (.slice ko kl kc)) (tok (f+1) w0 (nodeC 6 pos n m name (.slice ko kl kc)).toList):=by
 intro w bs h hne hf
 have hR:RN B w0 wb f:=@hRs f (Nat.le_refl f)
 have hcap:=hx.cap
 obtain⟨vs,hkl,hr,hg,htok,hs,hc⟩:=hx.opened
 rw[htok] at hf⊢
 clear htok hx
 obtain rfl:m=0:=hm1
 have hk:∀x∈vs,labOf x=8∨labOf x=208:=fun x hx=>.inl ((hg.trait rfl).2 _ (List.mem_map.2 ⟨x,hx,rfl⟩))
 have hfew:=hr.few
 obtain⟨us,hus⟩:∃us,us=vs:=⟨_,rfl⟩
 subst hus
 have e:asm 6 n 0 (name:ByteArray).data.toList (us.map (kdAt f w0))=[[116,114,97,105,116],tl name,[123]]++(tR (us.map (kdAt f w0)) 0++[[125]]):=by
  show pWhen ((0:Int)==1) [[112,117,98]]++([116,114,97,105,116]::tl name::[123]::(((us.map (kdAt f w0)).map (fun k:Kd=>k.t++[[59]])).flatten++[[125]]))=_
  simp[pWhen,tR]
 rw[e] at hf⊢
 clear e
 have q:=(Sw.start h hne hf).box (nodeC 6 pos n 0 name (.slice ko kl kc))
 have HL:Hid (NR B w0 f ko us∧(∀x∈us,labOf x=8∨labOf x=208)∧us.length=kl):=⟨hr,hk,hkl⟩
 have HRs:Hid (∀g,g≤f→RN B w0 wb g):=fun g hg=>@hRs g hg
 have HTB:Hid (Tab B w0):=ht
 subst hkl
 clear h hne hf hr hg hc hcap hRs hk
 have F:=q.f1
 obtain⟨nb,hnb⟩:∃nb,nb=w.heap.size:=⟨_,rfl⟩
 go_enter Tryz.func32,Tryz.ntmps32
 go_wp2_with (first
  |(go_at_call 31;refine q.puts (ss:=[⟨#[116,114,97,105,116]⟩,name,⟨#[123]⟩]) (hg:=by first|rfl|simp) (ho:=rfl) (hX:=rfl) (hn:=rfl) (hl:=by decide) ?_;clear q F;intro w2 q;have F:=q.f1)
  |(go_at_call 33;refine q.put ?_;clear q F;intro w2 q;have F:=q.f1))
 rw[←hnb] at q F⊢
 clear hnb
 go_loopg [49] us.length (fun gg u wr=>∃(idx:Nat) (ts:List (List UInt8)),gg=us.length - idx∧u=.int .i64 idx∧idx≤us.length∧Hid (ts++tR (us.map (kdAt f w0)) idx=([[116,114,97,105,116],tl name,[123]])++tR (us.map (kdAt f w0)) 0)∧Hid (Sw B w0 w wb bs ts (tR (us.map (kdAt f w0)) idx++[[125]]) wr [(nb,(nodeC 6 pos n 0 name (.slice ko us.length kc)))]))
 case atStart=>exact⟨0,_,rfl,rfl,Nat.zero_le _,(by show _=_;simp[tR]),q⟩
 case round=>
  clear q F
  obtain⟨idx,ts,hgk,rfl,hidx,HT,Q⟩:=hrel
  have HG:Hid (gk=us.length - idx):=hgk
  clear hgk
  by_cases hlt:idx<us.length
  ·have hltI:(idx:Int)<(us.length:Int):=by omega
   obtain⟨x,hx⟩:∃x,us[idx]? =some x:=⟨_,List.getElem?_eq_getElem hlt⟩
   obtain⟨gx,ox,hax,hgB,hcell⟩:=HL.out.1.cell idx x hx
   have hmem:=List.mem_of_getElem? hx
   obtain⟨kind2,pos2,n2,m2,name2,ko2,kl2,kc2,rfl,-,-⟩:=(HL.out.1.all x hmem).fields
   have HX:Hid (Nw B w0 f (nodeC kind2 pos2 n2 m2 name2 (.slice ko2 kl2 kc2)).toList∧(labOf (nodeC kind2 pos2 n2 m2 name2 (.slice ko2 kl2 kc2)).toList=8∨labOf (nodeC kind2 pos2 n2 m2 name2 (.slice ko2 kl2 kc2)).toList=208)∧(us.map (kdAt f w0))[idx]? =some (kdAt f w0 (nodeC kind2 pos2 n2 m2 name2 (.slice ko2 kl2 kc2)).toList)):=⟨HL.out.1.all _ hmem,HL.out.2.1 _ hmem,by rw[List.getElem?_map,hx];rfl⟩
   have lift:∀j,j<11→wr.cell? ⟨gx,ox+idx*11+j,none⟩=(nodeC kind2 pos2 n2 m2 name2 (.slice ko2 kl2 kc2)).toList[j]? :=fun j hj=>(Q.out.wr.bel.cell (p:=⟨gx,ox+idx*11+j,none⟩) hgB).trans (hcell j hj)
   have lgx:gx<wr.heap.size:=Nat.lt_of_lt_of_le hgB Q.out.wr.base
   subst hax
   have e0:=lift 0 (by decide)
   have e1:=lift 1 (by decide)
   have e2:=lift 2 (by decide)
   have e3:=lift 3 (by decide)
   have e4:=lift 4 (by decide)
   have e5:=lift 5 (by decide)
   have e6:=lift 6 (by decide)
   have e7:=lift 7 (by decide)
   have e8:=lift 8 (by decide)
   have e9:=lift 9 (by decide)
   have e10:=lift 10 (by decide)
   simp only[Nat.add_zero,Nat.zero_add] at e0 e1 e2 e3 e4 e5 e6 e7 e8 e9 e10
   clear lift hcell hx hmem
   obtain⟨T,HW',hT⟩:=fn_open HRs.out HTB.out HX.out.1 HX.out.2.1
   have HW:Hid (Wc B w0 wb 74 (nodeC kind2 pos2 n2 m2 name2 (.slice ko2 kl2 kc2)) T):=HW'
   clear HW'
   obtain⟨KT,hKT⟩:∃KT,KT=T++[[59]]:=⟨_,rfl⟩
   have HKT:Hid (tok f w0 (nodeC kind2 pos2 n2 m2 name2 (.slice ko2 kl2 kc2)).toList++[[59]]=KT):=by show _=_;rw[hKT,hT]
   clear hT
   rcases Nat.eq_zero_or_pos idx with h0|h0
   ·subst h0
    simp only[Nat.zero_mul,Nat.add_zero,Nat.zero_add] at e0 e1 e2 e3 e4 e5 e6 e7 e8 e9 e10
    have st:tR (us.map (kdAt f w0)) 0=KT++(tR (us.map (kdAt f w0)) (0+1)):=by rw[tR_step HX.out.2.2];exact congrArg (· ++_) HKT.out
    have HE:Hid (ts++([]++(KT++tR (us.map (kdAt f w0)) (0+1)))=([[116,114,97,105,116],tl name,[123]])++tR (us.map (kdAt f w0)) 0):=by show _=_;rw[←HT.out,st];simp
    have q:=((Q.out.as (rest':=T++([59]::(tR (us.map (kdAt f w0)) (0+1)++[[125]]))) (by rw[st,hKT];simp)).box (nodeC kind2 pos2 n2 m2 name2 (.slice ko2 kl2 kc2)))
    have HE2:Hid (ts++((T)++[[59]]++tR (us.map (kdAt f w0)) (0+1))=([[116,114,97,105,116],tl name,[123]])++tR (us.map (kdAt f w0)) 0):=by show _=_;rw[←HE.out,hKT];simp
    clear st hKT
    have F:=q.f1
    go_wp2_with (first
     |(go_at_call 74;refine q.go (fun a1 a2 a3=>HW.out a1 a2 a3) ?_;clear q F;intro w2 q;have F:=q.f1)
     |(go_at_call 33;refine q.put ?_;clear q F;intro w2 q;have F:=q.f1))
    go_roundg (us.length - (0+1))
    case measure=>rw[HG.out];omega
    case rel=>exact⟨0+1,_,rfl,by go_num,hlt,(by show _=_;have:=HE2.out;simpa using this),q.pop⟩
   ·have hI:(0:Int)<(idx:Int):=by omega
    have st:tR (us.map (kdAt f w0)) idx=KT++(tR (us.map (kdAt f w0)) (idx+1)):=by rw[tR_step HX.out.2.2];exact congrArg (· ++_) HKT.out
    have HE:Hid (ts++([]++(KT++tR (us.map (kdAt f w0)) (idx+1)))=([[116,114,97,105,116],tl name,[123]])++tR (us.map (kdAt f w0)) 0):=by show _=_;rw[←HT.out,st];simp
    have q:=((Q.out.as (rest':=T++([59]::(tR (us.map (kdAt f w0)) (idx+1)++[[125]]))) (by rw[st,hKT];simp)).box (nodeC kind2 pos2 n2 m2 name2 (.slice ko2 kl2 kc2)))
    have HE2:Hid (ts++((T)++[[59]]++tR (us.map (kdAt f w0)) (idx+1))=([[116,114,97,105,116],tl name,[123]])++tR (us.map (kdAt f w0)) 0):=by show _=_;rw[←HE.out,hKT];simp
    clear st hKT
    have F:=q.f1
    go_wp2_with (first
     |(go_at_call 74;refine q.go (fun a1 a2 a3=>HW.out a1 a2 a3) ?_;clear q F;intro w2 q;have F:=q.f1)
     |(go_at_call 33;refine q.put ?_;clear q F;intro w2 q;have F:=q.f1))
    go_roundg (us.length - (idx+1))
    case measure=>rw[HG.out];omega
    case rel=>exact⟨idx+1,_,rfl,by go_num,hlt,(by show _=_;have:=HE2.out;simpa using this),q.pop⟩
  ·have hltI:¬(idx:Int)<(us.length:Int):=by omega
   obtain rfl:idx=us.length:=by omega
   have e:tR (us.map (kdAt f w0)) us.length=[]:=by have:=tR_end (ks:=(us.map (kdAt f w0)));rwa [List.length_map] at this
   have q:=Q.out.as (rest':=[[125]]) (by rw[e];rfl)
   have HE:Hid (ts=([[116,114,97,105,116],tl name,[123]])++tR (us.map (kdAt f w0)) 0):=by show _=_;rw[←HT.out,e,List.append_nil]
   clear e
   have F:=q.f1
   go_wp2_with (go_at_call 33;refine q.put ?_;clear q F;intro w3 q;have F:=q.f1)
   go_end0
   exact q.done (by rw[HE.out];simp[tR,aR])
set_option maxRecDepth 100000 in
set_option maxHeartbeats 2000000 in
theorem e32_61 (hRs:∀g,g≤f→RN B w0 wb g) (ht:Tab B w0) (hm1:m=1) (hx:Nw B w0 (f+1) (nodeC 6 pos n m name (.slice ko kl kc)).toList):Wc B w0 wb 32 (nodeC 6 pos n m name (.slice ko kl kc)) (tok (f+1) w0 (nodeC 6 pos n m name (.slice ko kl kc)).toList):=by
 intro w bs h hne hf
 have hR:RN B w0 wb f:=@hRs f (Nat.le_refl f)
 have hcap:=hx.cap
 obtain⟨vs,hkl,hr,hg,htok,hs,hc⟩:=hx.opened
 rw[htok] at hf⊢
 clear htok hx
 obtain rfl:m=1:=hm1
 have hk:∀x∈vs,labOf x=8∨labOf x=208:=fun x hx=>.inl ((hg.trait rfl).2 _ (List.mem_map.2 ⟨x,hx,rfl⟩))
 have hfew:=hr.few
 obtain⟨us,hus⟩:∃us,us=vs:=⟨_,rfl⟩
 subst hus
 have e:asm 6 n 1 (name:ByteArray).data.toList (us.map (kdAt f w0))=[112,117,98]::([[116,114,97,105,116],tl name,[123]]++(tR (us.map (kdAt f w0)) 0++[[125]])):=by
  show pWhen ((1:Int)==1) [[112,117,98]]++([116,114,97,105,116]::tl name::[123]::(((us.map (kdAt f w0)).map (fun k:Kd=>k.t++[[59]])).flatten++[[125]]))=_
  simp[pWhen,tR]
 rw[e] at hf⊢
 clear e
 have q:=(Sw.start h hne hf).box (nodeC 6 pos n 1 name (.slice ko kl kc))
 have HL:Hid (NR B w0 f ko us∧(∀x∈us,labOf x=8∨labOf x=208)∧us.length=kl):=⟨hr,hk,hkl⟩
 have HRs:Hid (∀g,g≤f→RN B w0 wb g):=fun g hg=>@hRs g hg
 have HTB:Hid (Tab B w0):=ht
 subst hkl
 clear h hne hf hr hg hc hcap hRs hk
 have F:=q.f1
 obtain⟨nb,hnb⟩:∃nb,nb=w.heap.size:=⟨_,rfl⟩
 go_enter Tryz.func32,Tryz.ntmps32
 go_wp2_with (first
  |(go_at_call 31;refine q.puts (ss:=[⟨#[116,114,97,105,116]⟩,name,⟨#[123]⟩]) (hg:=by first|rfl|simp) (ho:=rfl) (hX:=rfl) (hn:=rfl) (hl:=by decide) ?_;clear q F;intro w2 q;have F:=q.f1)
  |(go_at_call 33;refine q.put ?_;clear q F;intro w2 q;have F:=q.f1))
 rw[←hnb] at q F⊢
 clear hnb
 go_loopg [49] us.length (fun gg u wr=>∃(idx:Nat) (ts:List (List UInt8)),gg=us.length - idx∧u=.int .i64 idx∧idx≤us.length∧Hid (ts++tR (us.map (kdAt f w0)) idx=([112,117,98]::[[116,114,97,105,116],tl name,[123]])++tR (us.map (kdAt f w0)) 0)∧Hid (Sw B w0 w wb bs ts (tR (us.map (kdAt f w0)) idx++[[125]]) wr [(nb,(nodeC 6 pos n 1 name (.slice ko us.length kc)))]))
 case atStart=>exact⟨0,_,rfl,rfl,Nat.zero_le _,(by show _=_;simp[tR]),q⟩
 case round=>
  clear q F
  obtain⟨idx,ts,hgk,rfl,hidx,HT,Q⟩:=hrel
  have HG:Hid (gk=us.length - idx):=hgk
  clear hgk
  by_cases hlt:idx<us.length
  ·have hltI:(idx:Int)<(us.length:Int):=by omega
   obtain⟨x,hx⟩:∃x,us[idx]? =some x:=⟨_,List.getElem?_eq_getElem hlt⟩
   obtain⟨gx,ox,hax,hgB,hcell⟩:=HL.out.1.cell idx x hx
   have hmem:=List.mem_of_getElem? hx
   obtain⟨kind2,pos2,n2,m2,name2,ko2,kl2,kc2,rfl,-,-⟩:=(HL.out.1.all x hmem).fields
   have HX:Hid (Nw B w0 f (nodeC kind2 pos2 n2 m2 name2 (.slice ko2 kl2 kc2)).toList∧(labOf (nodeC kind2 pos2 n2 m2 name2 (.slice ko2 kl2 kc2)).toList=8∨labOf (nodeC kind2 pos2 n2 m2 name2 (.slice ko2 kl2 kc2)).toList=208)∧(us.map (kdAt f w0))[idx]? =some (kdAt f w0 (nodeC kind2 pos2 n2 m2 name2 (.slice ko2 kl2 kc2)).toList)):=⟨HL.out.1.all _ hmem,HL.out.2.1 _ hmem,by rw[List.getElem?_map,hx];rfl⟩
   have lift:∀j,j<11→wr.cell? ⟨gx,ox+idx*11+j,none⟩=(nodeC kind2 pos2 n2 m2 name2 (.slice ko2 kl2 kc2)).toList[j]? :=fun j hj=>(Q.out.wr.bel.cell (p:=⟨gx,ox+idx*11+j,none⟩) hgB).trans (hcell j hj)
   have lgx:gx<wr.heap.size:=Nat.lt_of_lt_of_le hgB Q.out.wr.base
   subst hax
   have e0:=lift 0 (by decide)
   have e1:=lift 1 (by decide)
   have e2:=lift 2 (by decide)
   have e3:=lift 3 (by decide)
   have e4:=lift 4 (by decide)
   have e5:=lift 5 (by decide)
   have e6:=lift 6 (by decide)
   have e7:=lift 7 (by decide)
   have e8:=lift 8 (by decide)
   have e9:=lift 9 (by decide)
   have e10:=lift 10 (by decide)
   simp only[Nat.add_zero,Nat.zero_add] at e0 e1 e2 e3 e4 e5 e6 e7 e8 e9 e10
   clear lift hcell hx hmem
   obtain⟨T,HW',hT⟩:=fn_open HRs.out HTB.out HX.out.1 HX.out.2.1
   have HW:Hid (Wc B w0 wb 74 (nodeC kind2 pos2 n2 m2 name2 (.slice ko2 kl2 kc2)) T):=HW'
   clear HW'
   obtain⟨KT,hKT⟩:∃KT,KT=T++[[59]]:=⟨_,rfl⟩
   have HKT:Hid (tok f w0 (nodeC kind2 pos2 n2 m2 name2 (.slice ko2 kl2 kc2)).toList++[[59]]=KT):=by show _=_;rw[hKT,hT]
   clear hT
   rcases Nat.eq_zero_or_pos idx with h0|h0
   ·subst h0
    simp only[Nat.zero_mul,Nat.add_zero,Nat.zero_add] at e0 e1 e2 e3 e4 e5 e6 e7 e8 e9 e10
    have st:tR (us.map (kdAt f w0)) 0=KT++(tR (us.map (kdAt f w0)) (0+1)):=by rw[tR_step HX.out.2.2];exact congrArg (· ++_) HKT.out
    have HE:Hid (ts++([]++(KT++tR (us.map (kdAt f w0)) (0+1)))=([112,117,98]::[[116,114,97,105,116],tl name,[123]])++tR (us.map (kdAt f w0)) 0):=by show _=_;rw[←HT.out,st];simp
    have q:=((Q.out.as (rest':=T++([59]::(tR (us.map (kdAt f w0)) (0+1)++[[125]]))) (by rw[st,hKT];simp)).box (nodeC kind2 pos2 n2 m2 name2 (.slice ko2 kl2 kc2)))
    have HE2:Hid (ts++((T)++[[59]]++tR (us.map (kdAt f w0)) (0+1))=([112,117,98]::[[116,114,97,105,116],tl name,[123]])++tR (us.map (kdAt f w0)) 0):=by show _=_;rw[←HE.out,hKT];simp
    clear st hKT
    have F:=q.f1
    go_wp2_with (first
     |(go_at_call 74;refine q.go (fun a1 a2 a3=>HW.out a1 a2 a3) ?_;clear q F;intro w2 q;have F:=q.f1)
     |(go_at_call 33;refine q.put ?_;clear q F;intro w2 q;have F:=q.f1))
    go_roundg (us.length - (0+1))
    case measure=>rw[HG.out];omega
    case rel=>exact⟨0+1,_,rfl,by go_num,hlt,(by show _=_;have:=HE2.out;simpa using this),q.pop⟩
   ·have hI:(0:Int)<(idx:Int):=by omega
    have st:tR (us.map (kdAt f w0)) idx=KT++(tR (us.map (kdAt f w0)) (idx+1)):=by rw[tR_step HX.out.2.2];exact congrArg (· ++_) HKT.out
    have HE:Hid (ts++([]++(KT++tR (us.map (kdAt f w0)) (idx+1)))=([112,117,98]::[[116,114,97,105,116],tl name,[123]])++tR (us.map (kdAt f w0)) 0):=by show _=_;rw[←HT.out,st];simp
    have q:=((Q.out.as (rest':=T++([59]::(tR (us.map (kdAt f w0)) (idx+1)++[[125]]))) (by rw[st,hKT];simp)).box (nodeC kind2 pos2 n2 m2 name2 (.slice ko2 kl2 kc2)))
    have HE2:Hid (ts++((T)++[[59]]++tR (us.map (kdAt f w0)) (idx+1))=([112,117,98]::[[116,114,97,105,116],tl name,[123]])++tR (us.map (kdAt f w0)) 0):=by show _=_;rw[←HE.out,hKT];simp
    clear st hKT
    have F:=q.f1
    go_wp2_with (first
     |(go_at_call 74;refine q.go (fun a1 a2 a3=>HW.out a1 a2 a3) ?_;clear q F;intro w2 q;have F:=q.f1)
     |(go_at_call 33;refine q.put ?_;clear q F;intro w2 q;have F:=q.f1))
    go_roundg (us.length - (idx+1))
    case measure=>rw[HG.out];omega
    case rel=>exact⟨idx+1,_,rfl,by go_num,hlt,(by show _=_;have:=HE2.out;simpa using this),q.pop⟩
  ·have hltI:¬(idx:Int)<(us.length:Int):=by omega
   obtain rfl:idx=us.length:=by omega
   have e:tR (us.map (kdAt f w0)) us.length=[]:=by have:=tR_end (ks:=(us.map (kdAt f w0)));rwa [List.length_map] at this
   have q:=Q.out.as (rest':=[[125]]) (by rw[e];rfl)
   have HE:Hid (ts=([112,117,98]::[[116,114,97,105,116],tl name,[123]])++tR (us.map (kdAt f w0)) 0):=by show _=_;rw[←HT.out,e,List.append_nil]
   clear e
   have F:=q.f1
   go_wp2_with (go_at_call 33;refine q.put ?_;clear q F;intro w3 q;have F:=q.f1)
   go_end0
   exact q.done (by rw[HE.out];simp[tR,aR])
end
end Go.Proofs.YtagdihffmjopaaaGreatDoor
