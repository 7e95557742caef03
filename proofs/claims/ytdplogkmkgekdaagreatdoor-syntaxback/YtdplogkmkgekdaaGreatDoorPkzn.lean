/- The project's parser: what reads lifetimes first. -/
import Derived.Test.YtdplogkmkgekdaaGreatDoorPla
import Derived.Test.YtdplogkmkgekdaaGreatDoorTypes
import Derived.Test.YtdplogkmkgekdaaGreatDoorPkzk
set_option linter.all false
set_option maxRecDepth 100000
set_option maxHeartbeats 4000000
namespace Go.Proofs.YtdplogkmkgekdaaGreatDoor.Pj
open Go.RowKit
section
variable {w:World} {rb tb i:Nat} {cap:Cp} {t:Tk}
def oF:List (ByteArray × Int × Int):=[(⟨#[124,124]⟩,2,31),(⟨#[38,38]⟩,3,30),(⟨#[61,61]⟩,4,29),(⟨#[33,61]⟩,4,29),(⟨#[60,61]⟩,4,29),(⟨#[62,61]⟩,4,29),(⟨#[60]⟩,4,29),(⟨#[62]⟩,4,29),(⟨#[43]⟩,5,29),(⟨#[45]⟩,5,29),(⟨#[42]⟩,6,29),(⟨#[47]⟩,6,29),(⟨#[37]⟩,6,29)]
def opAt (k:Nat):ByteArray:=(oF.getD k (E0,0,0)).1
def iG (k:Nat):Int:=(oF.getD k (E0,0,0)).2.1
def vv (k:Nat):Int:=(oF.getD k (E0,0,0)).2.2
theorem PK (w:World):(k:Nat)→k<13→(Instr.index 150 (.agg EY) (.int .i64 k)).run Tryz.prog w=.ok (.agg #[.string (opAt k),.int .i64 (iG k),.int .i64 (vv k)]) w
 |0,_=>by kernel_rfl
 |1,_=>by kernel_rfl
 |2,_=>by kernel_rfl
 |3,_=>by kernel_rfl
 |4,_=>by kernel_rfl
 |5,_=>by kernel_rfl
 |6,_=>by kernel_rfl
 |7,_=>by kernel_rfl
 |8,_=>by kernel_rfl
 |9,_=>by kernel_rfl
 |10,_=>by kernel_rfl
 |11,_=>by kernel_rfl
 |12,_=>by kernel_rfl
 |k+13,h=>absurd h (by omega)
theorem RV:(k:Nat)→k<13→opAt k∈gL
 |0,_=>by show(⟨#[124,124]⟩:ByteArray)∈gL;exact ask
 |1,_=>by show(⟨#[38,38]⟩:ByteArray)∈gL;exact ask
 |2,_=>by show(⟨#[61,61]⟩:ByteArray)∈gL;exact ask
 |3,_=>by show(⟨#[33,61]⟩:ByteArray)∈gL;exact ask
 |4,_=>by show(⟨#[60,61]⟩:ByteArray)∈gL;exact ask
 |5,_=>by show(⟨#[62,61]⟩:ByteArray)∈gL;exact ask
 |6,_=>by show(⟨#[60]⟩:ByteArray)∈gL;exact ask
 |7,_=>by show(⟨#[62]⟩:ByteArray)∈gL;exact ask
 |8,_=>by show(⟨#[43]⟩:ByteArray)∈gL;exact ask
 |9,_=>by show(⟨#[45]⟩:ByteArray)∈gL;exact ask
 |10,_=>by show(⟨#[42]⟩:ByteArray)∈gL;exact ask
 |11,_=>by show(⟨#[47]⟩:ByteArray)∈gL;exact ask
 |12,_=>by show(⟨#[37]⟩:ByteArray)∈gL;exact ask
 |k+13,h=>absurd h (by omega)
def jc (t:Tk) (i:Nat) (line:Int) (k:Nat):Bool:=iG k==line&&au t i 0 0 (opAt k)
theorem vw (h:Rd w rb tb cap t i 0 0) (line:Int):
 Calls Tryz.prog 202 #[.pointer (some ⟨rb,0,none⟩),.int .i64 line] w fun e w'=>Below w.heap.size w w'∧((∃k,k<13∧jc t i line k=true∧(∀m,m<k→jc t i line m=false)∧e=.returned (.tuple #[.int .i64 (vv k),.bool true]))∨((∀m,m<13→jc t i line m=false)∧e=.returned (.tuple #[.int .i64 0,.bool false]))):=by
 obtain⟨tg,fg,hG⟩:=h.g0.op
 have HG:=@aG _ @hG
 have hl:=h.l
 clear hG
 go_enter Tryz.func202,Tryz.ntmps202
 go_wp2_with (refine wpList_load_row rfl 150 _ rfl 3 rfl tg EY fg _ ?hrow Tryz.underlying150 rfl (by kernel_rfl) ?_;rotate_left 1)
 case hrow=>exact HG.out
 go_loopg [9] 13 (fun g v wr=>∃k:Nat,g=13 - k∧v=.int .i64 k∧k≤13∧Below w.heap.size w wr∧Hid (∀m,m<k→jc t i line m=false))
 case atStart=>exact⟨0,rfl,rfl,by omega,Below.refl _ _,fun m hm=>absurd hm (by omega)⟩
 case round=>
  obtain⟨k,eD,rfl,hk,hb,HJ⟩:=hrel
  have HGK:=@aG _ @eD
  clear eD
  rcases Nat.lt_or_ge k 13 with hlt|hge
  ·have hix:∀w,(Instr.index 150 (.agg EY) (.int .i64 k)).run Tryz.prog w=.ok (.agg #[.string (opAt k),.int .i64 (iG k),.int .i64 (vv k)]) w:=fun w=>PK w k hlt
   have Uy:(k:Int)<13:=by omega
   have HA:Hid (opAt k∈gL):=RV k hlt
   have hrd:=h.below hb
   have hsz:=hb.size
   cases UO:(iG k==line)
   ·have HL:Hid (jc t i line k=false):=by show jc t i line k=false;unfold jc;rw[UO];rfl
    go_wp2_with fail
    go_roundg (13 - (k+1))
    case measure=>rw[HGK.out];omega
    case rel=>exact⟨k+1,rfl,by go_num,by omega,hb.alloc hsz _,fun m hm=>by
     by_cases e:m=k
     ·rw[e];exact HL.out
     ·exact HJ.out m (by omega)⟩
   ·cases hB:au t i 0 0 (opAt k)
    ·have HL:Hid (jc t i line k=false):=by show jc t i line k=false;unfold jc;rw[hB];simp
     go_wp2_with (go_at_call 89;refine(iX (hrd.alloc _) _ HA.out).mono ?_;rintro e w3 ⟨rfl,hb3⟩)
     have hb4:Below w.heap.size w w3:=(hb.alloc hsz _).trans (hb3.mono (by simp;omega))
     go_roundg (13 - (k+1))
     case measure=>rw[HGK.out];omega
     case rel=>exact⟨k+1,rfl,by go_num,by omega,hb4,fun m hm=>by
      by_cases e:m=k
      ·rw[e];exact HL.out
      ·exact HJ.out m (by omega)⟩
    ·have HL:Hid (jc t i line k=true):=by show jc t i line k=true;unfold jc;rw[hB,UO];rfl
     go_wp2_with (go_at_call 89;refine(iX (hrd.alloc _) _ HA.out).mono ?_;rintro e w3 ⟨rfl,hb3⟩;obtain⟨hc3,hf3⟩:=Nc hb3)
     have hb4:Below w.heap.size w w3:=(hb.alloc hsz _).trans (hb3.mono (by simp;omega))
     go_ret2
     exact⟨hb4,.inl ⟨k,by omega,HL.out,HJ.out,rfl⟩⟩
  ·have Uy:((k:Int)<13)=False:=by simp;omega
   have HK:Hid (k=13):=by show k=13;omega
   go_wp2_with fail
   go_ret2
   exact⟨hb,.inr ⟨by rw[←HK.out];exact HJ.out,rfl⟩⟩
def jy (t:Tk) (i:Nat) (ss:List ByteArray):Bool:=(ss.find? (fun w=>au t i 0 0 w)).isSome
theorem Ej {t:Tk} {i:Nat} {s:ByteArray} (h:au t i 0 0 s=true):t.text i=s:=by
 unfold au at h
 simp only[Bool.and_eq_true,beq_iff_eq] at h
 have e:=h.2.2.2
 rw[Nat.add_zero,Lib.toList_data,Lib.toList_data] at e
 exact ByteArray.ext (Array.toList_inj.1 e)
theorem lH {t:Tk} {i:Nat} {ss:List ByteArray} (h:jy t i ss=true):(ss.find? (fun w=>au t i 0 0 w))=some (t.text i)∧au t i 0 0 (t.text i)=true∧t.text i∈ss:=by
 unfold jy at h
 obtain⟨s,hs⟩:=Option.isSome_iff_exists.1 h
 have h1:=List.find?_some hs
 have e:=Ej h1
 rw[e]
 exact⟨hs,h1,List.mem_of_find?_eq_some hs⟩
theorem aa4 {t:Tk} {i:Nat} {ss:List ByteArray} (h:jy t i ss=false):(ss.find? (fun w=>au t i 0 0 w))=none:=by
 unfold jy at h
 simpa using h
def Gh (t:Tk) (i:Nat) (K:Int) (ss:List ByteArray):Int:=if jy t i ss=true then K else 0
theorem qc {t:Tk} {i:Nat} {K:Int} {ss:List ByteArray} (h:jy t i ss=true):Gh t i K ss=K:=if_pos h
theorem rE {t:Tk} {i:Nat} {K:Int} {ss:List ByteArray} (h:jy t i ss=false):Gh t i K ss=0:=if_neg (by rw[h];decide)
def PN (w:World) (t:Tk) (i:Nat) (K:Int) (ss:List ByteArray) (e:Ending) (w':World):Prop:=Below w.heap.size w w'∧e=.returned (.tuple #[.int .i64 (Gh t i K ss),.bool (jy t i ss)])
theorem Gi (h:Rd w rb tb cap t i 0 0):Calls Tryz.prog 202 #[.pointer (some ⟨rb,0,none⟩),.int .i64 2] w (PN w t i 31 [⟨#[124,124]⟩]):=by
 refine(vw h 2).mono ?_
 rintro e w' ⟨hb,(⟨k,hk,hh,hm,rfl⟩|⟨hm,rfl⟩)⟩
 ·have e1:(iG k==2)=true:=by
   unfold jc at hh
   simp only[Bool.and_eq_true] at hh
   exact hh.1
  have e2:au t i 0 0 (opAt k)=true:=by
   unfold jc at hh
   simp only[Bool.and_eq_true] at hh
   exact hh.2
  have key:∀k,k<13→(iG k==2)=true→vv k=31∧(k=0):=by decide
  obtain⟨e3,e4⟩:=key k hk e1
  have e5:opAt k∈([⟨#[124,124]⟩]:List ByteArray):=by
   rcases e4 with rfl
   all_goals simp[opAt,oF]
  have e6:jy t i [⟨#[124,124]⟩]=true:=by
   unfold jy
   rw[List.find?_isSome]
   exact⟨_,e5,e2⟩
  exact⟨hb,by rw[qc e6,e6,e3]⟩
 ·have e6:jy t i [⟨#[124,124]⟩]=false:=by
   unfold jy
   rw[List.find?_eq_none.2 ?_]
   ·rfl
   ·intro s hs
    simp only[List.mem_cons,List.not_mem_nil,or_false] at hs
    rcases hs with rfl
    ·have:=hm 0 (by decide)
     unfold jc at this
     have e:(iG 0==2)=true:=by decide
     rw[e] at this
     simpa[opAt,oF] using this
  exact⟨hb,by rw[rE e6,e6]⟩
theorem Gj (h:Rd w rb tb cap t i 0 0):Calls Tryz.prog 202 #[.pointer (some ⟨rb,0,none⟩),.int .i64 3] w (PN w t i 30 [⟨#[38,38]⟩]):=by
 refine(vw h 3).mono ?_
 rintro e w' ⟨hb,(⟨k,hk,hh,hm,rfl⟩|⟨hm,rfl⟩)⟩
 ·have e1:(iG k==3)=true:=by
   unfold jc at hh
   simp only[Bool.and_eq_true] at hh
   exact hh.1
  have e2:au t i 0 0 (opAt k)=true:=by
   unfold jc at hh
   simp only[Bool.and_eq_true] at hh
   exact hh.2
  have key:∀k,k<13→(iG k==3)=true→vv k=30∧(k=1):=by decide
  obtain⟨e3,e4⟩:=key k hk e1
  have e5:opAt k∈([⟨#[38,38]⟩]:List ByteArray):=by
   rcases e4 with rfl
   all_goals simp[opAt,oF]
  have e6:jy t i [⟨#[38,38]⟩]=true:=by
   unfold jy
   rw[List.find?_isSome]
   exact⟨_,e5,e2⟩
  exact⟨hb,by rw[qc e6,e6,e3]⟩
 ·have e6:jy t i [⟨#[38,38]⟩]=false:=by
   unfold jy
   rw[List.find?_eq_none.2 ?_]
   ·rfl
   ·intro s hs
    simp only[List.mem_cons,List.not_mem_nil,or_false] at hs
    rcases hs with rfl
    ·have:=hm 1 (by decide)
     unfold jc at this
     have e:(iG 1==3)=true:=by decide
     rw[e] at this
     simpa[opAt,oF] using this
  exact⟨hb,by rw[rE e6,e6]⟩
theorem PO (h:Rd w rb tb cap t i 0 0):Calls Tryz.prog 202 #[.pointer (some ⟨rb,0,none⟩),.int .i64 4] w (PN w t i 29 [⟨#[61,61]⟩,⟨#[33,61]⟩,⟨#[60,61]⟩,⟨#[62,61]⟩,⟨#[60]⟩,⟨#[62]⟩]):=by
 refine(vw h 4).mono ?_
 rintro e w' ⟨hb,(⟨k,hk,hh,hm,rfl⟩|⟨hm,rfl⟩)⟩
 ·have e1:(iG k==4)=true:=by
   unfold jc at hh
   simp only[Bool.and_eq_true] at hh
   exact hh.1
  have e2:au t i 0 0 (opAt k)=true:=by
   unfold jc at hh
   simp only[Bool.and_eq_true] at hh
   exact hh.2
  have key:∀k,k<13→(iG k==4)=true→vv k=29∧(k=2∨k=3∨k=4∨k=5∨k=6∨k=7):=by decide
  obtain⟨e3,e4⟩:=key k hk e1
  have e5:opAt k∈([⟨#[61,61]⟩,⟨#[33,61]⟩,⟨#[60,61]⟩,⟨#[62,61]⟩,⟨#[60]⟩,⟨#[62]⟩]:List ByteArray):=by
   rcases e4 with rfl|rfl|rfl|rfl|rfl|rfl
   all_goals simp[opAt,oF]
  have e6:jy t i [⟨#[61,61]⟩,⟨#[33,61]⟩,⟨#[60,61]⟩,⟨#[62,61]⟩,⟨#[60]⟩,⟨#[62]⟩]=true:=by
   unfold jy
   rw[List.find?_isSome]
   exact⟨_,e5,e2⟩
  exact⟨hb,by rw[qc e6,e6,e3]⟩
 ·have e6:jy t i [⟨#[61,61]⟩,⟨#[33,61]⟩,⟨#[60,61]⟩,⟨#[62,61]⟩,⟨#[60]⟩,⟨#[62]⟩]=false:=by
   unfold jy
   rw[List.find?_eq_none.2 ?_]
   ·rfl
   ·intro s hs
    simp only[List.mem_cons,List.not_mem_nil,or_false] at hs
    rcases hs with rfl|rfl|rfl|rfl|rfl|rfl
    ·have:=hm 2 (by decide)
     unfold jc at this
     have e:(iG 2==4)=true:=by decide
     rw[e] at this
     simpa[opAt,oF] using this
    ·have:=hm 3 (by decide)
     unfold jc at this
     have e:(iG 3==4)=true:=by decide
     rw[e] at this
     simpa[opAt,oF] using this
    ·have:=hm 4 (by decide)
     unfold jc at this
     have e:(iG 4==4)=true:=by decide
     rw[e] at this
     simpa[opAt,oF] using this
    ·have:=hm 5 (by decide)
     unfold jc at this
     have e:(iG 5==4)=true:=by decide
     rw[e] at this
     simpa[opAt,oF] using this
    ·have:=hm 6 (by decide)
     unfold jc at this
     have e:(iG 6==4)=true:=by decide
     rw[e] at this
     simpa[opAt,oF] using this
    ·have:=hm 7 (by decide)
     unfold jc at this
     have e:(iG 7==4)=true:=by decide
     rw[e] at this
     simpa[opAt,oF] using this
  exact⟨hb,by rw[rE e6,e6]⟩
theorem Gl (h:Rd w rb tb cap t i 0 0):Calls Tryz.prog 202 #[.pointer (some ⟨rb,0,none⟩),.int .i64 5] w (PN w t i 29 [⟨#[43]⟩,⟨#[45]⟩]):=by
 refine(vw h 5).mono ?_
 rintro e w' ⟨hb,(⟨k,hk,hh,hm,rfl⟩|⟨hm,rfl⟩)⟩
 ·have e1:(iG k==5)=true:=by
   unfold jc at hh
   simp only[Bool.and_eq_true] at hh
   exact hh.1
  have e2:au t i 0 0 (opAt k)=true:=by
   unfold jc at hh
   simp only[Bool.and_eq_true] at hh
   exact hh.2
  have key:∀k,k<13→(iG k==5)=true→vv k=29∧(k=8∨k=9):=by decide
  obtain⟨e3,e4⟩:=key k hk e1
  have e5:opAt k∈([⟨#[43]⟩,⟨#[45]⟩]:List ByteArray):=by
   rcases e4 with rfl|rfl
   all_goals simp[opAt,oF]
  have e6:jy t i [⟨#[43]⟩,⟨#[45]⟩]=true:=by
   unfold jy
   rw[List.find?_isSome]
   exact⟨_,e5,e2⟩
  exact⟨hb,by rw[qc e6,e6,e3]⟩
 ·have e6:jy t i [⟨#[43]⟩,⟨#[45]⟩]=false:=by
   unfold jy
   rw[List.find?_eq_none.2 ?_]
   ·rfl
   ·intro s hs
    simp only[List.mem_cons,List.not_mem_nil,or_false] at hs
    rcases hs with rfl|rfl
    ·have:=hm 8 (by decide)
     unfold jc at this
     have e:(iG 8==5)=true:=by decide
     rw[e] at this
     simpa[opAt,oF] using this
    ·have:=hm 9 (by decide)
     unfold jc at this
     have e:(iG 9==5)=true:=by decide
     rw[e] at this
     simpa[opAt,oF] using this
  exact⟨hb,by rw[rE e6,e6]⟩
theorem Gm (h:Rd w rb tb cap t i 0 0):Calls Tryz.prog 202 #[.pointer (some ⟨rb,0,none⟩),.int .i64 6] w (PN w t i 29 [⟨#[42]⟩,⟨#[47]⟩,⟨#[37]⟩]):=by
 refine(vw h 6).mono ?_
 rintro e w' ⟨hb,(⟨k,hk,hh,hm,rfl⟩|⟨hm,rfl⟩)⟩
 ·have e1:(iG k==6)=true:=by
   unfold jc at hh
   simp only[Bool.and_eq_true] at hh
   exact hh.1
  have e2:au t i 0 0 (opAt k)=true:=by
   unfold jc at hh
   simp only[Bool.and_eq_true] at hh
   exact hh.2
  have key:∀k,k<13→(iG k==6)=true→vv k=29∧(k=10∨k=11∨k=12):=by decide
  obtain⟨e3,e4⟩:=key k hk e1
  have e5:opAt k∈([⟨#[42]⟩,⟨#[47]⟩,⟨#[37]⟩]:List ByteArray):=by
   rcases e4 with rfl|rfl|rfl
   all_goals simp[opAt,oF]
  have e6:jy t i [⟨#[42]⟩,⟨#[47]⟩,⟨#[37]⟩]=true:=by
   unfold jy
   rw[List.find?_isSome]
   exact⟨_,e5,e2⟩
  exact⟨hb,by rw[qc e6,e6,e3]⟩
 ·have e6:jy t i [⟨#[42]⟩,⟨#[47]⟩,⟨#[37]⟩]=false:=by
   unfold jy
   rw[List.find?_eq_none.2 ?_]
   ·rfl
   ·intro s hs
    simp only[List.mem_cons,List.not_mem_nil,or_false] at hs
    rcases hs with rfl|rfl|rfl
    ·have:=hm 10 (by decide)
     unfold jc at this
     have e:(iG 10==6)=true:=by decide
     rw[e] at this
     simpa[opAt,oF] using this
    ·have:=hm 11 (by decide)
     unfold jc at this
     have e:(iG 11==6)=true:=by decide
     rw[e] at this
     simpa[opAt,oF] using this
    ·have:=hm 12 (by decide)
     unfold jc at this
     have e:(iG 12==6)=true:=by decide
     rw[e] at this
     simpa[opAt,oF] using this
  exact⟨hb,by rw[rE e6,e6]⟩
def qI (line:Int) (N:Nat) (X:Tk→Nat→GP (List Nr)):Prop:=∀{w:World} {rb tb i:Nat} {cap:Cp} {t:Tk},Rd w rb tb cap t i 0 0→t.len - i≤N→Calls Tryz.prog 160 #[.pointer (some ⟨rb,0,none⟩),.int .i64 line] w (aP w rb tb cap t i True (X t))
structure pz (t:Tk) (K:Int) (ss:List ByteArray) (X:Nat→GP (List Nr)) (B:Nat→List Nr→GP (Bool × List Nr)):Prop where
 c0:∀{i:Nat} {l:List Nr},jy t i ss=false→Ev (fun n=>B n l) ⟨i,0,0⟩ ((false,l),⟨i,0,0⟩)
 c1:∀{i j:Nat} {l y:List Nr},jy t i ss=true→Ev X ⟨i+1,0,0⟩ (y,⟨j,0,0⟩)→Ev (fun n=>B n l) ⟨i,0,0⟩ ((true,nd K (t.pos i) 0 0 (if K=29 then t.text i else E0) [l,y]),⟨j,0,0⟩)
 c2:∀{i:Nat} {l:List Nr} {p:Int},jy t i ss=true→Wr X ⟨i+1,0,0⟩ p→Wr (fun n=>B n l) ⟨i,0,0⟩ p
 sy:∀n l,Sy (B n l)
theorem El {t:Tk} {i:Nat} {ss:List ByteArray} (h:jy t i ss=true):Ev (fun _=>nZ t ss) ⟨i,0,0⟩ (t.text i,⟨i,0,0⟩):=Ev.of (by
 unfold nZ
 show some ((ss.find? (fun w=>au t i 0 0 w)).getD E0,_)=_
 rw[(lH h).1]
 rfl)
theorem Ji {t:Tk} {i:Nat} {ss:List ByteArray} (h:jy t i ss=false):Ev (fun _=>nZ t ss) ⟨i,0,0⟩ (E0,⟨i,0,0⟩):=Ev.of (by
 unfold nZ
 show some ((ss.find? (fun w=>au t i 0 0 w)).getD E0,_)=_
 rw[aa4 h]
 rfl)
theorem Em {t:Tk} {ss:List ByteArray} {X:Nat→GP (List Nr)} (hX:∀n,Sy (X n)) (hne:∀s∈ss,(s.size==0)=false):pz t 29 ss X (fun n=>rU t ss (X n)) where
 c0 h:=Ev.ak bT (Ev.yes rfl (Ev.ak (Ji h) (Ev.yes rfl Ev.ret')))
 c1 h h1:=Ev.ak bT (Ev.yes rfl (Ev.ak (El h) (Ev.no (hne _ (lH h).2.2) (Ev.ak bL (Ev.seq (bP (lH h).2.1) (Ev.ak h1 Ev.ret'))))))
 c2 h h1:=Wr.snd bT (Wr.yes rfl (Wr.snd (El h) (Wr.no (hne _ (lH h).2.2) (Wr.snd bL (Wr.o8 (bP (lH h).2.1) (Wr.fst h1 (fun _ _=>Sy.ret)))))))
 sy n l:=by
  unfold rU
  have:=hX n
  exact aA
theorem yB {t:Tk} {i:Nat} {s:ByteArray}:jy t i [s]=au t i 0 0 s:=by
 unfold jy
 cases h:au t i 0 0 s<;>simp[List.find?,h]
theorem Gn {t:Tk} {K:Int} {s:ByteArray} {X:Nat→GP (List Nr)} (hX:∀n,Sy (X n)) (hK:K≠29):pz t K [s] X (fun n=>uG t K s (X n)) where
 c0 h:=Ev.ak bT (Ev.ak aI (Ev.no (jf (yB.symm.trans h)) Ev.ret'))
 c1 h h1:=Ev.ak bT (Ev.ak aI (Ev.yes (dR rfl (yB.symm.trans h)) (Ev.ak bL (Ev.seq (bP (yB.symm.trans h)) (Ev.ak h1 (by rw[if_neg hK];exact Ev.ret'))))))
 c2 h h1:=Wr.snd bT (Wr.snd aI (Wr.yes (dR rfl (yB.symm.trans h)) (Wr.snd bL (Wr.o8 (bP (yB.symm.trans h)) (Wr.fst h1 (fun _ _=>Sy.ret))))))
 sy n l:=by
  unfold uG
  have:=hX n
  exact aA
end
theorem ae1 {w W:World} {rb lb:Nat} {β:Bool} {v0 v1 v2 v3:Value} (hl:rb<w.heap.size) (hk:Kp ((nD w lb β).alloc (.cells #[v0,v1,v2,v3] 113)).heap.size rb ((nD w lb β).alloc (.cells #[v0,v1,v2,v3] 113)) W):∀o,W.cell? ⟨w.heap.size,o,none⟩=(#[v0,v1,v2,v3]:Array Value)[o]? :=by
 have e:(nD w lb β).heap.size=w.heap.size:=(Flip.set w ⟨lb,3,none⟩ (.bool β)).size
 have:=NA (w:=nD w lb β) (by rw[e];exact hl) hk
 rwa [e] at this
theorem UQ {w:World} {rb tb i lb:Nat} {cap:Cp} {t:Tk} (h:Rd w rb tb cap t i 0 0) {lv ov:Value} (h0:yx w lb rb lv ov false) (hr:rb<lb) {M O:Nat→GP (List Nr)} {mm:Nat→GP (List (List Nr))} (hin:fZ 196)
 (hm1:∀F j,Jf t M O i (.inl (F,j))→Ev mm ⟨i,0,0⟩ (F,⟨j,0,0⟩)) (hm2:∀p,Jf t M O i (.inr p)→Wr mm ⟨i,0,0⟩ p) (HX:∀{w' j β},Rd w' rb tb cap t j 0 0→i≤j→yx w' lb rb lv ov β→Calls Tryz.prog 196 #[.pointer (some ⟨lb,0,none⟩)] w' (Jg w' rb tb cap t j lb lv ov M O β)):
 Calls Tryz.prog 136 #[.pointer (some ⟨rb,0,none⟩),.agg #[.string ⟨#[44]⟩,.string ⟨#[62]⟩,.bool false,.bool false],.func (.func 196) #[.pointer (some ⟨lb,0,none⟩)] #[]] w fun e w'=>∃β,rO (nD w lb β) rb tb cap t i True mm e w':=by
 have HX:=@aG _ @HX
 have hl:=h.l
 have om:=aD (And.intro hm1 hm2)
 have H0:=aD h0
 have Jh:lb<w.heap.size:=(Array.getElem?_eq_some_iff.1 h0).1
 have HR:=@aG _ @hr
 have hin2:∀args w,(callFunc 196 args).run Tryz.prog w=.ok (.enter 196 args) w:=hin
 have HHR:∀β,Rd (nD w lb β) rb tb cap t i 0 0:=fun β=>h.flip (Flip.set w ⟨lb,3,none⟩ (.bool β)) hr
 have HK0:∀β,Kp (nD w lb β).heap.size rb (nD w lb β) ((nD w lb β).alloc (.cells #[.string ⟨#[44]⟩,.string ⟨#[62]⟩,.bool false,.bool false] 113)):=fun β=>(Kp.refl _ _ _).alloc (Nat.le_refl _) _
 have HRD:=aD HHR
 have HKD:=aD HK0
 clear hm1 hm2 hin h0 HHR HK0
 go_enter Tryz.func136,Tryz.ntmps136
 have q:=Mf.start (h.alloc (.cells #[.string ⟨#[44]⟩,.string ⟨#[62]⟩,.bool false,.bool false] 113))
 replace q:=q.flip (lb:=lb) (Flip.alloc (Flip.set w ⟨lb,3,none⟩ (.bool false)) Jh _) (Flip.refl _ _) (by simp;omega) hr (((Below.heap_alloc _ _ _ Jh).trans H0.out).trans ((Below.heap_alloc _ _ _ (by simp[World.setCell];exact Jh)).trans (wJ H0.out)).symm)
 have HC:Hid (∀(β:Bool) (W:World),Kp ((nD w lb β).alloc (.cells #[.string ⟨#[44]⟩,.string ⟨#[62]⟩,.bool false,.bool false] 113)).heap.size rb ((nD w lb β).alloc (.cells #[.string ⟨#[44]⟩,.string ⟨#[62]⟩,.bool false,.bool false] 113)) W→∀o,W.cell? ⟨w.heap.size,o,none⟩=(#[.string ⟨#[44]⟩,.string ⟨#[62]⟩,.bool false,.bool false]:Array Value)[o]?):=fun β W hk=>ae1 hl hk
 have HSZ:Hid (∀(β:Bool) (W:World),Kp ((nD w lb β).alloc (.cells #[.string ⟨#[44]⟩,.string ⟨#[62]⟩,.bool false,.bool false] 113)).heap.size rb ((nD w lb β).alloc (.cells #[.string ⟨#[44]⟩,.string ⟨#[62]⟩,.bool false,.bool false] 113)) W→w.heap.size<W.heap.size):=fun β W hk=>by have:=hk.size;simp[World.setCell] at this;omega
 clear hr
 go_wp2_with fail
 refine Mf.sl H0.out HR.out false q (fun hr hb=>HX.out hr (Nat.le_refl _) hb) (fun w' p dO hk hS=>⟨rfl,dO,.inr ⟨p,rfl,hk,om.out.2 _ (.inr ⟨p,hS.out,rfl⟩)⟩⟩) ?_
 clear q
 intro wA xA iA yA UR hlA mA q
 go_wp2_with fail
 replace om:Hid ((∀F j,pR t M O UR iA [yA] (.inl (F,j))→Ev mm ⟨i,0,0⟩ (F,⟨j,0,0⟩))∧∀p,pR t M O UR iA [yA] (.inr p)→Wr mm ⟨i,0,0⟩ p):=⟨fun F j h=>om.out.1 F j (.inl ⟨_,_,_,mA.out,h⟩),fun p h=>om.out.2 p (.inl ⟨_,_,_,mA.out,h⟩)⟩
 go_loopg [7] (t.len - iA) (fun g v wr=>∃ao cp vs F j β,g=t.len - j∧v=.slice ao vs.length cp∧Mf ((nD w lb β).alloc (.cells #[.string ⟨#[44]⟩,.string ⟨#[62]⟩,.bool false,.bool false] 113)) rb tb cap t i True wr j [] [] v vs [] F∧vs.length≤j - i∧Hid (∀r,pR t M O β j F r→pR t M O UR iA [yA] r))
 case atStart=>exact⟨some ⟨sz wA,0,none⟩,1,[xA.a.toList],[yA],iA,UR,rfl,rfl,q.m1 (sz wA),by have:=hlA.out;simp;omega,fun r hr=>hr⟩
 case round=>
  obtain⟨ao,cp,vs,F,j,β,eD,rfl,q,hvs,HM⟩:=hrel
  have HG:=@aG _ @eD
  clear eD
  have cR:=HC.out β wr q.st.kp
  have hjl:=q.st.rd.lt
  have hij:=q.go trivial
  have oC:=h.good.few
  have tN:=@aG _ @hvs
  have lR:w.heap.size<wr.heap.size:=HSZ.out β wr q.st.kp
  go_wp2_with fail
  refine q.et (cO · _ (ask)) ?_
  clear q cR lR
  intro w3 b3 j3 eu m3 q
  have cR:=HC.out β w3 q.st.kp
  have lR:w.heap.size<w3.heap.size:=HSZ.out β w3 q.st.kp
  have hj3:=eu.le
  have Eb:=eu.yes
  have HB:=aD eu.jE.symm
  cases b3
  ·have HJ:Hid (j3=j):=eu.no rfl
   clear eu
   go_wp2_with fail
   refine q.wb (dw · _ (ask)) (fun w' hk hb=>⟨rfl,β,.inr (zy (HKD.out β) q hk (om.out.2 _ (HM.out _ (by rw[HJ.out] at hb⊢;exact .oZ HB.out hb.out))))⟩) ?_
   clear q cR
   intro w4 hb4 q
   go_wp2_with fail
   go_ret
   exact⟨β,o9 (h:=HRD.out β) q (by have:=tN.out;have:=HJ.out;omega) (om.out.1 _ _ (HM.out _ (by have hb4:=hb4.out;rw[HJ.out] at hb4⊢;exact .stop HB.out hb4)))⟩
  ·clear eu
   have HJ:Hid (j3=j+1):=(Eb rfl).1
   go_wp2_with fail
   refine Mf.sl H0.out HR.out β q (fun hr hb=>HX.out hr (by omega) hb) (fun w' p dO hk hS=>⟨rfl,dO,.inr ⟨p,rfl,hk,om.out.2 _ (HM.out _ (.aR HB.out (HJ.out▸hS.out)))⟩⟩) ?_
   clear q cR lR
   intro w5 x5 i5 y5 β5 hl5 m5 q
   have cR:=HC.out β5 w5 q.st.kp
   go_wp2_with (at_builtin;refine q.ap (sz w5) (Nat.le_trans tN.out (by omega)) ?_;clear q cR;intro w6 mh mo q)
   have hgo:=fun r hr=>HM.out r (.next HB.out (HJ.out▸m5.out) hr)
   have IZ:=hl5.out
   have Hu:=q.st.rd.lt
   have UD:=HJ.out
   go_roundg (t.len - i5)
   case measure=>rw[HG.out];omega
   case rel=>exact⟨mh,mo,vs++[x5.t],F++[y5],i5,β5,rfl,by rw[List.length_append];rfl,q,by rw[List.length_append];have:=tN.out;simp;omega,hgo⟩
theorem PV:fZ 196:=dN (f:=196) (fn:=Tryz.f196) (by kernel_rfl) (by kernel_rfl) rfl
theorem lfL {w:World} {rb tb i lb:Nat} {cap:Cp} {t:Tk} (h:Rd w rb tb cap t i 0 0) {kM kO:Nat} {sG sH rF rG:Array Value} (h0:yx w lb rb (.func (.func kM) sG sH) (.func (.func kO) rF rG) false) (hr:rb<lb) {mm:Nat→GP (List Nr)} (hin:fZ kM) (hb:bf t i 0 0 4=true) (HH:∀{w'},Rd w' rb tb cap t i 0 0→Calls Tryz.prog kM (sG++sH) w' (aP w' rb tb cap t i True mm)):
 Calls Tryz.prog 196 #[.pointer (some ⟨lb,0,none⟩)] w (aP w rb tb cap t i True mm):=by
 have PY:=@aG _ @HH
 have hin2:∀args w,(callFunc kM args).run Tryz.prog w=.ok (.enter kM args) w:=hin
 have hl:=h.l
 have jT:=nT
 have hk0:((t.kind i:Int)==4)=true:=(fQ h.lt 4).symm.trans hb
 have H0:=aD h0
 have hlb:lb<w.heap.size:=(Array.getElem?_eq_some_iff.1 h0).1
 have cB:∀o,w.cell? ⟨lb,o,none⟩=(Gg rb (.func (.func kM) sG sH) (.func (.func kO) rF rG) false)[o]? :=fun o=>cell_of_row w lb o _ 134 (0,0) h0
 have cZ:∀o,w.frozen? ⟨lb,o,none⟩=false:=fun o=>frozen_of_row w lb o _ 134 h0
 clear hb HH hin h0
 go_enter Tryz.func196,Tryz.ntmps196
 have q:=Mf.start h
 go_wp2_with fail
 refine(q.ne' (sz w) (aJ)).lf (jD ·) ?_
 clear q
 intro w1 q
 have cW:∀o,w1.cell? ⟨lb,o,none⟩=(Gg rb (.func (.func kM) sG sH) (.func (.func kO) rF rG) false)[o]? :=fun o=>cell_of_row w1 lb o _ 134 (0,0) ((q.st.kp.block lb hlb (by omega)).trans H0.out)
 have F:=q.f1
 go_wp2_with fail
 refine q.nd (fun hr=>PY.out hr) (fun w' p hk hw=>⟨rfl,.inr (q.aR hk hw)⟩) ?_
 clear q F cW
 intro w2 x2 i2 y2 hl2 m2 q
 have F:=q.f1
 go_wp2_with fail
 go_light
 exact Mf.rt q Tryz.results196 0 m2
theorem ae2 {w:World} {rb tb i lb:Nat} {cap:Cp} {t:Tk} (h:Rd w rb tb cap t i 0 0) {kM kO:Nat} {sG sH rF rG:Array Value} (h0:yx w lb rb (.func (.func kM) sG sH) (.func (.func kO) rF rG) true) (hr:rb<lb) {mm:Nat→GP (List Nr)} (hin:fZ kO) (HH:∀{w'},Rd w' rb tb cap t i 0 0→Calls Tryz.prog kO (rF++rG) w' (aP w' rb tb cap t i True mm)):
 Calls Tryz.prog 196 #[.pointer (some ⟨lb,0,none⟩)] w (aP (nD w lb true) rb tb cap t i True mm):=by
 have PY:=@aG _ @HH
 have hin2:∀args w,(callFunc kO args).run Tryz.prog w=.ok (.enter kO args) w:=hin
 have hl:=h.l
 have jT:=nT
 have H0:=aD h0
 have HR:=aD hr
 have hlb:lb<w.heap.size:=(Array.getElem?_eq_some_iff.1 h0).1
 have cB:∀o,w.cell? ⟨lb,o,none⟩=(Gg rb (.func (.func kM) sG sH) (.func (.func kO) rF rG) true)[o]? :=fun o=>cell_of_row w lb o _ 134 (0,0) h0
 have cZ:∀o,w.frozen? ⟨lb,o,none⟩=false:=fun o=>frozen_of_row w lb o _ 134 h0
 have e2:(nD w lb true).heap.size=w.heap.size:=(Flip.set w ⟨lb,3,none⟩ (.bool true)).size
 clear HH hin h0
 go_enter Tryz.func196,Tryz.ntmps196
 have q:=Mf.start h
 go_wp2_with fail
 replace q:=q.flip (lb:=lb) (Flip.set w ⟨lb,3,none⟩ (.bool true)) (Flip.set w ⟨lb,3,none⟩ (.bool true)) hlb HR.out rfl
 refine(q.newAt (ad:=sz w) (by simp[World.setCell]) (aJ)).nd (fun hr=>PY.out hr) (fun w' p hk hw=>⟨rfl,.inr (Mf.aR (q.newAt (ad:=sz w) (by simp[World.setCell]) (aJ)) hk hw)⟩) ?_
 clear q
 intro w2 x2 i2 y2 hl2 m2 q
 have F:=q.f1
 go_wp2_with fail
 go_light
 exact Mf.rt q Tryz.results196 0 m2
theorem ae3 {w:World} {rb tb i lb:Nat} {cap:Cp} {t:Tk} (h:Rd w rb tb cap t i 0 0) {kM kO:Nat} {sG sH rF rG:Array Value} (h0:yx w lb rb (.func (.func kM) sG sH) (.func (.func kO) rF rG) false) (hr:rb<lb) {mm:Nat→GP (List Nr)} (hin:fZ kO) (hb:bf t i 0 0 4=false) (HH:∀{w'},Rd w' rb tb cap t i 0 0→Calls Tryz.prog kO (rF++rG) w' (aP w' rb tb cap t i True mm)):
 Calls Tryz.prog 196 #[.pointer (some ⟨lb,0,none⟩)] w (aP (nD w lb true) rb tb cap t i True mm):=by
 have PY:=@aG _ @HH
 have hin2:∀args w,(callFunc kO args).run Tryz.prog w=.ok (.enter kO args) w:=hin
 have hl:=h.l
 have jT:=nT
 have hk0:((t.kind i:Int)==4)=false:=(fQ h.lt 4).symm.trans hb
 clear hb
 have H0:=aD h0
 have HR:=aD hr
 have hlb:lb<w.heap.size:=(Array.getElem?_eq_some_iff.1 h0).1
 have cB:∀o,w.cell? ⟨lb,o,none⟩=(Gg rb (.func (.func kM) sG sH) (.func (.func kO) rF rG) false)[o]? :=fun o=>cell_of_row w lb o _ 134 (0,0) h0
 have cZ:∀o,w.frozen? ⟨lb,o,none⟩=false:=fun o=>frozen_of_row w lb o _ 134 h0
 have e2:(nD w lb true).heap.size=w.heap.size:=(Flip.set w ⟨lb,3,none⟩ (.bool true)).size
 clear HH hin h0
 go_enter Tryz.func196,Tryz.ntmps196
 have q:=Mf.start h
 go_wp2_with fail
 refine(q.ne' (sz w) (aJ)).lf (jD ·) ?_
 clear q
 intro w1 q
 have cW:∀o,w1.cell? ⟨lb,o,none⟩=(Gg rb (.func (.func kM) sG sH) (.func (.func kO) rF rG) false)[o]? :=fun o=>cell_of_row w1 lb o _ 134 (0,0) ((q.st.kp.block lb hlb (by omega)).trans H0.out)
 have zW:∀o,w1.frozen? ⟨lb,o,none⟩=false:=fun o=>frozen_of_row w1 lb o _ 134 ((q.st.kp.block lb hlb (by omega)).trans H0.out)
 have F:=q.f1
 have lW:lb<w1.heap.size:=by have:=q.st.size;omega
 have nz:lb≠w.heap.size:=by omega
 replace q:=q.flip (lb:=lb) (Flip.set w ⟨lb,3,none⟩ (.bool true)) (Flip.set w1 ⟨lb,3,none⟩ (.bool true)) hlb HR.out ((wJ ((q.st.kp.block lb hlb (by omega)).trans H0.out)).trans (wJ H0.out).symm)
 go_wp2_with fail
 refine q.nd (fun hr=>PY.out hr) (fun w' p hk hw=>⟨rfl,.inr (q.aR hk hw)⟩) ?_
 clear q F cW zW lW
 intro w2 x2 i2 y2 hl2 m2 q
 have F:=q.f1
 go_wp2_with fail
 go_light
 exact Mf.rt q Tryz.results196 0 m2
theorem En {w:World} {rb tb i lb:Nat} {cap:Cp} {t:Tk} (h:Rd w rb tb cap t i 0 0) {kM kO:Nat} {sG sH rF rG:Array Value} {β:Bool} (h0:yx w lb rb (.func (.func kM) sG sH) (.func (.func kO) rF rG) β) (hr:rb<lb) {M O:Nat→GP (List Nr)} (hiM:fZ kM) (PZ:fZ kO) (HM:bf t i 0 0 4=true→∀{w'},Rd w' rb tb cap t i 0 0→Calls Tryz.prog kM (sG++sH) w' (aP w' rb tb cap t i True M)) (HO:∀{w'},Rd w' rb tb cap t i 0 0→Calls Tryz.prog kO (rF++rG) w' (aP w' rb tb cap t i True O)):
 Calls Tryz.prog 196 #[.pointer (some ⟨lb,0,none⟩)] w (Jg w rb tb cap t i lb (.func (.func kM) sG sH) (.func (.func kO) rF rG) M O β):=by
 cases β
 ·cases hb:bf t i 0 0 4
  ·exact(ae3 h h0 hr PZ hb HO).mono fun e w' p=>⟨_,true,Flip.set w ⟨lb,3,none⟩ (.bool true),wJ h0,.inr ⟨rfl,.inr hb,p⟩⟩
  ·exact(lfL h h0 hr hiM hb (HM hb)).mono fun e w' p=>⟨w,false,Flip.refl _ _,h0,.inl ⟨rfl,rfl,hb,p⟩⟩
 ·exact(ae2 h h0 hr PZ HO).mono fun e w' p=>⟨_,true,Flip.set w ⟨lb,3,none⟩ (.bool true),wJ h0,.inr ⟨rfl,.inl rfl,p⟩⟩
end Go.Proofs.YtdplogkmkgekdaaGreatDoor.Pj
