/- The tree of a text: its two results. -/
import Derived.Test.YtagdihffmjopaaaGreatDoorRefOne
namespace Go.Proofs.YtagdihffmjopaaaGreatDoor
set_option linter.all false
open Go.RowKit
theorem info30:(Tryz.prog.info? 58).map (fun i=>(i.zero,i.size,i.bytes))=some (some (.agg #[.int .i64 0,.int .i64 0,.string ⟨#[]⟩,.int .i64 0]),4,40):=by kernel_rfl
theorem ownsRow_below {w w1:World} {base:Nat} {e:TypeId} {size:Nat} {v:Value} {n:Nat} {xs:List Value} (h:w.ownsRow base e size v n xs) (hb:Below w.heap.size w w1):w1.ownsRow base e size v n xs:=by
 obtain⟨h1,h2⟩:=h
 refine⟨h1,?_⟩
 rcases h2 with h2|⟨g,cap,cur,hv,hbg,hg,rest⟩
 ·exact .inl h2
 ·have hlt:g<w.heap.size:=(Array.getElem?_eq_some_iff.1 hg).1
  exact .inr ⟨g,cap,cur,hv,hbg,by rw[hb.block g hlt];exact hg,rest⟩
def TokPost (s:ByteArray) (base:Nat) (e:Ending) (w':World):Prop:=
 match lexAll s with
 |.inl (k,i)=>e=.returned (.tuple #[.slice none 0 0,.agg #[.int .i64 k,.int .i64 i]])
 |.inr ts=>∃v,e=.returned (.tuple #[v,.agg #[.int .i64 0,.int .i64 0]])∧w'.ownsRow base 58 4 v ts.length ts.flatten
structure TokRel (s:ByteArray) (w wr:World) (v:Value) (k b:Nat) (acc:List (List Value)):Prop where
 le:k≤s.size
 own:wr.ownsRow (w.heap.size+1) 58 4 v acc.length acc.flatten
 below:Below (w.heap.size+1) (w.alloc (.cells #[.int .i64 0,.int .i64 0] 31)) wr
 same:lexFrom b s k acc=lexFrom s.size s 0 []
 fuel:s.size≤k+b
 few:acc.length≤k
theorem cells4_new (w:World) (c0 c1 c2 c3:Value) (t:TypeId):∀j u,[c0,c1,c2,c3][j]? =some u→(w.alloc (.cells #[c0,c1,c2,c3] t)).cell? ((⟨w.heap.size,0,none⟩:Addr).add j)=some u:=by
 intro j u hj
 match j,hj with
 |0,hj=>simp at hj;subst hj;simp[Addr.add]
 |1,hj=>simp at hj;subst hj;simp[Addr.add]
 |2,hj=>simp at hj;subst hj;simp[Addr.add]
 |3,hj=>simp at hj;subst hj;simp[Addr.add]
theorem cells4_one {a b n:Int} {t:ByteArray}:∀u∈[Value.int .i64 a,.int .i64 b,.string t,.int .i64 n],u.oneCell'=true:=by
 intro u hu
 simp at hu
 rcases hu with rfl|rfl|rfl|rfl<;>rfl
theorem faultBlock {w wr:World} (h:Below (w.heap.size+1) (w.alloc (.cells #[.int .i64 0,.int .i64 0] 31)) wr):
 wr.cell? ⟨w.heap.size,0,none⟩=some (.int .i64 0)∧wr.cell? ⟨w.heap.size,1,none⟩=some (.int .i64 0)∧wr.frozen? ⟨w.heap.size,0,none⟩=false∧wr.frozen? ⟨w.heap.size,1,none⟩=false:=by
 refine⟨?_,?_,?_,?_⟩
 ·rw[h.cell (p:=⟨w.heap.size,0,none⟩) (by simp)];simp
 ·rw[h.cell (p:=⟨w.heap.size,1,none⟩) (by simp)];simp
 ·rw[h.frozen (p:=⟨w.heap.size,0,none⟩) (by simp)];simp
 ·rw[h.frozen (p:=⟨w.heap.size,1,none⟩) (by simp)];simp
theorem TokRel.step {s:ByteArray} {w wr:World} {v:Value} {k b:Nat} {acc:List (List Value)} (h:TokRel s w wr v k b acc) (hlt:k<s.size) {k':Nat} {acc':List (List Value)} {wr':World} {v':Value}
 (h1:k<k') (h2:k'≤s.size) (hlex:∀b',lexFrom (b'+1) s k acc=lexFrom b' s k' acc') (own:wr'.ownsRow (w.heap.size+1) 58 4 v' acc'.length acc'.flatten)
 (below:Below (w.heap.size+1) (w.alloc (.cells #[.int .i64 0,.int .i64 0] 31)) wr') (few:acc'.length≤k'):∃b',TokRel s w wr' v' k' b' acc':=by
 obtain⟨b',rfl⟩:∃b',b=b'+1:=⟨b - 1,by have:=h.fuel;omega⟩
 exact⟨b',h2,own,below,by rw[←hlex];exact h.same,by have:=h.fuel;omega,few⟩
theorem TokRel.end_ {s:ByteArray} {w wr:World} {v:Value} {k b:Nat} {acc:List (List Value)} (h:TokRel s w wr v k b acc) (hs:s.size≤6000) (hlt:¬k<s.size):lexAll s=.inr (acc++[tokCells 0 s.size ⟨#[]⟩ 0]):=by
 have:=h.same
 rw[lex_end hlt] at this
 rw[lexAll,if_neg (by omega),←this]
theorem TokRel.bad {s:ByteArray} {w wr:World} {v:Value} {k b:Nat} {acc:List (List Value)} (h:TokRel s w wr v k b acc) (hs:s.size≤6000) (hlt:k<s.size) (hb:blankN (bat s k)=false) (hr:bat s k≠35) (he:(one s k).err≠0):lexAll s=.inl ((one s k).err,k):=by
 obtain⟨b',rfl⟩:∃b',b=b'+1:=⟨b - 1,by have:=h.fuel;omega⟩
 have:=h.same
 rw[lex_bad hlt hb hr he] at this
 rw[lexAll,if_neg (by omega),←this]
theorem flatten_snoc (acc:List (List Value)) (c:List Value):(acc++[c]).flatten=acc.flatten++c:=by simp
set_option maxRecDepth 100000 in
set_option maxHeartbeats 4000000 in
theorem tokens7 (s:ByteArray) (w:World) (hs:s.size≤6000):
 Calls Tryz.prog 7 #[.string s] w fun e w'=>TokPost s (w.heap.size+1) e w'∧Below w.heap.size w w':=by
 obtain⟨i0,hi0,hz0,hz1,hz2⟩:=info_parts info30
 go_enter Tryz.func7,Tryz.ntmps7
 go_wp2_with fail
 go_loopw [4,5] (fun v i wr=>∃(k b:Nat) (acc:List (List Value)),i=.int .i64 k∧TokRel s w wr v k b acc) (fun _ i _=>s.size - (intOf i).toNat)
 case atStart=>exact⟨0,s.size,[],rfl,⟨Nat.zero_le _,World.ownsRow_nil _ _ _ _,Below.refl _ _,rfl,by omega,by simp⟩⟩
 case round=>
  obtain⟨k,b,acc,rfl,hR⟩:=hrel
  have hk:=hR.le
  have hsz:w.heap.size+1≤wr.heap.size:=by have:=hR.below.size;simpa using this
  by_cases hlt:k<s.size
  ·have HB:Hid (bat s k=(s[k]'hlt).toNat):=bat_eq hlt
   rcases(show(s[k]'hlt).toNat=32∨(s[k]'hlt).toNat=9∨(s[k]'hlt).toNat=10∨(s[k]'hlt).toNat=35∨((s[k]'hlt).toNat≠32∧(s[k]'hlt).toNat≠9∧(s[k]'hlt).toNat≠10∧(s[k]'hlt).toNat≠35) by omega) with hc|hc|hc|hc|⟨hc1,hc2,hc3,hc4⟩
   ·have HC:Hid ((s[k]'hlt).toNat=32):=hc
    have b32:(((s[k]'hlt).toNat:Int)==32)=true:=by rw[hc];rfl
    clear hc
    go_wp2_with fail
    obtain⟨b',hR'⟩:=hR.step hlt (k':=k+1) (by omega) (by omega) (fun b'=>lex_blank hlt (by rw[HB.out,HC.out];rfl)) hR.own hR.below (by have:=hR.few;omega)
    go_roundw
    case rel=>exact⟨k+1,b',acc,by go_num,hR'⟩
    case measure=>simp[intOf];omega
   ·have HC:Hid ((s[k]'hlt).toNat=9):=hc
    have b32:(((s[k]'hlt).toNat:Int)==32)=false:=by rw[hc];rfl
    have b9:(((s[k]'hlt).toNat:Int)==9)=true:=by rw[hc];rfl
    clear hc
    go_wp2_with fail
    obtain⟨b',hR'⟩:=hR.step hlt (k':=k+1) (by omega) (by omega) (fun b'=>lex_blank hlt (by rw[HB.out,HC.out];rfl)) hR.own hR.below (by have:=hR.few;omega)
    go_roundw
    case rel=>exact⟨k+1,b',acc,by go_num,hR'⟩
    case measure=>simp[intOf];omega
   ·have HC:Hid ((s[k]'hlt).toNat=10):=hc
    have b32:(((s[k]'hlt).toNat:Int)==32)=false:=by rw[hc];rfl
    have b9:(((s[k]'hlt).toNat:Int)==9)=false:=by rw[hc];rfl
    have b10:(((s[k]'hlt).toNat:Int)==10)=true:=by rw[hc];rfl
    clear hc
    go_wp2_with fail
    obtain⟨b',hR'⟩:=hR.step hlt (k':=k+1) (by omega) (by omega) (fun b'=>lex_blank hlt (by rw[HB.out,HC.out];rfl)) hR.own hR.below (by have:=hR.few;omega)
    go_roundw
    case rel=>exact⟨k+1,b',acc,by go_num,hR'⟩
    case measure=>simp[intOf];omega
   ·have HC:Hid ((s[k]'hlt).toNat=35):=hc
    have b32:(((s[k]'hlt).toNat:Int)==32)=false:=by rw[hc];rfl
    have b9:(((s[k]'hlt).toNat:Int)==9)=false:=by rw[hc];rfl
    have b10:(((s[k]'hlt).toNat:Int)==10)=false:=by rw[hc];rfl
    have b35:(((s[k]'hlt).toNat:Int)==35)=true:=by rw[hc];rfl
    clear hc
    have hpos:k<runEnd remN s k:=runEnd_pos hlt (by rw[HB.out,HC.out];rfl)
    have hle:=runEnd_le remN s k hk
    go_wp2_with fail
    go_loop [5] (fun t=>∃m:Nat,k≤m∧m≤s.size∧t=.int .i64 m∧runEnd remN s m=runEnd remN s k) (fun t=>s.size - (intOf t).toNat)
    case atStart=>exact⟨k,Nat.le_refl _,hk,rfl,rfl⟩
    case round=>
     obtain⟨m,hkm,hm,rfl,hrun⟩:=hrel
     have HM:Hid (runEnd remN s m=runEnd remN s k):=hrun
     clear hrun
     by_cases hml:m<s.size
     ·have HBm:Hid (bat s m=(s[m]'hml).toNat):=bat_eq hml
      cases hn:(((s[m]'hml).toNat:Int) !=10)
      ·go_wp2_with fail
       have e:runEnd remN s m=m:=runEnd_no (by rw[HBm.out];simp at hn;simp[remN];omega)
       have e2:m=runEnd remN s k:=by rw[←HM.out,e]
       obtain⟨b',hR'⟩:=hR.step hlt (k':=m) (by omega) (by omega) (fun b'=>by rw[lex_rem hlt (by rw[HB.out,HC.out]),←e2]) hR.own hR.below (by have:=hR.few;omega)
       go_roundw
       case rel=>exact⟨m,b',acc,rfl,hR'⟩
       case measure=>simp[intOf];omega
      ·go_wp2_with fail
       go_round
       case rel=>exact⟨m+1,by omega,by omega,by go_num,by rw[←HM.out];exact(runEnd_go hml (by rw[HBm.out];simp at hn;simp[remN];omega)).symm⟩
       case measure=>simp[intOf];omega
     ·go_wp2_with fail
      have e:runEnd remN s m=m:=runEnd_end hml
      have e2:m=runEnd remN s k:=by rw[←HM.out,e]
      obtain⟨b',hR'⟩:=hR.step hlt (k':=m) (by omega) (by omega) (fun b'=>by rw[lex_rem hlt (by rw[HB.out,HC.out]),←e2]) hR.own hR.below (by have:=hR.few;omega)
      go_roundw
      case rel=>exact⟨m,b',acc,rfl,hR'⟩
      case measure=>simp[intOf];omega
   ·have b32:(((s[k]'hlt).toNat:Int)==32)=false:=by simp;omega
    have b9:(((s[k]'hlt).toNat:Int)==9)=false:=by simp;omega
    have b10:(((s[k]'hlt).toNat:Int)==10)=false:=by simp;omega
    have b35:(((s[k]'hlt).toNat:Int)==35)=false:=by simp;omega
    have HNb:Hid (blankN (bat s k)=false):=by show blankN (bat s k)=false;rw[HB.out];simp[blankN];omega
    have HNr:Hid (bat s k≠35):=by show bat s k≠35;rw[HB.out];exact hc4
    clear hc1 hc2 hc3 hc4
    by_cases he:(one s k).err=0
    ·have HE:Hid ((one s k).err=0):=he
     have hst:=one_stop hlt he
     clear he
     go_wp2_with (first|(go_at_call 17;refine(one17_ok s k _ hs hlt HE.out).mono ?_;rintro e w1 ⟨rfl,hb1⟩;have hc1:=ownsRow_below hR.own hb1)|(at_builtin;refine wpList_append_own _ rfl (.tmp 59) (.tmp 61) 36 rfl (w.heap.size+1) 58 i0 _ 4 40 Tryz.underlying36 hi0 hz0 hz1 hz2 rfl (by decide) _ _ _ rfl ((hc1.alloc _).alloc _) ⟨w1.heap.size+1,0,none⟩ 1 1 (oneCells s k) rfl rfl ?c1 cells4_one (by have:=hR.few;unfold maxLen;omega) (by have:=hR.few;omega) ?c5 ?_;rotate_left 2;intro v' w2 hown' hgrow _))
     case c1=>have:=cells4_new (w1.alloc (.cells #[.int .i64 (one s k).kind,.int .i64 k,.string (oneText s k (one s k)),.int .i64 (one s k).n] 58)) (.int .i64 (one s k).kind) (.int .i64 k) (.string (oneText s k (one s k))) (.int .i64 (one s k).n) 58;simpa[oneCells,tokCells] using this
     case c5=>have:=hb1.size;simp;omega
     have hs1:wr.heap.size≤w1.heap.size:=hb1.size
     have hbw:Below (w.heap.size+1) (w.alloc (.cells #[.int .i64 0,.int .i64 0] 31)) w2:=((((hR.below.trans (hb1.mono hsz)).alloc (by omega) _).alloc (by simp;omega) _)).grown hgrow (by simp;omega) (fun k hk=>(hR.own.lt k hk).1)
     obtain⟨b',hR'⟩:=hR.step hlt (k':=(one s k).stop) (acc':=acc++[oneCells s k]) hst.1 hst.2 (fun b'=>lex_tok hlt HNb.out HNr.out HE.out) (by rw[flatten_snoc,List.length_append];exact hown') hbw (by have:=hR.few;simp;omega)
     go_roundw
     case rel=>exact⟨_,b',_,rfl,hR'⟩
     case measure=>simp[intOf];omega
    ·have HE:Hid ((one s k).err≠0):=he
     have hE:(((one s k).err:Int) !=0)=true:=by simp;omega
     clear he
     go_wp2_with (go_at_call 17;refine(one17_bad s k _ hs hlt).mono ?_;rintro e w1 ⟨⟨x1,x2,x3,x4,x5,rfl⟩,hb1⟩;have hbw:Below (w.heap.size+1) (w.alloc (.cells #[.int .i64 0,.int .i64 0] 31)) w1:=hR.below.trans (hb1.mono hsz);obtain⟨f0,f1,f2,f3⟩:=faultBlock hbw;have hs1:w.heap.size<w1.heap.size:=(by have:=hbw.size;simp at this;omega))
     refine bodyPost_ret (v:=.tuple #[.slice none 0 0,.agg #[.int .i64 (one s k).err,.int .i64 k]]) (by simp[results,Tryz.results7,go_sem,f0,f1,hs1]) rfl ⟨?_,?_⟩
     ·unfold TokPost
      rw[hR.bad hs hlt HNb.out HNr.out HE.out]
     ·exact(((((Below.refl _ _).alloc (Nat.le_refl _) _).trans (hbw.mono (by simp))).setCell (by simp) _).setCell (by simp) _).alloc (by simp;omega) _
  ·go_wp2_with (first|(at_builtin;refine wpList_append_own _ rfl (.tmp 64) (.tmp 68) 36 rfl (w.heap.size+1) 58 i0 _ 4 40 Tryz.underlying36 hi0 hz0 hz1 hz2 rfl (by decide) _ _ _ rfl (hR.own.alloc _) ⟨wr.heap.size,0,none⟩ 1 1 [.int .i64 0,.int .i64 s.size,.string ⟨#[]⟩,.int .i64 0] rfl rfl (cells4_new _ _ _ _ _ _) cells4_one (by have:=hR.few;unfold maxLen;omega) (by have:=hR.few;omega) (by simp;omega) ?_;intro v' w1 hown' hgrow _;have hb1:Below (w.heap.size+1) (w.alloc (.cells #[.int .i64 0,.int .i64 0] 31)) w1:=(hR.below.alloc hsz _).grown hgrow (by simp;omega) (fun k hk=>(hR.own.lt k hk).1);obtain⟨f0,f1,f2,f3⟩:=faultBlock hb1)|fail)
   refine bodyPost_ret (v:=.tuple #[v',.agg #[.int .i64 0,.int .i64 0]]) (by simp[results,Tryz.results7,go_sem,f0,f1]) rfl ⟨?_,?_⟩
   ·unfold TokPost
    rw[hR.end_ hs hlt]
    refine⟨v',rfl,?_⟩
    rw[flatten_snoc,List.length_append]
    exact ownsRow_setCell_below (ownsRow_setCell_below hown' (by simp) _) (by simp) _
   ·exact((((Below.refl _ _).alloc (Nat.le_refl _) _).trans (hb1.mono (by simp))).setCell (by simp) _).setCell (by simp) _
set_option maxRecDepth 100000 in
set_option maxHeartbeats 1000000 in
theorem tokens7_long (s:ByteArray) (w:World) (hs:6000<s.size) (hm:s.size≤maxLen):
 Calls Tryz.prog 7 #[.string s] w fun e w'=>TokPost s (w.heap.size+1) e w'∧Below w.heap.size w w':=by
 unfold maxLen at hm
 go_enter Tryz.func7,Tryz.ntmps7
 go_wp2_with fail
 refine bodyPost_ret (v:=.tuple #[.slice none 0 0,.agg #[.int .i64 1,.int .i64 0]]) (by simp[results,Tryz.results7,go_sem]) rfl ⟨?_,(Below.refl _ _).alloc (Nat.le_refl _) _⟩
 unfold TokPost
 rw[lexAll,if_pos hs]
 rfl
theorem tokens7_any (s:ByteArray) (w:World) (hm:s.size≤maxLen):Calls Tryz.prog 7 #[.string s] w fun e w'=>TokPost s (w.heap.size+1) e w'∧Below w.heap.size w w':=by
 by_cases hs:s.size≤6000
 ·exact tokens7 s w hs
 ·exact tokens7_long s w (by omega) hm
end Go.Proofs.YtagdihffmjopaaaGreatDoor
namespace Go.Proofs.YtagdihffmjopaaaGreatDoor
set_option linter.all false
open Go.RowKit
structure TokR where
 kind:Nat
 pos:Nat
 text:ByteArray
 num:Nat
def TokR.cells (r:TokR):List Value:=tokCells r.kind r.pos r.text r.num
structure TokR.ok (r:TokR):Prop where
 name:r.kind=2→nameOK r.text
 posb:r.pos≤6000
 textb:r.text.size≤6000
 numb:r.num≤9223372036854775807
theorem data_len (x:ByteArray):x.data.toList.length=x.size:=by rw[Array.length_toList];rfl
theorem name_ok {s:ByteArray} {i:Nat} (hi:i<s.size) (hl:letN (bat s i)=true):nameOK (s.extract i (runEnd namN s i)):=by
 have hn:namN (bat s i)=true:=by simp[namN,hl]
 have h1:=runEnd_pos hi hn
 have h2:=runEnd_le namN s i (Nat.le_of_lt hi)
 have hsz:(s.extract i (runEnd namN s i)).size=runEnd namN s i - i:=by simp;omega
 refine⟨fun e=>?_,fun hm=>?_⟩
 ·have:(s.extract i (runEnd namN s i)).toList.length=0:=by rw[e];rfl
  rw[Lib.toList_data,data_len] at this
  omega
 ·rw[Lib.toList_data] at hm
  obtain⟨k,hk,e⟩:=List.getElem_of_mem hm
  have hk':k<runEnd namN s i - i:=by
   have h4:=data_len (s.extract i (runEnd namN s i))
   omega
  have hb:(s.extract i (runEnd namN s i))[k]'(by omega)=s[i+k]'(by omega):=by
   rw[ByteArray.getElem_extract]
  have hx:s[i+k]'(by omega)=58:=by rw[←hb];exact e
  have hp:=runEnd_all namN s i (i+k) (by omega) (by omega)
  rw[bat_eq (by omega),hx] at hp
  exact absurd hp (by decide)
theorem one_good {s:ByteArray} {i:Nat} (hs:s.size≤6000) (hi:i<s.size) (he:(one s i).err=0):TokR.ok ⟨(one s i).kind,i,oneText s i (one s i),(one s i).n⟩:=by
 have hstop:=one_stop hi he
 refine⟨fun hk=>?_,by show i≤6000;omega,?_,?_⟩
 ·have hk:(one s i).kind=2:=hk
  show nameOK (oneText s i (one s i))
  by_cases hl:letN (bat s i)=true
  ·have e:=one_letter hl
   unfold oneText
   rw[if_neg (by omega)]
   rw[e] at hk⊢
   by_cases hw:isWord (s.extract i (runEnd namN s i)).toList=true
   ·rw[if_pos hw] at hk
    exact absurd hk (fun e=>by simp at e)
   ·rw[if_neg hw] at hk⊢
    by_cases h20:20<runEnd namN s i - i
    ·rw[if_pos h20] at hk
     exact absurd hk (fun e=>by simp at e)
    ·rw[if_neg h20]
     exact name_ok hi hl
  ·exfalso
   unfold one at hk
   simp only[hl] at hk
   by_cases h1:digN (bat s i)=true
   ·rw[if_pos h1] at hk
    by_cases h2:numVal s i (runEnd digN s i - i)≤9223372036854775807
    ·rw[if_pos h2] at hk;exact absurd hk (fun e=>by simp at e)
    ·rw[if_neg h2] at hk;exact absurd hk (fun e=>by simp at e)
   ·rw[if_neg h1] at hk
    rw[if_neg (by decide)] at hk
    by_cases h2:(bat s i==39&&letN (bat s (i+1)))=true
    ·rw[if_pos h2] at hk
     by_cases h3:21<runEnd namN s (i+1) - i
     ·rw[if_pos h3] at hk;exact absurd hk (fun e=>by simp at e)
     ·rw[if_neg h3] at hk;exact absurd hk (fun e=>by simp at e)
    ·rw[if_neg h2] at hk
     by_cases h3:signLen s i=0
     ·rw[if_pos h3] at hk;exact absurd hk (fun e=>by simp at e)
     ·rw[if_neg h3] at hk;exact absurd hk (fun e=>by simp at e)
 ·show(oneText s i (one s i)).size≤6000
  unfold oneText
  split
  ·decide
  ·simp;omega
 ·show(one s i).n≤9223372036854775807
  unfold one
  by_cases h1:digN (bat s i)=true
  ·rw[if_pos h1]
   by_cases h2:numVal s i (runEnd digN s i - i)≤9223372036854775807
   ·rw[if_pos h2];exact h2
   ·rw[if_neg h2];exact Nat.zero_le _
  ·rw[if_neg h1]
   split
   ·split
    ·exact Nat.zero_le _
    ·split<;>exact Nat.zero_le _
   ·split
    ·split<;>exact Nat.zero_le _
    ·split<;>exact Nat.zero_le _
theorem lex_good {s:ByteArray} (hs:s.size≤6000):∀(b i:Nat) (rs:List TokR) (ts:List (List Value)),i≤s.size→rs.length≤i→(∀r∈rs,r.ok)→lexFrom b s i (rs.map TokR.cells)=.inr ts→
 ∃rs':List TokR,ts=(rs'++[(⟨0,s.size,⟨#[]⟩,0⟩:TokR)]).map TokR.cells∧rs'.length≤6000∧∀r∈rs',r.ok:=by
 intro b
 induction b with
 |zero=>
  intro i rs ts hi hl hr h
  have h':Sum.inr (rs.map TokR.cells++[tokCells 0 s.size ⟨#[]⟩ 0])=(Sum.inr ts:LexOut):=h
  refine⟨rs,?_,by omega,hr⟩
  have:=Sum.inr.inj h'
  rw[←this]
  simp[TokR.cells]
 |succ b ih=>
  intro i rs ts hi hl hr h
  by_cases hlt:i<s.size
  ·cases hb:blankN (bat s i)
   ·by_cases h35:bat s i=35
    ·rw[lex_rem hlt h35] at h
     have h1:=runEnd_le remN s i hi
     have h2:=runEnd_ge remN s i
     exact ih _ rs ts h1 (by omega) hr h
    ·by_cases he:(one s i).err=0
     ·rw[lex_tok hlt hb h35 he] at h
      have h1:=one_stop hlt he
      have h2:=one_good hs hlt he
      refine ih (one s i).stop (rs++[⟨(one s i).kind,i,oneText s i (one s i),(one s i).n⟩]) ts h1.2 (by simp;omega) ?_ (by simpa[TokR.cells,oneCells] using h)
      intro r hm
      rcases List.mem_append.1 hm with hm|hm
      ·exact hr r hm
      ·obtain rfl:r=_:=by simpa using hm
       exact h2
     ·rw[lex_bad hlt hb h35 he] at h
      exact absurd h (by simp)
   ·rw[lex_blank hlt hb] at h
    exact ih _ rs ts (by omega) (by omega) hr h
  ·rw[lex_end hlt] at h
   refine⟨rs,?_,by omega,hr⟩
   have:=Sum.inr.inj h
   rw[←this]
   simp[TokR.cells]
theorem flat_get4 {us:List (List Value)} (h4:∀x∈us,x.length=4):∀{idx:Nat} {x:List Value},us[idx]? =some x→∀o,o<4→us.flatten[idx*4+o]? =x[o]? :=by
 induction us with
 |nil=>intro idx x h;simp at h
 |cons y r ih=>
  intro idx x h o ho
  have hy:=h4 y (List.mem_cons_self ..)
  rw[List.flatten_cons]
  cases idx with
  |zero=>
   obtain rfl:y=x:=by simpa using h
   rw[List.getElem?_append_left (by omega)]
   congr 1
   omega
  |succ idx=>
   rw[List.getElem?_append_right (by omega),hy]
   have:=ih (fun z hz=>h4 z (List.mem_cons_of_mem _ hz)) (idx:=idx) (x:=x) (by simpa using h) o ho
   rw[←this]
   congr 1
   omega
def tokZ:TokR:=⟨0,0,⟨#[]⟩,0⟩
def tkOf (rs:List TokR):Tk:=⟨rs.length,fun j=>((rs[j]?).getD tokZ).kind,fun j=>((rs[j]?).getD tokZ).pos,fun j=>((rs[j]?).getD tokZ).text,fun j=>((rs[j]?).getD tokZ).num⟩
theorem tok_reader {s:ByteArray} {w':World} {base:Nat} {v:Value} {ts:List (List Value)} (hs:s.size≤6000) (hl:lexAll s=.inr ts) (ho:w'.ownsRow base 58 4 v ts.length ts.flatten):
 ∃(t:Tk) (tb cap:Nat),v=.slice (some ⟨tb,0,none⟩) t.len cap∧base≤tb∧t.Good∧Row w' tb t:=by
 have hl':lexFrom s.size s 0 ([].map TokR.cells)=.inr ts:=by
  unfold lexAll at hl
  rw[if_neg (by omega)] at hl
  exact hl
 obtain⟨rs',e,hlen,hok⟩:=lex_good hs s.size 0 [] ts (Nat.zero_le _) (Nat.zero_le _) (fun r hr=>by cases hr) hl'
 obtain⟨rs,hrs⟩:∃rs,rs=rs'++[(⟨0,s.size,⟨#[]⟩,0⟩:TokR)]:=⟨_,rfl⟩
 rw[←hrs] at e
 have hokz:∀r∈rs,r.ok:=by
  intro r hr
  rw[hrs] at hr
  rcases List.mem_append.1 hr with hr|hr
  ·exact hok r hr
  ·obtain rfl:r=_:=by simpa using hr
   exact⟨fun h=>absurd h (show ¬(0:Nat)=2 by decide),hs,show(⟨#[]⟩:ByteArray).size≤6000 by decide,Nat.zero_le _⟩
 have hget:∀j:Nat,((rs[j]?).getD tokZ).ok:=by
  intro j
  cases h:rs[j]? with
  |none=>exact⟨fun h=>absurd h (by decide),by decide,by decide,by decide⟩
  |some r=>exact hokz r (List.mem_of_getElem? h)
 have hrl:rs.length=rs'.length+1:=by rw[hrs];simp
 have htl:ts.length=rs.length:=by rw[e];simp
 rcases ho.2 with⟨_,h2⟩|⟨tb,cap,cur,h1,hb,hg,hnc,hcm,hcs,htake⟩
 ·omega
 ·refine⟨tkOf rs,tb,cap,?_,hb,⟨fun j hj=>(hget j).name hj,by show 0<rs.length;omega,by show rs.length≤6001;omega,?_,fun j=>(hget j).posb,fun j=>(hget j).textb,fun j=>(hget j).numb⟩,?_⟩
  ·show v=.slice (some ⟨tb,0,none⟩) rs.length cap
   rw[h1,htl]
  ·show((rs[rs.length - 1]?).getD tokZ).kind=0
   have:rs[rs.length - 1]? =some ⟨0,s.size,⟨#[]⟩,0⟩:=by rw[hrs];simp
   rw[this]
   rfl
  ·have h4:∀x∈ts,x.length=4:=by
    intro x hx
    rw[e] at hx
    obtain⟨r,_,rfl⟩:=List.mem_map.1 hx
    rfl
   have hc:∀j:Nat,j<rs.length→∀o:Nat,o<4→w'.cell? ⟨tb,j*4+o,none⟩=((rs[j]?).getD tokZ).cells[o]? :=by
    intro j hj o ho'
    have hj':rs[j]? =some rs[j]:=List.getElem?_eq_getElem hj
    have hx:ts[j]? =some rs[j].cells:=by rw[e,List.getElem?_map,hj'];rfl
    have hf:=flat_get4 h4 hx o ho'
    have hlt:j*4+o<ts.length*4:=by omega
    rw[cell_of_row w' tb (j*4+o) cur 58 (0,0) hg]
    have e8:(cur.toList.take (ts.length*4))[j*4+o]? =cur[j*4+o]? :=by rw[List.getElem?_take,if_pos hlt];simp
    rw[←e8,htake,hf,hj']
    rfl
   exact⟨(Array.getElem?_eq_some_iff.1 hg).1,fun j hj=>hc j hj 0 (by decide),fun j hj=>hc j hj 1 (by decide),fun j hj=>hc j hj 2 (by decide),fun j hj=>hc j hj 3 (by decide)⟩
end Go.Proofs.YtagdihffmjopaaaGreatDoor
namespace Go.Proofs.YtagdihffmjopaaaGreatDoor
set_option linter.all false
open Go.RowKit
def ParseZ (w0:World) (e:Ending) (w':World):Prop:=
 ∃(kind pos n m:Int) (name:ByteArray) (ko:Option Addr) (kl kc:Nat) (k a:Int),e=.returned (.tuple #[.agg (nodeC kind pos n m name (.slice ko kl kc)),.agg #[.int .i64 k,.int .i64 a]])∧Below w0.heap.size w0 w'∧(k=0→kind=0∧NodeIn w0.heap.size True w' (nodeC kind pos n m name (.slice ko kl kc)).toList∧∀f,nsz f w' (nodeC kind pos n m name (.slice ko kl kc)).toList≤96100)
structure PF (w0 w:World) (rb tb cap:Nat) (t:Tk):Prop where
 rd:Rd w rb tb cap t 0 0 0
 z1:Blk w w0.heap.size zeroC
 z2:w.heap[w0.heap.size+1]? =some (.cells #[.int .i64 0,.int .i64 0] 31 (0,0))
 below:Below w0.heap.size w0 w
 lt:w0.heap.size+1<rb
section
variable{w0 w W:World} {rb tb cap j:Nat} {t:Tk} {kj aj:Int}
theorem PF.keep (hP:PF w0 w rb tb cap t) (st:St w rb tb cap t W j kj aj):Blk W w0.heap.size zeroC∧W.heap[w0.heap.size+1]? =some (.cells #[.int .i64 0,.int .i64 0] 31 (0,0))∧w0.heap.size≠rb∧w0.heap.size+1≠rb∧w0.heap.size≠w0.heap.size+1:=by
 have h1:=hP.lt
 have h2:=st.lb
 exact⟨hP.z1.kp st.kp (by omega),(st.kp.block _ (by omega) (by omega)).trans hP.z2,by omega,by omega,by omega⟩
theorem PF.down (hP:PF w0 w rb tb cap t) (st:St w rb tb cap t W j kj aj):Below w0.heap.size w0 W:=by
 have h1:=hP.lt
 have h2:=st.lb
 have hb:=hP.below
 exact⟨st.kp.os.trans hb.os,st.kp.tape.trans hb.tape,st.kp.output.trans hb.output,Nat.le_trans hb.size st.kp.size,fun k hk=>(st.kp.block k (by have:=hb.size;omega) (by omega)).trans (hb.block k hk)⟩
end
set_option maxRecDepth 100000 in
theorem results_two {tmps:Array Value} {b1 b2:Nat} (h1:tmps.getD 2 undef=.pointer (some ⟨b1,0,none⟩)) (h2:tmps.getD 3 undef=.pointer (some ⟨b2,0,none⟩)) {W:World} {c0 c1 c2 c3 c4 c5 c6 c7 c8 c9 c10:Value} {k a:Int} (hB:Blk W b1 #[c0,c1,c2,c3,c4,c5,c6,c7,c8,c9,c10]) (hC:W.heap[b2]? =some (.cells #[.int .i64 k,.int .i64 a] 31 (0,0))):
 (results Tryz.f4 tmps).run Tryz.prog W=.ok (.tuple #[.agg #[c0,c1,c2,c3,c4,c5,c6,c7,c8,c9,c10],.agg #[.int .i64 k,.int .i64 a]]) W:=by
 have y:=hB.cell
 have y2:∀o,W.cell? ⟨b2,o,none⟩=(#[.int .i64 k,.int .i64 a]:Array Value)[o]? :=fun o=>cell_of_row _ _ o _ 31 (0,0) hC
 have h1':tmps[2]?.getD undef=.pointer (some ⟨b1,0,none⟩):=by simpa using h1
 have h2':tmps[3]?.getD undef=.pointer (some ⟨b2,0,none⟩):=by simpa using h2
 simp[results,Tryz.results4,h1',h2',go_sem,y,y2]
theorem parse_ret {act:Act} {w0 wf:World} (hd:act.defers=[]) (h1:act.tmps.getD 2 undef=.pointer (some ⟨w0.heap.size,0,none⟩)) (h2:act.tmps.getD 3 undef=.pointer (some ⟨w0.heap.size+1,0,none⟩)) {kind pos n m:Int} {name:ByteArray} {ko:Option Addr} {kl kc:Nat} {k a:Int}
 (hB:Blk wf w0.heap.size (nodeC kind pos n m name (.slice ko kl kc))) (hC:wf.heap[w0.heap.size+1]? =some (.cells #[.int .i64 k,.int .i64 a] 31 (0,0))) (hb:Below w0.heap.size w0 wf) (hn:k=0→kind=0∧NodeIn w0.heap.size True wf (nodeC kind pos n m name (.slice ko kl kc)).toList∧∀f,nsz f wf (nodeC kind pos n m name (.slice ko kl kc)).toList≤96100):
 bodyPost Tryz.prog Tryz.f4 (ParseZ w0) .ret act wf:=
 bodyPost_ret (results_two h1 h2 hB hC) hd ⟨kind,pos,n,m,name,ko,kl,kc,k,a,rfl,hb,hn⟩
theorem stored_a {W:World} {b:Nat} (hB:Blk W b zeroC) (hC:W.heap[b+1]? =some (.cells #[.int .i64 0,.int .i64 0] 31 (0,0))) (c0 c1 c2 c3 c4 c5 c6 c7 c8 c9 c10:Value) (k a:Int):
 Blk (((set11 W b c0 c1 c2 c3 c4 c5 c6 c7 c8 c9 c10).setCell ⟨b+1,0,none⟩ (.int .i64 k)).setCell ⟨b+1,1,none⟩ (.int .i64 a)) b #[c0,c1,c2,c3,c4,c5,c6,c7,c8,c9,c10]∧(((set11 W b c0 c1 c2 c3 c4 c5 c6 c7 c8 c9 c10).setCell ⟨b+1,0,none⟩ (.int .i64 k)).setCell ⟨b+1,1,none⟩ (.int .i64 a)).heap[b+1]? =some (.cells #[.int .i64 k,.int .i64 a] 31 (0,0)):=by
 have h1:b≠b+1:=by omega
 refine⟨((Blk.set11 hB c0 c1 c2 c3 c4 c5 c6 c7 c8 c9 c10).other (p:=⟨b+1,0,none⟩) h1 _).other (p:=⟨b+1,1,none⟩) h1 _,?_⟩
 have hs:(set11 W b c0 c1 c2 c3 c4 c5 c6 c7 c8 c9 c10).heap[b+1]? =W.heap[b+1]? :=Same.set11 (S:=fun x=>x=b+1) (by omega) c0 c1 c2 c3 c4 c5 c6 c7 c8 c9 c10 (b+1) rfl (Array.getElem?_eq_some_iff.1 hC).1
 have e1:((set11 W b c0 c1 c2 c3 c4 c5 c6 c7 c8 c9 c10).setCell ⟨b+1,0,none⟩ (.int .i64 k)).heap[b+1]? =some (.cells #[.int .i64 k,.int .i64 0] 31 (0,0)):=by
  rw[heap_setCell_same _ (b+1) 0 _ 31 _ (hs.trans hC)]
  rfl
 rw[heap_setCell_same _ (b+1) 1 _ 31 _ e1]
 rfl
theorem below_a {w0 W:World} (h:Below w0.heap.size w0 W) (c0 c1 c2 c3 c4 c5 c6 c7 c8 c9 c10 d e:Value):Below w0.heap.size w0 (((set11 W w0.heap.size c0 c1 c2 c3 c4 c5 c6 c7 c8 c9 c10).setCell ⟨w0.heap.size+1,0,none⟩ d).setCell ⟨w0.heap.size+1,1,none⟩ e):=
 ((Below.set11 h (Nat.le_refl _) c0 c1 c2 c3 c4 c5 c6 c7 c8 c9 c10).setCell (p:=⟨w0.heap.size+1,0,none⟩) (Nat.le_succ _) d).setCell (p:=⟨w0.heap.size+1,1,none⟩) (Nat.le_succ _) e
theorem kind_yes {w:World} {rb tb cap i:Nat} {t:Tk} {k a:Int} (h:Rd w rb tb cap t i k a) (ahead:Nat) (ha:ahead≤2) (q:Int) (hb:kindB t i k ahead q=true):Calls Tryz.prog 10 #[.pointer (some ⟨rb,0,none⟩),.int .i64 ahead,.int .i64 q] w fun e w'=>e=.returned (.bool true)∧Below w.heap.size w w':=by
 have:=kind22 h ahead ha q
 rwa [hb] at this
theorem kind_no {w:World} {rb tb cap i:Nat} {t:Tk} {k a:Int} (h:Rd w rb tb cap t i k a) (ahead:Nat) (ha:ahead≤2) (q:Int) (hb:kindB t i k ahead q=false):Calls Tryz.prog 10 #[.pointer (some ⟨rb,0,none⟩),.int .i64 ahead,.int .i64 q] w fun e w'=>e=.returned (.bool false)∧Below w.heap.size w w':=by
 have:=kind22 h ahead ha q
 rwa [hb] at this
theorem lex_inl {s:ByteArray} {k i:Nat} (h:lexAll s=.inl (k,i)):k≠0:=by
 have go:∀(b i':Nat) (acc:List (List Value)),lexFrom b s i' acc=.inl (k,i)→k≠0:=by
  intro b
  induction b with
  |zero=>intro i' acc h;exact absurd h (by simp[lexFrom])
  |succ b ih=>
   intro i' acc h
   by_cases hlt:i'<s.size
   ·cases hb:blankN (bat s i')
    ·by_cases h35:bat s i'=35
     ·rw[lex_rem hlt h35] at h;exact ih _ _ h
     ·by_cases he:(one s i').err=0
      ·rw[lex_tok hlt hb h35 he] at h;exact ih _ _ h
      ·rw[lex_bad hlt hb h35 he] at h
       simp at h
       rw[←h.1]
       exact he
    ·rw[lex_blank hlt hb] at h;exact ih _ _ h
   ·rw[lex_end hlt] at h;exact absurd h (by simp)
 unfold lexAll at h
 split at h
 ·simp at h;omega
 ·exact go _ _ _ h
end Go.Proofs.YtagdihffmjopaaaGreatDoor
