/- The project's lexer: all tokens of a text. -/
import Derived.Test.YtdplogkmkgekdaaGreatDoorLxg
import Derived.Test.YtdplogkmkgekdaaGreatDoorRefTok
import Derived.Lib.OthersKept
import Derived.WalkSmall
import Derived.Deep.LoopGhost
set_option linter.all false
set_option maxRecDepth 100000
set_option maxHeartbeats 4000000
namespace Go.Proofs.YtdplogkmkgekdaaGreatDoor.Pj
open Go.RowKit
theorem skipP {w:World} {rb tb i:Nat} {cap:Cp} {t:Tk} (h:Rd w rb tb cap t i 0 0) (s:ByteArray) (hs:s∈askS):
 Calls Tryz.prog 91 #[.pointer (some ⟨rb,0,none⟩),.string s] w fun e w'=>∃b i',e=.returned (.bool b)∧Eaten t s i 0 b i'∧Rd w' rb tb cap t i' 0 0∧Kp w.heap.size rb w w':=by
 have HS:Hid (s∈askS):=hs
 clear hs
 cases hb:isB t i 0 0 s
 ·have HB:Hid (isB t i 0 0 s=false):=hb
  go_enter Tryz.func91,Tryz.ntmps91
  go_wp2_with (go_at_call 89;refine(isP h s HS.out).mono ?_;rintro e w1 ⟨rfl,hb1⟩)
  go_ret
  exact⟨false,i,rfl,⟨HB.out.symm,by simp,fun _=>rfl⟩,h.below hb1,Kp.of_below hb1⟩
 ·have HB:Hid (isB t i 0 0 s=true):=hb
  have HL:Hid (i+1<t.len):=(isB_lt h.good h.lt hb).2
  go_enter Tryz.func91,Tryz.ntmps91
  go_wp2_with (first|(go_at_call 89;refine(isP h s HS.out).mono ?_;rintro e w1 ⟨rfl,hb1⟩;have h1:=h.below hb1)|(go_at_call 145;refine(takeP h1 HL.out).mono ?_;rintro e w2 ⟨rfl,hx⟩))
  go_ret
  exact⟨true,i+1,rfl,⟨HB.out.symm,fun _=>⟨rfl,rfl⟩,by simp⟩,hx.rd,(Kp.of_below hb1).trans (hx.kp.mono hb1.size)⟩
theorem wrongP {w:World} {rb tb i:Nat} {cap:Cp} {t:Tk} (h:Rd w rb tb cap t i 0 0):
 Calls Tryz.prog 164 #[.pointer (some ⟨rb,0,none⟩)] w fun e w'=>e=.returned (.agg #[.int .i64 (t.pos i)])∧Below w.heap.size w w':=by
 have hfd:=fld103_1
 have h0:=h.alloc (.cells #[.int .i64 0] 43)
 go_enter Tryz.func164,Tryz.ntmps164
 go_wp2_with fail
 refine(tokP h0).mono ?_
 rintro e w1 ⟨rfl,hb1⟩
 have hz:w1.heap[w.heap.size]? =some (.cells #[.int .i64 0] 43 (0,0)):=(hb1.block _ (by simp)).trans (heap_alloc_new w _)
 have cz:∀o,w1.cell? ⟨w.heap.size,o,none⟩=(#[.int .i64 0]:Array Value)[o]? :=fun o=>cell_of_row _ _ o _ 43 (0,0) hz
 have fz:∀o,w1.frozen? ⟨w.heap.size,o,none⟩=false:=fun o=>frozen_of_row _ _ o _ 43 hz
 have hb2:Below w.heap.size w (w1.setCell ⟨w.heap.size,0,none⟩ (.int .i64 (t.pos i))):=(((Below.refl _ _).alloc (Nat.le_refl _) _).trans (hb1.mono (by simp))).setCell (Nat.le_refl _) _
 have hc:(w1.setCell ⟨w.heap.size,0,none⟩ (.int .i64 (t.pos i))).cell? ⟨w.heap.size,0,none⟩=some (.int .i64 (t.pos i)):=by
  rw[cell_of_row _ _ 0 #[.int .i64 (t.pos i)] 43 (0,0) (by rw[heap_setCell_same _ _ 0 _ 43 _ hz];rfl)]
  rfl
 have HB2:Hid (Below w.heap.size w (w1.setCell ⟨w.heap.size,0,none⟩ (.int .i64 (t.pos i)))):=hb2
 have HC:Hid ((w1.setCell ⟨w.heap.size,0,none⟩ (.int .i64 (t.pos i))).cell? ⟨w.heap.size,0,none⟩=some (.int .i64 (t.pos i))):=hc
 clear hb1 hb2 hc hz h0 h
 go_wp2_with fail
 exact bodyPost_ret (v:=.agg #[.int .i64 (t.pos i)]) (by simp[results,Tryz.results164,go_sem,HC.out]) rfl ⟨rfl,HB2.out⟩
theorem mustP {w:World} {rb tb i:Nat} {cap:Cp} {t:Tk} (h:Rd w rb tb cap t i 0 0) (s:ByteArray) (hs:s∈askS):
 Calls Tryz.prog 87 #[.pointer (some ⟨rb,0,none⟩),.string s] w fun e w'=>(e=.returned (.tuple #[])∧Nx w rb tb cap t i 0 True w' (i+1) 0 0∧isB t i 0 0 s=true)∨(e=throwE (t.pos i)∧Kp w.heap.size rb w w'∧isB t i 0 0 s=false):=by
 have HS:Hid (s∈askS):=hs
 clear hs
 go_enter Tryz.func87,Tryz.ntmps87
 go_wp2_with (first|(go_at_call 91;refine(skipP h s HS.out).mono ?_;rintro e w1 ⟨b,i1,rfl,hE,h1,hk1⟩;cases b)|(go_at_call 164;have hi1:=hE.no rfl;subst hi1;refine(wrongP h1).mono ?_;rintro e w2 ⟨rfl,hb2⟩))
 all_goals first
  |(go_end0;have hi1:=(hE.yes rfl).1;subst hi1;exact .inl ⟨rfl,⟨h1,hk1,by omega,fun e=>e,fun _ _=>by omega⟩,hE.is_.symm⟩)
  |exact⟨rfl,.inr ⟨rfl,hk1.trans ((Kp.of_below hb2).mono hk1.size),hE.is_.symm⟩⟩
end Go.Proofs.YtdplogkmkgekdaaGreatDoor.Pj
namespace Go.Proofs.YtdplogkmkgekdaaGreatDoor.Pj
open Go.RowKit
theorem kindB_lt {t:Tk} {i:Nat} (hg:t.Good) (hi:i<t.len) {q:Int} (hq:q≠0) (h:kindB t i 0 0 q=true):i+1<t.len:=by
 unfold kindB at h
 simp only[Nat.add_zero,Bool.and_eq_true,beq_iff_eq,decide_eq_true_eq] at h
 rcases Nat.lt_or_ge (i+1) t.len with h5|h5
 ·exact h5
 ·have e:i=t.len - 1:=by omega
  have hl:=hg.last
  rw[←e] at hl
  rw[hl] at h
  exact absurd h.2.2.symm hq
theorem kindB_eq {t:Tk} {i:Nat} (hi:i<t.len) (q:Int):kindB t i 0 0 q=((t.kind i:Int)==q):=by
 unfold kindB
 simp[hi]
theorem Hid_nx {p:Prop} (h:p):Hid p:=h
theorem ret4_nx {w w1 w2:World} {rb tb i i' b:Nat} {cap:Cp} {t:Tk} {c0 c1 c2 c3:Value} (HK:Kp w.heap.size rb w w1) (hw:w.heap.size≤w1.heap.size) (hx:Nx w1 rb tb cap t i 0 True w2 i' 0 0) (hb:w.heap.size≤b) (hr:rb<b) {a0 a1 a2 a3:Value} (hB:w2.heap[b]? =some (.cells #[a0,a1,a2,a3] 67 (0,0))):
 Nx w rb tb cap t i 0 True ((((w2.setCell ⟨b,0,none⟩ c0).setCell ⟨b,1,none⟩ c1).setCell ⟨b,2,none⟩ c2).setCell ⟨b,3,none⟩ c3) i' 0 0∧
 ((((w2.setCell ⟨b,0,none⟩ c0).setCell ⟨b,1,none⟩ c1).setCell ⟨b,2,none⟩ c2).setCell ⟨b,3,none⟩ c3).heap[b]? =some (.cells #[c0,c1,c2,c3] 67 (0,0)):=by
 have h0:=HK.trans (hx.kp.mono hw)
 refine⟨⟨(((hx.rd.setCell (p:=⟨b,0,none⟩) hr c0).setCell (p:=⟨b,1,none⟩) hr c1).setCell (p:=⟨b,2,none⟩) hr c2).setCell (p:=⟨b,3,none⟩) hr c3,?_,hx.le,fun e=>e,hx.go⟩,set4 hB _ _ _ _⟩
 have h2:=Kp.setCell (p:=⟨b,0,none⟩) h0 (.inl hb) c0
 have h3:=Kp.setCell (p:=⟨b,1,none⟩) h2 (.inl hb) c1
 have h4:=Kp.setCell (p:=⟨b,2,none⟩) h3 (.inl hb) c2
 exact Kp.setCell (p:=⟨b,3,none⟩) h4 (.inl hb) c3
theorem takeKindP {w:World} {rb tb i:Nat} {cap:Cp} {t:Tk} (h:Rd w rb tb cap t i 0 0) (q:Int) (hq:q≠0):
 Calls Tryz.prog 161 #[.pointer (some ⟨rb,0,none⟩),.int .i64 q] w fun e w'=>(e=.returned (.agg #[.int .i64 (t.kind i),.int .i64 (t.pos i),.string (t.text i),.int .i64 (t.num i)])∧Nx w rb tb cap t i 0 True w' (i+1) 0 0∧kindB t i 0 0 q=true)∨(e=throwE (t.pos i)∧Kp w.heap.size rb w w'∧kindB t i 0 0 q=false):=by
 have h0:=h.alloc (.cells #[.int .i64 0,.int .i64 0,.string ⟨#[]⟩,.int .i64 0] 67)
 have hfd:=fld67_0
 have HK:Hid (kindB t i 0 0 q=((t.kind i:Int)==q)):=kindB_eq h.lt q
 have HQ:Hid (q≠0):=hq
 clear hq
 go_enter Tryz.func161,Tryz.ntmps161
 go_wp2_with fail
 refine(tokP h0).mono ?_
 rintro e w1 ⟨rfl,hb1⟩
 have hsz:=hb1.size
 have hz:w1.heap[w.heap.size]? =some (.cells #[.int .i64 0,.int .i64 0,.string ⟨#[]⟩,.int .i64 0] 67 (0,0)):=(hb1.block _ (by simp)).trans (heap_alloc_new w _)
 have h1:=h0.below hb1
 have hlt1:w.heap.size<w1.heap.size:=(Array.getElem?_eq_some_iff.1 hz).1
 have hrb:rb<w.heap.size:=h.l
 have HP:Hid (Kp w.heap.size rb w w1):=Kp.of_below (((Below.refl _ _).alloc (Nat.le_refl _) _).trans (hb1.mono (by simp)))
 cases hb:kindB t i 0 0 q
 ·have hne:((t.kind i:Int)==q)=false:=HK.out.symm.trans hb
  have HB:Hid (kindB t i 0 0 q=false):=hb
  clear hz hsz hb
  go_wp2_with (go_at_call 164;refine(wrongP h1).mono ?_;rintro e w2 ⟨rfl,hb2⟩)
  exact⟨rfl,.inr ⟨rfl,HP.out.trans ((Kp.of_below hb2).mono (by simpa using Nat.le_of_lt hlt1)),HB.out⟩⟩
 ·have hne:((t.kind i:Int)==q)=true:=HK.out.symm.trans hb
  have HB:Hid (kindB t i 0 0 q=true):=hb
  have HL:Hid (i+1<t.len):=kindB_lt h.good h.lt HQ.out hb
  clear hb
  go_wp2_with fail
  refine(takeP h1 HL.out).mono ?_
  rintro e w2 ⟨rfl,hx⟩
  have hz2:w2.heap[w.heap.size]? =some (.cells #[.int .i64 0,.int .i64 0,.string ⟨#[]⟩,.int .i64 0] 67 (0,0)):=(hx.kp.block _ hlt1 (by omega)).trans hz
  have hk:=ret4_nx (w:=w) (b:=w.heap.size) (c0:=.int .i64 (t.kind i)) (c1:=.int .i64 (t.pos i)) (c2:=.string (t.text i)) (c3:=.int .i64 (t.num i)) HP.out (Nat.le_of_lt hlt1) hx (Nat.le_refl _) hrb hz2
  have HX:=Hid_nx hk
  have cz:∀o,w2.cell? ⟨w.heap.size,o,none⟩=(#[.int .i64 0,.int .i64 0,.string ⟨#[]⟩,.int .i64 0]:Array Value)[o]? :=fun o=>cell_of_row _ _ o _ 67 (0,0) hz2
  have fz:∀o,w2.frozen? ⟨w.heap.size,o,none⟩=false:=fun o=>frozen_of_row _ _ o _ 67 hz2
  clear hk hz2 hz hsz h0 h1 hx
  go_wp2_with fail
  go_light
  exact bodyPost_ret (v:=.agg #[.int .i64 (t.kind i),.int .i64 (t.pos i),.string (t.text i),.int .i64 (t.num i)]) (results_tok rfl (by rfl) HX.out.2) rfl (.inl ⟨rfl,HX.out.1,HB.out⟩)
theorem nodeP {w:World} {rb tb i:Nat} {cap:Cp} {t:Tk} (h:Rd w rb tb cap t i 0 0) (ki:Int):
 Calls Tryz.prog 37 #[.pointer (some ⟨rb,0,none⟩),.int .i64 ki] w fun e w'=>e=.returned (.agg (nodeC ki (t.pos i) 0 0 ⟨#[]⟩ nl))∧Below w.heap.size w w':=by
 have hl:=h.l
 have hfd:=fld103_1
 go_enter Tryz.func37,Tryz.ntmps37
 go_wp2_with (go_at_call 38;refine(tokP (h.alloc _)).mono ?_;rintro e w1 ⟨rfl,hb1⟩;obtain⟨hc,hf⟩:=bcell hb1;have hz:w.heap.size<w1.heap.size:=(by have:=hb1.size;simp at this;omega))
 exact bodyPost_ret (v:=.agg (nodeC ki (t.pos i) 0 0 ⟨#[]⟩ (.slice none 0 0))) (by simp[results,Tryz.results37,go_sem,hc]) rfl ⟨rfl,Below.set11 (((Below.refl _ _).alloc (Nat.le_refl _) _).trans (hb1.mono (by simp))) (Nat.le_refl _) _ _ _ _ _ _ _ _ _ _ _⟩
theorem nameP {w:World} {rb tb i:Nat} {cap:Cp} {t:Tk} (h:Rd w rb tb cap t i 0 0):
 Calls Tryz.prog 88 #[.pointer (some ⟨rb,0,none⟩)] w fun e w'=>(∃x i',e=.returned (.string x)∧x.size≤6000∧Nx w rb tb cap t i 0 True w' i' 0 0∧nameOK x∧Ev (fun _=>gName t) ⟨i,0,0⟩ (x,⟨i',0,0⟩))∨ThrP w rb ⟨i,0,0⟩ (fun _=>gName t) e w':=by
 have hfd:=fld103_2
 have HT:Hid ((t.text i).size≤6000):=h.good.textb i
 have HN:Hid (kindB t i 0 0 2=true→nameOK (t.text i)):=fun e=>h.good.name i (by rw[kindB_eq h.lt,beq_iff_eq] at e;omega)
 go_enter Tryz.func88,Tryz.ntmps88
 go_wp2_with fail
 refine(takeKindP h 2 (by decide)).mono ?_
 rintro e w1 (⟨rfl,hx,hb⟩|⟨rfl,hk,hb⟩)
 ·go_wp2_with fail
  go_ret
  exact .inl ⟨_,i+1,rfl,HT.out,hx,HN.out hb,Ev.bnd' ev_kind (Ev.yes hb (Ev.bnd' ev_text (Ev.seq ev_add Ev.ret')))⟩
 ·exact⟨rfl,.inr ⟨_,rfl,hk,wr_name hb⟩⟩
end Go.Proofs.YtdplogkmkgekdaaGreatDoor.Pj
namespace Go.Proofs.YtdplogkmkgekdaaGreatDoor
open Go.RowKit
theorem start_below (w:World):Below (w.heap.size+1) (w.alloc (.cells #[.int .i64 0,.int .i64 0,.string ⟨#[]⟩,.int .i64 0] 67)) (w.alloc (.cells #[.int .i64 0,.int .i64 0,.string ⟨#[]⟩,.int .i64 0] 67)):=Below.refl _ _
theorem more_below {w w1 w2:World} {o:Obj} (h:Below (w.heap.size+1) (w.alloc o) w1) (h2:Below w1.heap.size w1 w2):Below (w.heap.size+1) (w.alloc o) w2:=
 h.trans (h2.mono (by have:=h.size;simpa using this))
theorem glob_below {w w1:World} {o:Obj} (hG:Globals w) (h:Below (w.heap.size+1) (w.alloc o) w1):Globals w1:=(hG.alloc o).below h (by have:=hG.room;omega)
theorem plain15_digit (t:ByteArray) (w:World) (hs:t.size≤6000) (h0:0<t.size) (hd:digN (bat t 0)=true) (hG:Globals w):
 Calls Tryz.prog 30 #[.string t] w fun e w'=>e=.returned (plainV (plain t).err (plain t).kind (plainText t) (plain t).n (plain t).stop)∧Below w.heap.size w w':=by
 have hk:=runEnd_pos h0 hd
 have hk2:=runEnd_le digN t 0 (Nat.zero_le _)
 have hall:=runEnd_all digN t 0
 have HP:Hid (plain t=one t 0):=by show plain t=one t 0;rw[plain,if_pos (by simp[isPlain,hd])]
 have HO:Hid (one t 0=if numVal t 0 (runEnd digN t 0 - 0)≤9223372036854775807 then⟨0,1,runEnd digN t 0,numVal t 0 (runEnd digN t 0 - 0)⟩ else⟨3,0,0,0⟩):=one_digit hd
 have hsz:(t.extract 0 (runEnd digN t 0)).size=runEnd digN t 0:=by rw[ext_size t 0 _ hk2];omega
 have hnum:numVal (t.extract 0 (runEnd digN t 0)) 0 (runEnd digN t 0)=numVal t 0 (runEnd digN t 0):=ext_numVal t 0 _ hk2 _ (by omega)
 have HD:Hid (∀j,j<(t.extract 0 (runEnd digN t 0)).size→digN (bat (t.extract 0 (runEnd digN t 0)) j)=true):=by
  intro j hj
  rw[hsz] at hj
  rw[ext_bat t 0 _ j hk2 (by omega),Nat.zero_add]
  exact hall j (Nat.zero_le _) hj
 have HS:Hid ((t.extract 0 (runEnd digN t 0)).size=runEnd digN t 0):=hsz
 have HN:Hid (numVal (t.extract 0 (runEnd digN t 0)) 0 (runEnd digN t 0)=numVal t 0 (runEnd digN t 0)):=hnum
 clear hall hd hsz hnum
 go_enter Tryz.func30,Tryz.ntmps30
 go_wp2_with fail
 refine(span_dig t _ hs).mono ?_
 rintro e w1 ⟨rfl,hb⟩
 have hb1:=more_below (start_below w) hb
 have hG1:=glob_below hG hb1
 clear hb
 go_wp2_with fail
 by_cases hm:numVal t 0 (runEnd digN t 0)≤9223372036854775807
 ·refine(number20_ok _ _ (by rw[HS.out];omega) (by rw[HS.out];omega) HD.out (by rw[HS.out,HN.out];exact hm)).mono ?_
  rintro e w2 ⟨rfl,hb⟩
  have hb2:=more_below hb1 hb
  clear hb hb1 hG1
  rw[HS.out,HN.out]
  have e1:plain t=⟨0,1,runEnd digN t 0,numVal t 0 (runEnd digN t 0)⟩:=by rw[HP.out,HO.out,Nat.sub_zero,if_pos hm]
  have HE:Hid (plain t=⟨0,1,runEnd digN t 0,numVal t 0 (runEnd digN t 0)⟩):=e1
  clear e1 hm
  obtain⟨f0,f1,f2,f3,g0,g1,g2,g3⟩:=tokBlock hb2
  unfold plainV
  go_wp2_with fail
  refine bodyPost_ret (v:=plainV 0 1 ⟨#[]⟩ (numVal t 0 (runEnd digN t 0)) (runEnd digN t 0)) (by simp[results,Tryz.results30,go_sem,plainV,f0,f1,f2,f3]) rfl ⟨?_,below_four hb2 _ _ _ _⟩
  rw[plainText,HE.out];rfl
 ·refine(number20_big _ _ (by rw[HS.out];omega) (by rw[HS.out];omega) HD.out (by rw[HS.out,HN.out];exact hm) hG1).mono ?_
  rintro e w2 ⟨rfl,hb⟩
  have hb2:=more_below hb1 hb
  clear hb hb1 hG1
  have e1:plain t=⟨3,0,0,0⟩:=by rw[HP.out,HO.out,Nat.sub_zero,if_neg hm]
  have HE:Hid (plain t=⟨3,0,0,0⟩):=e1
  clear e1 hm
  obtain⟨f0,f1,f2,f3,g0,g1,g2,g3⟩:=tokBlock hb2
  unfold plainV
  go_wp2_with fail
  refine bodyPost_ret (v:=plainV 3 0 ⟨#[]⟩ 0 0) (by simp[results,Tryz.results30,go_sem,plainV,f0,f1,f2,f3]) rfl ⟨?_,below_four hb2 _ _ _ _⟩
  rw[plainText,HE.out];rfl
theorem plain15_letter (t:ByteArray) (w:World) (hs:t.size≤6000) (h0:0<t.size) (hd:letN (bat t 0)=true) (hG:Globals w):
 Calls Tryz.prog 30 #[.string t] w fun e w'=>e=.returned (plainV (plain t).err (plain t).kind (plainText t) (plain t).n (plain t).stop)∧Below w.heap.size w w':=by
 have hk:0<runEnd namN t 0:=runEnd_pos h0 (by simp[namN,hd])
 have hk2:=runEnd_le namN t 0 (Nat.zero_le _)
 have HP:Hid (plain t=one t 0):=by show plain t=one t 0;rw[plain,if_pos (by simp[isPlain,hd])]
 have HO:Hid (one t 0=if isWord (t.extract 0 (runEnd namN t 0)).toList then⟨0,3,runEnd namN t 0,0⟩ else if 20<runEnd namN t 0 - 0 then⟨3,0,0,0⟩ else⟨0,2,runEnd namN t 0,0⟩):=one_letter hd
 have HS:Hid ((t.extract 0 (runEnd namN t 0)).size=runEnd namN t 0):=by show(t.extract 0 (runEnd namN t 0)).size=_;rw[ext_size t 0 _ hk2];omega
 have HZ:Hid (runEnd digN t 0=0):=runEnd_no (let_not_dig hd)
 have HL:Hid (nameLen t=runEnd namN t 0):=by show nameLen t=_;rw[nameLen,hd];simp
 clear hd
 go_enter Tryz.func30,Tryz.ntmps30
 go_wp2_with fail
 refine(span_dig t _ hs).mono ?_
 rintro e w1 ⟨rfl,hb⟩
 have hb1:=more_below (start_below w) hb
 clear hb
 rw[HZ.out]
 go_wp2_with fail
 refine(nameSize21 t _ hs).mono ?_
 rintro e w2 ⟨rfl,hb⟩
 have hb2:=more_below hb1 hb
 have hG2:=glob_below hG hb2
 clear hb hb1
 rw[HL.out]
 go_wp2_with fail
 refine(name22 _ _ (by rw[HS.out];omega) hG2).mono ?_
 rintro e w3 ⟨rfl,hb⟩
 have hb3:=more_below hb2 hb
 clear hb hb2 hG2
 rw[HS.out]
 cases hw:isWord (t.extract 0 (runEnd namN t 0)).toList
 ·rw[if_neg (by simp)]
  by_cases h20:20<runEnd namN t 0
  ·rw[if_pos h20]
   have e1:plain t=⟨3,0,0,0⟩:=by rw[HP.out,HO.out,Nat.sub_zero,if_neg (by simp[hw]),if_pos h20]
   have HE:Hid (plain t=⟨3,0,0,0⟩):=e1
   clear e1 h20 hw
   obtain⟨f0,f1,f2,f3,g0,g1,g2,g3⟩:=tokBlock hb3
   unfold plainV
   go_wp2_with fail
   refine bodyPost_ret (v:=plainV 3 0 ⟨#[]⟩ 0 0) (by simp[results,Tryz.results30,go_sem,plainV,f0,f1,f2,f3]) rfl ⟨?_,below_four hb3 _ _ _ _⟩
   rw[plainText,HE.out];rfl
  ·rw[if_neg h20]
   have e1:plain t=⟨0,2,runEnd namN t 0,0⟩:=by rw[HP.out,HO.out,Nat.sub_zero,if_neg (by simp[hw]),if_neg h20]
   have HE:Hid (plain t=⟨0,2,runEnd namN t 0,0⟩):=e1
   clear e1 h20 hw
   obtain⟨f0,f1,f2,f3,g0,g1,g2,g3⟩:=tokBlock hb3
   unfold plainV
   go_wp2_with fail
   refine bodyPost_ret (v:=plainV 0 2 (t.extract 0 (runEnd namN t 0)) 0 (runEnd namN t 0)) (by simp[results,Tryz.results30,go_sem,plainV,f0,f1,f2,f3]) rfl ⟨?_,below_four hb3 _ _ _ _⟩
   rw[plainText,HE.out];rfl
 ·rw[if_pos rfl]
  have e1:plain t=⟨0,3,runEnd namN t 0,0⟩:=by rw[HP.out,HO.out,if_pos hw]
  have HE:Hid (plain t=⟨0,3,runEnd namN t 0,0⟩):=e1
  clear e1 hw
  obtain⟨f0,f1,f2,f3,g0,g1,g2,g3⟩:=tokBlock hb3
  unfold plainV
  go_wp2_with fail
  refine bodyPost_ret (v:=plainV 0 3 (t.extract 0 (runEnd namN t 0)) 0 (runEnd namN t 0)) (by simp[results,Tryz.results30,go_sem,plainV,f0,f1,f2,f3]) rfl ⟨?_,below_four hb3 _ _ _ _⟩
  rw[plainText,HE.out];rfl
theorem nameLen_one (t:ByteArray) (h0:0<t.size) (hd:letN (bat t 1)=true):1+nameLen (t.extract 1 t.size)=runEnd namN t 1:=by
 rw[nameLen,ext_bat_end,if_pos hd]
 have:=ext_runEnd namN t 1 0 (by omega)
 simpa using this
theorem nameLen_no (t:ByteArray) (hd:letN (bat t 1)=false):nameLen (t.extract 1 t.size)=0:=by
 rw[nameLen,ext_bat_end,if_neg (by simp[hd])]
theorem plain15_life (t:ByteArray) (w:World) (hs:t.size≤6000) (h0:0<t.size) (hb0:bat t 0=39) (hd:letN (bat t 1)=true):
 Calls Tryz.prog 30 #[.string t] w fun e w'=>e=.returned (plainV (plain t).err (plain t).kind (plainText t) (plain t).n (plain t).stop)∧Below w.heap.size w w':=by
 have hi1:1<t.size:=by
  rcases Nat.lt_or_ge 1 t.size with h|h
  ·exact h
  ·rw[bat_out (by omega)] at hd;simp[letN] at hd
 have hk:1<runEnd namN t 1:=runEnd_pos hi1 (by simp[namN,hd])
 have hk2:=runEnd_le namN t 1 (by omega)
 have HP:Hid (plain t=one t 0):=by show plain t=one t 0;rw[plain,if_pos (by simp[isPlain,hb0,hd])]
 have HO:Hid (one t 0=if 21<runEnd namN t (0+1) - 0 then⟨3,0,0,0⟩ else⟨0,4,runEnd namN t (0+1),0⟩):=one_life hb0 (by rw[Nat.zero_add];exact hd)
 have HS:Hid ((t.extract 0 (runEnd namN t 1)).size=runEnd namN t 1):=by show(t.extract 0 (runEnd namN t 1)).size=_;rw[ext_size t 0 _ hk2];omega
 have HZ:Hid (runEnd digN t 0=0):=runEnd_no (by rw[hb0];rfl)
 have HL:Hid (nameLen t=0):=by show nameLen t=0;rw[nameLen,hb0];rfl
 have HL1:Hid (1+nameLen (t.extract 1 t.size)=runEnd namN t 1):=nameLen_one t h0 hd
 have hx:(((t[0]'h0).toNat:Int)==39)=true:=by rw[←bat_eq h0,hb0];rfl
 have hs1:(t.extract 1 t.size).size≤6000:=by rw[ext_size t 1 t.size (Nat.le_refl _)];omega
 have HS1:Hid ((t.extract 1 t.size).size≤6000):=hs1
 clear hd hb0 hs1
 go_enter Tryz.func30,Tryz.ntmps30
 go_wp2_with fail
 refine(span_dig t _ hs).mono ?_
 rintro e w1 ⟨rfl,hb⟩
 have hb1:=more_below (start_below w) hb
 clear hb
 rw[HZ.out]
 go_wp2_with fail
 refine(nameSize21 t _ hs).mono ?_
 rintro e w2 ⟨rfl,hb⟩
 have hb2:=more_below hb1 hb
 clear hb hb1
 rw[HL.out]
 go_wp2_with fail
 refine(nameSize21 _ _ HS1.out).mono ?_
 rintro e w3 ⟨rfl,hb⟩
 have hb3:=more_below hb2 hb
 clear hb hb2
 obtain⟨m,hm⟩:∃m,m=nameLen (t.extract 1 t.size):=⟨_,rfl⟩
 rw[←hm]
 have HM:Hid (1+m=runEnd namN t 1):=by show 1+m=_;rw[hm];exact HL1.out
 have hm1:0<m:=by have:=HM.out;omega
 have hm2:1+m≤t.size:=by have:=HM.out;omega
 clear hm
 go_wp2_with fail
 rw[HM.out]
 refine(life23 _ _ (by rw[HS.out];omega) (by rw[HS.out];omega)).mono ?_
 rintro e w4 ⟨rfl,hb⟩
 have hb4:=more_below hb3 hb
 clear hb hb3
 rw[HS.out]
 by_cases h21:21<runEnd namN t 1
 ·rw[if_pos h21]
  have e1:plain t=⟨3,0,0,0⟩:=by rw[HP.out,HO.out,Nat.sub_zero,Nat.zero_add,if_pos h21]
  have HE:Hid (plain t=⟨3,0,0,0⟩):=e1
  clear e1 h21
  obtain⟨f0,f1,f2,f3,g0,g1,g2,g3⟩:=tokBlock hb4
  unfold plainV
  go_wp2_with fail
  refine bodyPost_ret (v:=plainV 3 0 ⟨#[]⟩ 0 0) (by simp[results,Tryz.results30,go_sem,plainV,f0,f1,f2,f3]) rfl ⟨?_,below_four hb4 _ _ _ _⟩
  rw[plainText,HE.out];rfl
 ·rw[if_neg h21]
  have e1:plain t=⟨0,4,runEnd namN t 1,0⟩:=by rw[HP.out,HO.out,Nat.sub_zero,Nat.zero_add,if_neg h21]
  have HE:Hid (plain t=⟨0,4,runEnd namN t 1,0⟩):=e1
  clear e1 h21
  obtain⟨f0,f1,f2,f3,g0,g1,g2,g3⟩:=tokBlock hb4
  unfold plainV
  go_wp2_with fail
  refine bodyPost_ret (v:=plainV 0 4 (t.extract 0 (runEnd namN t 1)) 0 (runEnd namN t 1)) (by simp[results,Tryz.results30,go_sem,plainV,f0,f1,f2,f3]) rfl ⟨?_,below_four hb4 _ _ _ _⟩
  rw[plainText,HE.out];rfl
theorem plain15_none (t:ByteArray) (w:World) (hs:t.size≤6000) (h0:0<t.size) (hd:digN (bat t 0)=false) (hl:letN (bat t 0)=false) (hl1:bat t 0≠39∨letN (bat t 1)=false):
 Calls Tryz.prog 30 #[.string t] w fun e w'=>e=.returned (plainV (plain t).err (plain t).kind (plainText t) (plain t).n (plain t).stop)∧Below w.heap.size w w':=by
 have HE:Hid (plain t=⟨0,0,0,0⟩):=by
  show plain t=_
  rw[plain,if_neg]
  rcases hl1 with h|h<;>simp[isPlain,hd,hl,h]
 have HZ:Hid (runEnd digN t 0=0):=runEnd_no hd
 have HL:Hid (nameLen t=0):=by show nameLen t=0;rw[nameLen,hl];rfl
 have hs1:(t.extract 1 t.size).size≤6000:=by rw[ext_size t 1 t.size (Nat.le_refl _)];omega
 have HS1:Hid ((t.extract 1 t.size).size≤6000):=hs1
 have HX:Hid (0<nameLen (t.extract 1 t.size)→((((t[0]'h0).toNat:Int)==39)=false)):=by
  intro h
  rcases hl1 with h1|h1
  ·rw[bat_eq h0] at h1;simp;omega
  ·rw[nameLen_no t h1] at h;omega
 clear hd hl hl1 hs1
 go_enter Tryz.func30,Tryz.ntmps30
 go_wp2_with fail
 refine(span_dig t _ hs).mono ?_
 rintro e w1 ⟨rfl,hb⟩
 have hb1:=more_below (start_below w) hb
 clear hb
 rw[HZ.out]
 go_wp2_with fail
 refine(nameSize21 t _ hs).mono ?_
 rintro e w2 ⟨rfl,hb⟩
 have hb2:=more_below hb1 hb
 clear hb hb1
 rw[HL.out]
 go_wp2_with fail
 refine(nameSize21 _ _ HS1.out).mono ?_
 rintro e w3 ⟨rfl,hb⟩
 have hb3:=more_below hb2 hb
 clear hb hb2
 obtain⟨m,hm⟩:∃m,m=nameLen (t.extract 1 t.size):=⟨_,rfl⟩
 rw[←hm]
 have HX':Hid (0<m→((((t[0]'h0).toNat:Int)==39)=false)):=by rw[hm];exact HX.out
 clear hm
 obtain⟨f0,f1,f2,f3,g0,g1,g2,g3⟩:=tokBlock hb3
 by_cases hm1:0<m
 ·have hx:=HX'.out hm1
  go_wp2_with fail
  refine bodyPost_ret (v:=plainV 0 0 ⟨#[]⟩ 0 0) (by simp[results,Tryz.results30,go_sem,plainV,f0,f1,f2,f3]) rfl ⟨?_,below_four hb3 _ _ _ _⟩
  rw[plainText,HE.out];rfl
 ·go_wp2_with fail
  refine bodyPost_ret (v:=plainV 0 0 ⟨#[]⟩ 0 0) (by simp[results,Tryz.results30,go_sem,plainV,f0,f1,f2,f3]) rfl ⟨?_,below_four hb3 _ _ _ _⟩
  rw[plainText,HE.out];rfl
theorem plain15 (t:ByteArray) (w:World) (hs:t.size≤6000) (h0:0<t.size) (hG:Globals w):
 Calls Tryz.prog 30 #[.string t] w fun e w'=>e=.returned (plainV (plain t).err (plain t).kind (plainText t) (plain t).n (plain t).stop)∧Below w.heap.size w w':=by
 cases hd:digN (bat t 0)
 ·cases hl:letN (bat t 0)
  ·by_cases h39:bat t 0=39
   ·cases hl1:letN (bat t 1)
    ·exact plain15_none t w hs h0 hd hl (.inr hl1)
    ·exact plain15_life t w hs h0 h39 hl1
   ·exact plain15_none t w hs h0 hd hl (.inl h39)
  ·exact plain15_letter t w hs h0 hl hG
 ·exact plain15_digit t w hs h0 hd hG
end Go.Proofs.YtdplogkmkgekdaaGreatDoor
namespace Go.Proofs.YtdplogkmkgekdaaGreatDoor
open Go.RowKit
structure Mem (s:ByteArray) (w wr:World) (v:Value) (pos:Nat) (acc:List (List Value)):Prop where
 iter:wr.heap[w.heap.size+1]? =some (.stringIter s pos)
 own:wr.ownsRow (w.heap.size+2) 67 4 v acc.length acc.flatten
 below:Below (w.heap.size+1) (w.alloc (.cells #[.int .i64 0,.int .i64 0] 31)) wr
theorem Mem.sz {s:ByteArray} {w wr:World} {v:Value} {pos:Nat} {acc:List (List Value)} (h:Mem s w wr v pos acc):w.heap.size+2≤wr.heap.size:=(Array.getElem?_eq_some_iff.1 h.iter).1
theorem Mem.next {s:ByteArray} {w wr:World} {v:Value} {pos:Nat} {acc:List (List Value)} (h:Mem s w wr v pos acc) (p:Nat):Mem s w (wr.iterAt (w.heap.size+1) s p) v p acc:=
 ⟨Lib.iterAt_heap wr _ s pos p h.iter,ownsRow_iterAt h.own (by omega) s p,Lib.below_iterAt h.below (Nat.le_refl _) s p⟩
theorem Mem.call {s:ByteArray} {w wr w1:World} {v:Value} {pos:Nat} {acc:List (List Value)} (h:Mem s w wr v pos acc) (hb:Below wr.heap.size wr w1):Mem s w w1 v pos acc:=by
 have:=h.sz
 exact⟨by rw[hb.block _ (by omega)];exact h.iter,ownsRow_below h.own hb,h.below.trans (hb.mono (by omega))⟩
theorem Mem.alloc {s:ByteArray} {w wr:World} {v:Value} {pos:Nat} {acc:List (List Value)} (h:Mem s w wr v pos acc) (o:Obj):Mem s w (wr.alloc o) v pos acc:=
 h.call ((Below.refl _ _).alloc (Nat.le_refl _) o)
theorem Mem.grown {s:ByteArray} {w wr w1:World} {v v':Value} {pos:Nat} {acc:List (List Value)} {c:List Value} (h:Mem s w wr v pos acc) (hg:wr.grownBy w1 v.ownBlock)
 (ho:w1.ownsRow (w.heap.size+2) 67 4 v' (acc.length+1) (acc.flatten++c)):Mem s w w1 v' pos (acc++[c]):=by
 have hsz:=h.sz
 refine⟨?_,by rw[flatten_snoc,List.length_append];exact ho,h.below.grown hg (by omega) (fun k hk=>by have:=(h.own.lt k hk).1;omega)⟩
 rw[hg.block _ (by omega) (fun e=>by have:=(h.own.lt _ e.symm).1;omega)]
 exact h.iter
structure Book (s:ByteArray) (pos en b:Nat) (acc:List (List Value)):Prop where
 pos_le:pos≤s.size
 en_le:en≤s.size
 clear:∀p,pos≤p→p<en→p+(Utf8.decode s p).2≤en
 same:lexFrom b s (max pos en) acc=lexFrom s.size s 0 []
 fuel:s.size≤max pos en+b
 few:acc.length≤max pos en
theorem Book.start (s:ByteArray):Book s 0 0 s.size []:=⟨Nat.zero_le _,Nat.zero_le _,fun p _ h=>absurd h (by omega),rfl,by omega,by simp⟩
theorem Book.skip {s:ByteArray} {pos en b:Nat} {acc:List (List Value)} (h:Book s pos en b acc) (hp:pos<s.size) (he:pos<en):Book s (pos+(Utf8.decode s pos).2) en b acc:=by
 have h1:=h.clear pos (Nat.le_refl _) he
 obtain⟨h2,h3,_⟩:=dec_width s pos hp
 have e1:max pos en=en:=by omega
 have e2:max (pos+(Utf8.decode s pos).2) en=en:=by omega
 refine⟨h3,h.en_le,fun p hp1 hp2=>h.clear p (by omega) hp2,?_,?_,?_⟩
 ·rw[e2,←e1];exact h.same
 ·have:=h.fuel;omega
 ·have:=h.few;omega
theorem Book.step {s:ByteArray} {pos en b:Nat} {acc acc':List (List Value)} (h:Book s pos en b acc) (hp:pos<s.size) (he:¬pos<en) {en':Nat} {w:Nat} (hw:Utf8.decode s pos=(bat s pos,1)) (h1:max (pos+1) en'=w) (hen:en'≤s.size)
 (hclear:∀p,pos+1≤p→p<en'→p+(Utf8.decode s p).2≤en') (hlex:∀b',lexFrom (b'+1) s pos acc=lexFrom b' s w acc') (hfew:acc'.length≤acc.length+1):∃b',Book s (pos+(Utf8.decode s pos).2) en' b' acc':=by
 have e1:max pos en=pos:=by omega
 have hf:=h.fuel
 have hs:=h.same
 have hfw:=h.few
 rw[e1] at hf hs hfw
 obtain⟨b',rfl⟩:∃b',b=b'+1:=⟨b - 1,by omega⟩
 rw[hw]
 refine⟨b',by simp;omega,hen,fun p a c=>hclear p a c,?_,?_,?_⟩
 ·show lexFrom b' s (max (pos+1) en') acc'=_
  rw[h1,←hlex];exact hs
 ·show s.size≤max (pos+1) en'+b'
  omega
 ·show acc'.length≤max (pos+1) en'
  omega
theorem Book.at_end {s:ByteArray} {pos en b:Nat} {acc:List (List Value)} (h:Book s pos en b acc) (hs:s.size≤6000) (hp:¬pos<s.size):lexAll s=.inr (acc++[tokCells 0 s.size ⟨#[]⟩ 0]):=by
 have:=h.same
 rw[lex_end (by omega)] at this
 rw[lexAll,if_neg (by omega),←this]
theorem Book.bad {s:ByteArray} {pos en b:Nat} {acc:List (List Value)} (h:Book s pos en b acc) (hs:s.size≤6000) (hlt:pos<s.size) (he:¬pos<en) (hb:blankN (bat s pos)=false) (hr:bat s pos≠35) (hE:(one s pos).err≠0):lexAll s=.inl ((one s pos).err,pos):=by
 have hf:=h.fuel
 have:=h.same
 rw[show max pos en=pos by omega] at this hf
 obtain⟨b',rfl⟩:∃b',b=b'+1:=⟨b - 1,by omega⟩
 rw[lex_bad hlt hb hr hE] at this
 rw[lexAll,if_neg (by omega),←this]
theorem clear_low {s:ByteArray} {a en:Nat} (hen:en≤s.size) (h:∀p,a≤p→p<en→bat s p<128):∀p,a≤p→p<en→p+(Utf8.decode s p).2≤en:=by
 intro p h1 h2
 rw[dec_low (by omega) (h p h1 h2)]
 show p+1≤en
 omega
theorem clear_rem {s:ByteArray} {a k:Nat} (hk:k≤s.size):∀p,a≤p→p<runEnd remN s k→p+(Utf8.decode s p).2≤runEnd remN s k:=by
 intro p _ h2
 have hle:=runEnd_le remN s k hk
 by_cases he:runEnd remN s k<s.size
 ·have:=runEnd_stop remN s k he
  refine dec_before h2 he ?_
  simp[remN] at this
  omega
 ·have:=(dec_width s p (by omega)).2.1
  omega
theorem one_low {s:ByteArray} {i:Nat} (hi:i<s.size) (he:(one s i).err=0):∀p,i≤p→p<(one s i).stop→bat s p<128:=by
 have hnam:∀c,namN c=true→c<128:=fun c h=>by
  rcases Nat.lt_or_ge c 128 with h1|h1
  ·exact h1
  ·rw[sortNam c h1] at h;cases h
 intro p h1 h2
 cases hd:digN (bat s i)
 ·cases hl:letN (bat s i)
  ·by_cases h39:bat s i=39∧letN (bat s (i+1))=true
   ·rw[one_life h39.1 h39.2] at he h2
    split at h2
    ·simp at h2
    ·by_cases e:p=i
     ·rw[e,h39.1];omega
     ·exact hnam _ (runEnd_all namN s (i+1) p (by omega) h2)
   ·have h3:bat s i≠39∨letN (bat s (i+1))=false:=by
     by_cases h:bat s i=39
     ·exact .inr (by cases h':letN (bat s (i+1));rfl;exact absurd ⟨h,h'⟩ h39)
     ·exact .inl h
    rw[one_sign hd hl h3] at he h2
    split at h2
    ·simp at h2
    ·rename_i hz
     have h2':p<i+signLen s i:=h2
     unfold signLen at h2' hz
     split at h2'
     ·rename_i ht
      have hm:(bat s i,bat s (i+1))∈twoSigns:=by simpa using ht
      have hall:∀q∈twoSigns,q.1<128∧q.2<128:=by decide
      have:=hall _ hm
      have hp2:p=i∨p=i+1:=by omega
      rcases hp2 with rfl|rfl
      ·exact this.1
      ·exact this.2
     ·rename_i ht
      split at h2'
      ·rename_i ho
       have hm:bat s i∈oneSigns:=by simpa using ho
       have hall:∀q∈oneSigns,q<128:=by decide
       have:p=i:=by omega
       rw[this];exact hall _ hm
      ·omega
  ·rw[one_letter hl] at he h2
   split at h2
   ·exact hnam _ (runEnd_all namN s i p h1 h2)
   ·split at h2
    ·simp at h2
    ·exact hnam _ (runEnd_all namN s i p h1 h2)
 ·rw[one_digit hd] at he h2
  split at h2
  ·have:=runEnd_all digN s i p h1 h2
   rcases Nat.lt_or_ge (bat s p) 128 with h3|h3
   ·exact h3
   ·rw[sortDig _ h3] at this;cases this
  ·simp at h2
theorem Globals.mem {s:ByteArray} {w wr:World} {v:Value} {pos:Nat} {acc:List (List Value)} (hG:Globals w) (h:Mem s w wr v pos acc):Globals wr:=glob_below hG h.below
end Go.Proofs.YtdplogkmkgekdaaGreatDoor
