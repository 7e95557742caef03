/- The project's parser: what it takes by its kind, names, nodes. -/
import Derived.Test.YtdplogkmkgekdaaGreatDoorFParseA
import Derived.Test.YtdplogkmkgekdaaGreatDoorPkd
import Derived.Recover
import Derived.Test.YtdplogkmkgekdaaGreatDoorFDeep
import Derived.Test.YtdplogkmkgekdaaGreatDoorTypes
import Derived.Deep.MidRow
import Derived.WalkSmall
set_option linter.all false
set_option maxRecDepth 100000
set_option maxHeartbeats 4000000
namespace Go.Proofs.YtdplogkmkgekdaaGreatDoor.Pj
open Go.RowKit
theorem aaH (k:Int) (w:World):(Instr.typeAssert (.iface 43 (.agg #[.int .i64 k])) 20 43 true).run Tryz.prog w=.ok (.tuple #[.agg #[.int .i64 k],.bool true]) w:=by kernel_rfl
theorem Xp (p1 p2:Addr) (w:World):
 CallsD Tryz.prog 12 #[.pointer (some p1),.pointer (some p2)] .returning w fun e u' w'=>e=.returned (.tuple #[])∧u'=.returning∧w'=w:=by
 refine callsD_of_wpS Tryz.func12 rfl fun c₀ cs hu=>?_
 apply wpS_seq
 apply wpS_region
 rw[Tryz.ntmps12]
 simp[wpOpsS,go_sem,recoverD,hu,Exit.thenS,Array.replicate]
 refine wpS_of_wp ?_
 go_wp2_with fail
 cases c₀
 simp_all [bodyPostS,results,Tryz.results12]
theorem LW {b1:Nat} {o o2:Obj} {w W:World} (h1:bW W b1 aJ) (h2:W.heap[b1+1]? =some o2) (hb:Below b1 w W):bW (W.alloc o).drew b1 aJ∧(W.alloc o).drew.heap[b1+1]? =some o2∧Below b1 w (W.alloc o).drew:=by
 have l1:=h1.lt
 have l2:(W.alloc o).heap[b1+1]? =some o2:=(Below.heap_alloc _ _ _ (Array.getElem?_eq_some_iff.1 h2).1).trans h2
 exact⟨(h1.alloc _).drew,l2,(hb.alloc (by omega) _).drew⟩
theorem caught {b1 p:Nat} {w:World} (hB:bW w b1 aJ) (hC:w.heap[b1+1]? =some (.cells #[.int .i64 0,.int .i64 0] 31 (0,0))):bW (((((bC w b1 (.int .i64 0) (.int .i64 0) (.int .i64 0) (.int .i64 0) (.string ⟨#[]⟩) (.slice none 0 0) (.int .i64 0) (.int .i64 0) (.slice none 0 0) (.slice none 0 0) (.slice none 0 0)).setCell ⟨b1+1,0,none⟩ (.int .i64 4)).setCell ⟨b1+1,1,none⟩ (.int .i64 p)).alloc (.cells #[.int .i64 p] 43)).drew) b1 aJ∧(((((bC w b1 (.int .i64 0) (.int .i64 0) (.int .i64 0) (.int .i64 0) (.string ⟨#[]⟩) (.slice none 0 0) (.int .i64 0) (.int .i64 0) (.slice none 0 0) (.slice none 0 0) (.slice none 0 0)).setCell ⟨b1+1,0,none⟩ (.int .i64 4)).setCell ⟨b1+1,1,none⟩ (.int .i64 p)).alloc (.cells #[.int .i64 p] 43)).drew).heap[b1+1]? =some (.cells #[.int .i64 4,.int .i64 p] 31 (0,0))∧Below b1 w (((((bC w b1 (.int .i64 0) (.int .i64 0) (.int .i64 0) (.int .i64 0) (.string ⟨#[]⟩) (.slice none 0 0) (.int .i64 0) (.int .i64 0) (.slice none 0 0) (.slice none 0 0) (.slice none 0 0)).setCell ⟨b1+1,0,none⟩ (.int .i64 4)).setCell ⟨b1+1,1,none⟩ (.int .i64 p)).alloc (.cells #[.int .i64 p] 43)).drew):=by
 have h:=IB hB hC (.int .i64 0) (.int .i64 0) (.int .i64 0) (.int .i64 0) (.string ⟨#[]⟩) (.slice none 0 0) (.int .i64 0) (.int .i64 0) (.slice none 0 0) (.slice none 0 0) (.slice none 0 0) 4 p
 have hb:Below b1 w (((bC w b1 (.int .i64 0) (.int .i64 0) (.int .i64 0) (.int .i64 0) (.string ⟨#[]⟩) (.slice none 0 0) (.int .i64 0) (.int .i64 0) (.slice none 0 0) (.slice none 0 0) (.slice none 0 0)).setCell ⟨b1+1,0,none⟩ (.int .i64 4)).setCell ⟨b1+1,1,none⟩ (.int .i64 p)):=((Below.bC (Below.refl _ _) (Nat.le_refl _) _ _ _ _ _ _ _ _ _ _ _).setCell (p:=⟨b1+1,0,none⟩) (Nat.le_succ _) _).setCell (p:=⟨b1+1,1,none⟩) (Nat.le_succ _) _
 exact LW h.1 h.2 hb
theorem Xq {b1:Nat} (p:Nat) {older:List PanicEntry} {w:World} (hB:bW w b1 aJ) (hC:w.heap[b1+1]? =some (.cells #[.int .i64 0,.int .i64 0] 31 (0,0))):
 CallsD Tryz.prog 12 #[.pointer (some ⟨b1,0,none⟩),.pointer (some ⟨b1+1,0,none⟩)] (.panicking ({v:=.iface 43 (.agg #[.int .i64 p]),recovered:=false}::older)) w fun e u' w'=>
  e=.returned (.tuple #[])∧u'=.panicking ({v:=.iface 43 (.agg #[.int .i64 p]),recovered:=true}::older)∧bW w' b1 aJ∧w'.heap[b1+1]? =some (.cells #[.int .i64 4,.int .i64 p] 31 (0,0))∧Below b1 w w':=by
 refine callsD_of_wpS Tryz.func12 rfl fun c₀ cs hu=>?_
 have hta:=aaH p
 have c1:=hB.cell;have f1:=hB.fz;have l1:=hB.lt
 have c2:∀o,w.cell? ⟨b1+1,o,none⟩=(#[.int .i64 0,.int .i64 0]:Array Value)[o]? :=fun o=>cell_of_row _ _ o _ 31 (0,0) hC
 have f2:∀o,w.frozen? ⟨b1+1,o,none⟩=false:=fun o=>frozen_of_row _ _ o _ 31 hC
 have l2:=(Array.getElem?_eq_some_iff.1 hC).1
 have hne:b1≠b1+1:=by omega
 have aaI:b1+1≠b1:=by omega
 have n1:b1≠w.heap.size:=by omega
 have n2:b1+1≠w.heap.size:=by omega
 apply wpS_seq
 apply wpS_region
 rw[Tryz.ntmps12]
 simp[wpOpsS,go_sem,recoverD,hu,Exit.thenS,Array.replicate]
 refine wpS_of_wp ?_
 go_wp2_with fail
 go_region
 all_goals
  go_wp2_with fail
  refine⟨rfl,_,rfl,.tuple #[],(by simp[results,Tryz.results12,go_sem]),rfl,rfl,caught hB hC⟩
def Uq (w:World) (y:List Nr) (d:Int) (e:Ending) (w':World):Prop:=∃(r:Int) (b:Bool),e=.returned (.tuple #[.int .i64 r,.bool b])∧Below w.heap.size w w'∧(b=false∧Dp [y] d none∨b=true∧Dp [y] d (some r))
theorem Ur {g:Prop}:(h:Nat)→∀{S:Nat→Prop} {w:World} {kind pos n m:Int} {name:ByteArray} {ko:Option Addr} {kl kc:Nat},isNode S g h w (ah kind pos n m name (.slice ko kl kc)).toList→∀{y:List Nr},Fl w [(ah kind pos n m name (.slice ko kl kc)).toList] [y]→∀d:Int,0≤d→d≤100→Calls Tryz.prog 15 #[.agg (ah kind pos n m name (.slice ko kl kc)),.int .i64 d] w (Uq w y d)
 |0,_,_,_,_,_,_,_,_,_,_,hn,_,_=>absurd hn (fun x=>x)
 |h+1,S,w,kind,pos,n,m,name,ko,kl,kc,hn,y,hy=>by
  intro d hd0 hd
  obtain⟨FF,Uh,hFl,hp,hkl,Ap⟩:=hn.Rt hy
  have Ut:Hid (y=nd kind pos n m name FF∧FF.length=kl):=⟨Uh,hFl⟩
  clear Uh hFl hy
  have IH:Hid (∀{S:Nat→Prop} {w:World} {kind pos n m:Int} {name:ByteArray} {ko:Option Addr} {kl kc:Nat},isNode S g h w (ah kind pos n m name (.slice ko kl kc)).toList→∀{y:List Nr},Fl w [(ah kind pos n m name (.slice ko kl kc)).toList] [y]→∀d:Int,0≤d→d≤100→Calls Tryz.prog 15 #[.agg (ah kind pos n m name (.slice ko kl kc)),.int .i64 d] w (Uq w y d)):=Ur h
  have HK:=@aG _ @Ap
  clear Ap hn
  by_cases h80:80<d
  ·go_enter Tryz.func15,Tryz.ntmps15
   go_wp2_with fail
   exact bodyPost_ret (v:=.tuple #[.int .i64 pos,.bool true]) (by simp[results,Tryz.results15,go_sem]) rfl ⟨pos,true,rfl,(Below.refl _ _).alloc (Nat.le_refl _) _,.inr ⟨rfl,by rw[Ut.out.1];exact Dp.deep h80⟩⟩
  ·have h80':decide (80<d)=false:=by simpa using h80
   go_enter Tryz.func15,Tryz.ntmps15
   go_wp2_with fail
   go_loopg [7,8,9,17] kl (fun gg _ _ _ u wr=>∃idx:Nat,gg=kl - idx∧u=.int .i64 idx∧idx≤kl∧Below w.heap.size w wr∧Hid (Dp (FF.take idx) (d+1) none))
   case atStart=>exact⟨0,rfl,rfl,Nat.zero_le _,(Below.refl _ _).alloc (Nat.le_refl _) _,Dp.nil⟩
   case round=>
    obtain⟨idx,eD,rfl,hidx,hb,HD⟩:=hrel
    have HG:=@aG _ @eD
    clear eD
    by_cases hlt:idx<kl
    ·obtain⟨gb,rfl,hS,hgb,dJ,pos2,n2,m2,name2,iC,iK,iD,hk2,hcell,y2,hy2,aaJ⟩:=HK.out idx hlt
     have HY2:=@aG _ @hy2
     clear hy2
     have uI:(idx:Int)<(kl:Int):=by omega
     have hbs:=hb.size
     have hgr:gb<wr.heap.size:=by omega
     have ec:∀o,o<11→wr.cell? ⟨gb,idx*11+o,none⟩=(ah dJ pos2 n2 m2 name2 (.slice iC iK iD))[o]? :=fun o ho=>(hb.cell (p:=⟨gb,idx*11+o,none⟩) hgb).trans (hcell o ho)
     clear hcell
     have e0:=ec 0 (by decide)
     have e1:=ec 1 (by decide)
     have e2:=ec 2 (by decide)
     have e3:=ec 3 (by decide)
     have e4:=ec 4 (by decide)
     have e5:=ec 5 (by decide)
     have e6:=ec 6 (by decide)
     have e7:=ec 7 (by decide)
     have e8:=ec 8 (by decide)
     have e9:=ec 9 (by decide)
     have e10:=ec 10 (by decide)
     clear ec
     simp only[Nat.add_zero] at e0
     have hk3:isNode (fun b=>S b∧b<w.heap.size) g h (wr.alloc (.cells (ah dJ pos2 n2 m2 name2 (.slice iC iK iD)) 28)) (ah dJ pos2 n2 m2 name2 (.slice iC iK iD)).toList:=isNode.frame (Same.alloc _ _ _) _ _ (isNode.frame (fun b hb' _=>hb.block b hb'.2) _ _ (isNode.low _ _ hk2))
     have aeQ:Fl (wr.alloc (.cells (ah dJ pos2 n2 m2 name2 (.slice iC iK iD)) 28)) [(ah dJ pos2 n2 m2 name2 (.slice iC iK iD)).toList] [y2]:=aaJ.CU (fun f=>by simp only[List.map_cons,List.map_nil];rw[lY (S:=fun b=>S b∧b<w.heap.size) (Same.alloc _ _ _) h _ (isNode.frame (fun b hb' _=>hb.block b hb'.2) _ _ (isNode.low _ _ hk2)) f,lY (S:=fun b=>S b∧b<w.heap.size) (fun b hb' _=>hb.block b hb'.2) h _ (isNode.low _ _ hk2) f])
     have Uu:FF.take (idx+1)=FF.take idx++[y2]:=by rw[List.take_add_one,HY2.out];rfl
     have HSN:=@aG _ @Uu
     clear Uu aaJ
     go_wp2_with fail
     refine(IH.out hk3 aeQ _ (by omega) (by omega)).mono ?_
     rintro e w2 ⟨r,b,rfl,hb2,hD2⟩
     have HD2:=@aG _ @hD2
     clear hD2
     have hb3:Below w.heap.size w w2:=(hb.alloc hb.size _).trans (hb2.mono (by simp;omega))
     cases b
     ·go_wp2_with fail
      go_roundg (kl - (idx+1))
      case measure=>rw[HG.out];omega
      case rel=>exact⟨idx+1,rfl,by go_num,hlt,hb3,by
       show Dp _ _ _
       rw[HSN.out]
       rcases HD2.out with h1|h1
       ·exact HD.out.app h1.2
       ·exact absurd h1.1 (by decide)⟩
     ·go_wp2_with fail
      exact bodyPost_ret (v:=.tuple #[.int .i64 r,.bool true]) (by simp[results,Tryz.results15,go_sem]) rfl ⟨r,true,rfl,hb3,.inr ⟨rfl,by
       have h1:Dp [y2] (d+1) (some r):=by
        rcases HD2.out with h1|h1
        ·exact absurd h1.1 (by decide)
        ·exact h1.2
       have h2:Dp (FF.take (idx+1)) (d+1) (some r):=by rw[HSN.out];exact HD.out.app h1
       have h3:Dp FF (d+1) (some r):=by rw[←List.take_append_drop (idx+1) FF];exact h2.more
       rw[Ut.out.1]
       exact Dp.node (by omega) h3⟩⟩
    ·have uI:¬(idx:Int)<(kl:Int):=by omega
     have aeR:decide ((idx:Int)<(kl:Int))=false:=by simpa using uI
     go_wp2_with fail
     exact bodyPost_ret (v:=.tuple #[.int .i64 0,.bool false]) (by simp[results,Tryz.results15,go_sem]) rfl ⟨0,false,rfl,hb,.inl ⟨rfl,by
      have h1:FF.take idx=FF:=List.take_of_length_le (by have:=Ut.out.2;omega)
      have h2:=HD.out
      rw[h1] at h2
      rw[Ut.out.1]
      exact Dp.node (by omega) h2⟩⟩
section
variable {w:World} {rb tb i:Nat} {cap:Cp} {t:Tk}
theorem jD (h:Rd w rb tb cap t i 0 0):
 Calls Tryz.prog 38 #[.pointer (some ⟨rb,0,none⟩)] w fun e w'=>e=.returned (.agg #[.int .i64 (t.kind i),.int .i64 (t.pos i),.string (t.text i),.int .i64 (t.num i)])∧Below w.heap.size w w':=by
 have r0:=h.r0
 have r1:=h.r1
 have hl:=h.l
 have hlt:=h.row.lt
 have e0:=h.row.c0 i h.lt
 have e1:=h.row.c1 i h.lt
 have e2:=h.row.c2 i h.lt
 have e3:=h.row.c3 i h.lt
 have hi:(i:Int)<(t.len:Int):=by have:=h.lt;omega
 go_enter Tryz.func38,Tryz.ntmps38
 go_wp2_with fail
 go_region
 all_goals
  go_wp2_with fail
  exact bodyPost_ret (v:=.agg #[.int .i64 (t.kind i),.int .i64 (t.pos i),.string (t.text i),.int .i64 (t.num i)]) (by simp[results,Tryz.results38,go_sem]) rfl ⟨rfl,((Below.refl _ _).alloc (Nat.le_refl _) _).drew⟩
theorem kS (h:Rd w rb tb cap t i 0 0) (hi1:i+1<t.len):
 Calls Tryz.prog 166 #[.pointer (some ⟨rb,0,none⟩)] w fun e w'=>e=.returned (.agg #[.int .i64 (t.kind (i+1)),.int .i64 (t.pos (i+1)),.string (t.text (i+1)),.int .i64 (t.num (i+1))])∧Below w.heap.size w w':=by
 have r0:=h.r0
 have r1:=h.r1
 have hl:=h.l
 have hlt:=h.row.lt
 have e0:=h.row.c0 (i+1) hi1
 have e1:=h.row.c1 (i+1) hi1
 have e2:=h.row.c2 (i+1) hi1
 have e3:=h.row.c3 (i+1) hi1
 have oC:(t.len:Int)≤6001:=by have:=h.good.few;omega
 have hi:(i:Int)+1<(t.len:Int):=by omega
 go_enter Tryz.func166,Tryz.ntmps166
 go_wp2_with fail
 go_region
 all_goals
  go_wp2_with fail
  exact bodyPost_ret (v:=.agg #[.int .i64 (t.kind (i+1)),.int .i64 (t.pos (i+1)),.string (t.text (i+1)),.int .i64 (t.num (i+1))]) (by simp[results,Tryz.results166,go_sem]) rfl ⟨rfl,((Below.refl _ _).alloc (Nat.le_refl _) _).drew⟩
theorem nT (x0 x1 x2 x3:Value) (w:World):(Instr.field 67 (.agg #[x0,x1,x2,x3]) 0).run Tryz.prog w=.ok x0 w:=by kernel_rfl
theorem rW {t:Tk} {i:Nat} (hc:Clean t) (hi:i<t.len) {s:ByteArray} (hs:s∈gL):au t i 0 0 s=((t.text i).toList==s.toList):=by
 unfold au
 have h1:decide (i+0<t.len)=true:=by simpa using hi
 rw[h1,Nat.add_zero]
 rcases hc i with h|h
 ·have h2:(t.kind i==5||t.kind i==3)=true:=by rcases h with⟨h,_⟩|h<;>simp[h]
  rw[h2]
  rfl
 ·have h2:((t.text i).toList==s.toList)=false:=by simpa using h s hs
  rw[h2]
  simp
theorem iX (h:Rd w rb tb cap t i 0 0) (s:ByteArray) (hs:s∈gL):
 Calls Tryz.prog 89 #[.pointer (some ⟨rb,0,none⟩),.string s] w fun e w'=>e=.returned (.bool (au t i 0 0 s))∧Below w.heap.size w w':=by
 have HE:Hid (au t i 0 0 s=((t.text i).toList==s.toList)):=rW h.cl h.lt hs
 clear hs
 have jT:=eX
 go_enter Tryz.func89,Tryz.ntmps89
 go_wp2_with (go_at_call 38;refine(jD h).mono ?_;rintro e w1 ⟨rfl,hb1⟩)
 go_ret
 exact⟨by rw[HE.out];rfl,hb1⟩
theorem aaK {w:World} {b:Nat} {a0 a1 a2 a3:Value} (hB:w.heap[b]? =some (.cells #[a0,a1,a2,a3] 67 (0,0))) (c0 c1 c2 c3:Value):((((w.setCell ⟨b,0,none⟩ c0).setCell ⟨b,1,none⟩ c1).setCell ⟨b,2,none⟩ c2).setCell ⟨b,3,none⟩ c3).heap[b]? =some (.cells #[c0,c1,c2,c3] 67 (0,0)):=by
 have e0:(w.setCell ⟨b,0,none⟩ c0).heap[b]? =some (.cells #[c0,a1,a2,a3] 67 (0,0)):=by rw[heap_setCell_same _ b 0 _ 67 _ hB];rfl
 have e1:((w.setCell ⟨b,0,none⟩ c0).setCell ⟨b,1,none⟩ c1).heap[b]? =some (.cells #[c0,c1,a2,a3] 67 (0,0)):=by rw[heap_setCell_same _ b 1 _ 67 _ e0];rfl
 have e2:(((w.setCell ⟨b,0,none⟩ c0).setCell ⟨b,1,none⟩ c1).setCell ⟨b,2,none⟩ c2).heap[b]? =some (.cells #[c0,c1,c2,a3] 67 (0,0)):=by rw[heap_setCell_same _ b 2 _ 67 _ e1];rfl
 rw[heap_setCell_same _ b 3 _ 67 _ e2]
 rfl
theorem Co {fn:Func} {r:Nat} (hf:fn.results=#[.cell r 67]) {tmps:Array Value} {b:Nat} (ht:tmps.getD r undef=.pointer (some ⟨b,0,none⟩)) {W:World} {c0 c1 c2 c3:Value} (hB:W.heap[b]? =some (.cells #[c0,c1,c2,c3] 67 (0,0))):
 (results fn tmps).run Tryz.prog W=.ok (.agg #[c0,c1,c2,c3]) W:=by
 have hc:∀o,W.cell? ⟨b,o,none⟩=(#[c0,c1,c2,c3]:Array Value)[o]? :=fun o=>cell_of_row W b o _ 67 (0,0) hB
 have ht':tmps[r]?.getD undef=.pointer (some ⟨b,0,none⟩):=by simpa using ht
 simp[results,hf,ht',go_sem,hc]
theorem Xr {w w1:World} {rb tb i b:Nat} {cap:Cp} {t:Tk} {x c0 c1 c2 c3:Value} {B:Obj} (HH:Rd w1 rb tb cap t i 0 0) (HK:Kp w.heap.size rb w w1) (HI:i+1<t.len) (hx:x=.int .i64 ((i+1:Nat):Int)) (hw:w.heap.size≤w1.heap.size) (hb:w.heap.size≤b) (hr:rb<b) {a0 a1 a2 a3:Value} (hB:w1.heap[b]? =some (.cells #[a0,a1,a2,a3] 67 (0,0))):
 Nx w rb tb cap t i 0 True ((((((w1.setCell ⟨rb,1,none⟩ x).setCell ⟨b,0,none⟩ c0).setCell ⟨b,1,none⟩ c1).setCell ⟨b,2,none⟩ c2).setCell ⟨b,3,none⟩ c3).alloc B) (i+1) 0 0∧
 ((((((w1.setCell ⟨rb,1,none⟩ x).setCell ⟨b,0,none⟩ c0).setCell ⟨b,1,none⟩ c1).setCell ⟨b,2,none⟩ c2).setCell ⟨b,3,none⟩ c3).alloc B).heap[b]? =some (.cells #[c0,c1,c2,c3] 67 (0,0)):=by
 subst hx
 have hlt1:b<w1.heap.size:=(Array.getElem?_eq_some_iff.1 hB).1
 have hz5:(w1.setCell ⟨rb,1,none⟩ (.int .i64 (i+1:Nat))).heap[b]? =some (.cells #[a0,a1,a2,a3] 67 (0,0)):=(Below.heap_setCell _ _ _ _ (by show b≠rb;omega)).trans hB
 refine⟨⟨?_,?_,by omega,fun e=>e,fun _ _=>by omega⟩,(Below.heap_alloc _ _ _ (by simpa using hlt1)).trans (aaK hz5 _ _ _ _)⟩
 ·have h1:=HH.aeP HI
  have h2:=h1.setCell (p:=⟨b,0,none⟩) hr c0
  have h3:=h2.setCell (p:=⟨b,1,none⟩) hr c1
  have h4:=h3.setCell (p:=⟨b,2,none⟩) hr c2
  exact(h4.setCell (p:=⟨b,3,none⟩) hr c3).alloc B
 ·have h1:=Kp.setCell (p:=⟨rb,1,none⟩) HK (.inr rfl) (.int .i64 (i+1:Nat))
  have h2:=Kp.setCell (p:=⟨b,0,none⟩) h1 (.inl hb) c0
  have h3:=Kp.setCell (p:=⟨b,1,none⟩) h2 (.inl hb) c1
  have h4:=Kp.setCell (p:=⟨b,2,none⟩) h3 (.inl hb) c2
  exact(Kp.setCell (p:=⟨b,3,none⟩) h4 (.inl hb) c3).alloc (by simpa using hw) B
theorem BF (h:Rd w rb tb cap t i 0 0) (hi1:i+1<t.len):
 Calls Tryz.prog 145 #[.pointer (some ⟨rb,0,none⟩)] w fun e w'=>e=.returned (.agg #[.int .i64 (t.kind i),.int .i64 (t.pos i),.string (t.text i),.int .i64 (t.num i)])∧Nx w rb tb cap t i 0 True w' (i+1) 0 0:=by
 have oC:(t.len:Int)≤6001:=by have:=h.good.few;omega
 have hi:(i:Int)+1<(t.len:Int):=by omega
 have HI:=@aG _ @hi1
 clear hi1
 go_enter Tryz.func145,Tryz.ntmps145
 have h0:=h.alloc (.cells #[.int .i64 0,.int .i64 0,.string ⟨#[]⟩,.int .i64 0] 67)
 have hrl:=h.l
 have hrb:rb<w.heap.size:=h.l
 go_wp2_with fail
 refine(jD h0).mono ?_
 rintro e w1 ⟨rfl,hb1⟩
 have hsz:=hb1.size
 have hz:w1.heap[w.heap.size]? =some (.cells #[.int .i64 0,.int .i64 0,.string ⟨#[]⟩,.int .i64 0] 67 (0,0)):=(hb1.block _ (by simp)).trans (heap_alloc_new w _)
 have h1:=h0.below hb1
 have hlt1:w.heap.size<w1.heap.size:=(Array.getElem?_eq_some_iff.1 hz).1
 have HK:Hid (Kp w.heap.size rb w w1):=Kp.of_below (((Below.refl _ _).alloc (Nat.le_refl _) _).trans (hb1.mono (by simp)))
 have HH:=@aG _ @h1
 have ct:∀o,(w1.alloc (.cells #[.int .i64 (t.kind i),.int .i64 (t.pos i),.string (t.text i),.int .i64 (t.num i)] 67)).cell? ⟨w1.heap.size,o,none⟩=(#[.int .i64 (t.kind i),.int .i64 (t.pos i),.string (t.text i),.int .i64 (t.num i)]:Array Value)[o]? :=fun o=>cell_of_row _ _ o _ 67 (0,0) (heap_alloc_new w1 _)
 have cz:∀o,w1.cell? ⟨w.heap.size,o,none⟩=(#[.int .i64 0,.int .i64 0,.string ⟨#[]⟩,.int .i64 0]:Array Value)[o]? :=fun o=>cell_of_row _ _ o _ 67 (0,0) hz
 have fz:∀o,w1.frozen? ⟨w.heap.size,o,none⟩=false:=fun o=>frozen_of_row _ _ o _ 67 hz
 have r1:=h1.r1
 have f1:=h1.fz 1
 have l1:=h1.l
 have n1:rb≠w1.heap.size:=by omega
 have n2:w1.heap.size≠rb:=by omega
 have n3:w.heap.size≠rb:=by omega
 have n4:rb≠w.heap.size:=by omega
 have n5:w1.heap.size≠w.heap.size:=by omega
 have n6:w.heap.size≠w1.heap.size:=by omega
 have HZ:=@aG _ @hz
 clear hz h0 h1 hsz
 go_wp2_with fail
 go_light
 have hk:=Xr (w:=w) (B:=.cells #[.int .i64 (t.kind i),.int .i64 (t.pos i),.string (t.text i),.int .i64 (t.num i)] 67) (x:=.int .i64 (↑i +1)) (c0:=.int .i64 (t.kind i)) (c1:=.int .i64 (t.pos i)) (c2:=.string (t.text i)) (c3:=.int .i64 (t.num i)) HH.out HK.out HI.out (by simp) (Nat.le_of_lt hlt1) (Nat.le_refl _) hrb HZ.out
 exact bodyPost_ret (v:=.agg #[.int .i64 (t.kind i),.int .i64 (t.pos i),.string (t.text i),.int .i64 (t.num i)]) (Co rfl (by rfl) hk.2) rfl ⟨rfl,hk.1⟩
end
section
variable {w:World} {rb tb i:Nat} {cap:Cp} {t:Tk}
theorem cO (h:Rd w rb tb cap t i 0 0) (s:ByteArray) (hs:s∈gL):
 Calls Tryz.prog 91 #[.pointer (some ⟨rb,0,none⟩),.string s] w fun e w'=>∃b i',e=.returned (.bool b)∧Bw t s i 0 b i'∧Rd w' rb tb cap t i' 0 0∧Kp w.heap.size rb w w':=by
 have HS:=@aG _ @hs
 clear hs
 cases hb:au t i 0 0 s
 ·have HB:=@aG _ @hb
  go_enter Tryz.func91,Tryz.ntmps91
  go_wp2_with (go_at_call 89;refine(iX h s HS.out).mono ?_;rintro e w1 ⟨rfl,hb1⟩)
  go_ret
  exact⟨false,i,rfl,⟨HB.out.symm,by simp,fun _=>rfl⟩,h.below hb1,Kp.of_below hb1⟩
 ·have HB:=@aG _ @hb
  have HL:Hid (i+1<t.len):=(iY h.good h.lt hb).2
  go_enter Tryz.func91,Tryz.ntmps91
  go_wp2_with (first|(go_at_call 89;refine(iX h s HS.out).mono ?_;rintro e w1 ⟨rfl,hb1⟩;have h1:=h.below hb1)|(go_at_call 145;refine(BF h1 HL.out).mono ?_;rintro e w2 ⟨rfl,hx⟩))
  go_ret
  exact⟨true,i+1,rfl,⟨HB.out.symm,fun _=>⟨rfl,rfl⟩,by simp⟩,hx.rd,(Kp.of_below hb1).trans (hx.kp.mono hb1.size)⟩
theorem D9 (h:Rd w rb tb cap t i 0 0):
 Calls Tryz.prog 164 #[.pointer (some ⟨rb,0,none⟩)] w fun e w'=>e=.returned (.agg #[.int .i64 (t.pos i)])∧Below w.heap.size w w':=by
 have jT:=CO
 have h0:=h.alloc (.cells #[.int .i64 0] 43)
 go_enter Tryz.func164,Tryz.ntmps164
 go_wp2_with fail
 refine(jD h0).mono ?_
 rintro e w1 ⟨rfl,hb1⟩
 have hz:w1.heap[w.heap.size]? =some (.cells #[.int .i64 0] 43 (0,0)):=(hb1.block _ (by simp)).trans (heap_alloc_new w _)
 have cz:∀o,w1.cell? ⟨w.heap.size,o,none⟩=(#[.int .i64 0]:Array Value)[o]? :=fun o=>cell_of_row _ _ o _ 43 (0,0) hz
 have fz:∀o,w1.frozen? ⟨w.heap.size,o,none⟩=false:=fun o=>frozen_of_row _ _ o _ 43 hz
 have hb2:Below w.heap.size w (w1.setCell ⟨w.heap.size,0,none⟩ (.int .i64 (t.pos i))):=(((Below.refl _ _).alloc (Nat.le_refl _) _).trans (hb1.mono (by simp))).setCell (Nat.le_refl _) _
 have hc:(w1.setCell ⟨w.heap.size,0,none⟩ (.int .i64 (t.pos i))).cell? ⟨w.heap.size,0,none⟩=some (.int .i64 (t.pos i)):=by
  rw[cell_of_row _ _ 0 #[.int .i64 (t.pos i)] 43 (0,0) (by rw[heap_setCell_same _ _ 0 _ 43 _ hz];rfl)]
  rfl
 have HB2:=@aG _ @hb2
 have HC:=@aG _ @hc
 clear hb1 hb2 hc hz h0 h
 go_wp2_with fail
 exact bodyPost_ret (v:=.agg #[.int .i64 (t.pos i)]) (by simp[results,Tryz.results164,go_sem,HC.out]) rfl ⟨rfl,HB2.out⟩
theorem dw (h:Rd w rb tb cap t i 0 0) (s:ByteArray) (hs:s∈gL):
 Calls Tryz.prog 87 #[.pointer (some ⟨rb,0,none⟩),.string s] w fun e w'=>(e=.returned (.tuple #[])∧Nx w rb tb cap t i 0 True w' (i+1) 0 0∧au t i 0 0 s=true)∨(e=iQ (t.pos i)∧Kp w.heap.size rb w w'∧au t i 0 0 s=false):=by
 have HS:=@aG _ @hs
 clear hs
 go_enter Tryz.func87,Tryz.ntmps87
 go_wp2_with (first|(go_at_call 91;refine(cO h s HS.out).mono ?_;rintro e w1 ⟨b,i1,rfl,hE,h1,hk1⟩;cases b)|(go_at_call 164;have hi1:=hE.no rfl;subst hi1;refine(D9 h1).mono ?_;rintro e w2 ⟨rfl,hb2⟩))
 all_goals first
  |(go_end0;have hi1:=(hE.yes rfl).1;subst hi1;exact .inl ⟨rfl,⟨h1,hk1,by omega,fun e=>e,fun _ _=>by omega⟩,hE.jE.symm⟩)
  |exact⟨rfl,.inr ⟨rfl,hk1.trans ((Kp.of_below hb2).mono hk1.size),hE.jE.symm⟩⟩
end
section
variable {w:World} {rb tb i:Nat} {cap:Cp} {t:Tk}
theorem Df {t:Tk} {i:Nat} (hg:t.Good) (hi:i<t.len) {q:Int} (hq:q≠0) (h:bf t i 0 0 q=true):i+1<t.len:=by
 unfold bf at h
 simp only[Nat.add_zero,Bool.and_eq_true,beq_iff_eq,decide_eq_true_eq] at h
 rcases Nat.lt_or_ge (i+1) t.len with h5|h5
 ·exact h5
 ·have e:i=t.len - 1:=by omega
  have hl:=hg.last
  rw[←e] at hl
  rw[hl] at h
  exact absurd h.2.2.symm hq
theorem fQ {t:Tk} {i:Nat} (hi:i<t.len) (q:Int):bf t i 0 0 q=((t.kind i:Int)==q):=by
 unfold bf
 simp[hi]
theorem aD {p:Prop} (h:p):Hid p:=h
theorem Xt {w w1 w2:World} {rb tb i i' b:Nat} {cap:Cp} {t:Tk} {c0 c1 c2 c3:Value} (HK:Kp w.heap.size rb w w1) (hw:w.heap.size≤w1.heap.size) (hx:Nx w1 rb tb cap t i 0 True w2 i' 0 0) (hb:w.heap.size≤b) (hr:rb<b) {a0 a1 a2 a3:Value} (hB:w2.heap[b]? =some (.cells #[a0,a1,a2,a3] 67 (0,0))):
 Nx w rb tb cap t i 0 True ((((w2.setCell ⟨b,0,none⟩ c0).setCell ⟨b,1,none⟩ c1).setCell ⟨b,2,none⟩ c2).setCell ⟨b,3,none⟩ c3) i' 0 0∧
 ((((w2.setCell ⟨b,0,none⟩ c0).setCell ⟨b,1,none⟩ c1).setCell ⟨b,2,none⟩ c2).setCell ⟨b,3,none⟩ c3).heap[b]? =some (.cells #[c0,c1,c2,c3] 67 (0,0)):=by
 have h0:=HK.trans (hx.kp.mono hw)
 refine⟨⟨(((hx.rd.setCell (p:=⟨b,0,none⟩) hr c0).setCell (p:=⟨b,1,none⟩) hr c1).setCell (p:=⟨b,2,none⟩) hr c2).setCell (p:=⟨b,3,none⟩) hr c3,?_,hx.le,fun e=>e,hx.go⟩,aaK hB _ _ _ _⟩
 have h2:=Kp.setCell (p:=⟨b,0,none⟩) h0 (.inl hb) c0
 have h3:=Kp.setCell (p:=⟨b,1,none⟩) h2 (.inl hb) c1
 have h4:=Kp.setCell (p:=⟨b,2,none⟩) h3 (.inl hb) c2
 exact Kp.setCell (p:=⟨b,3,none⟩) h4 (.inl hb) c3
theorem F8 (h:Rd w rb tb cap t i 0 0) (q:Int) (hq:q≠0):
 Calls Tryz.prog 161 #[.pointer (some ⟨rb,0,none⟩),.int .i64 q] w fun e w'=>(e=.returned (.agg #[.int .i64 (t.kind i),.int .i64 (t.pos i),.string (t.text i),.int .i64 (t.num i)])∧Nx w rb tb cap t i 0 True w' (i+1) 0 0∧bf t i 0 0 q=true)∨(e=iQ (t.pos i)∧Kp w.heap.size rb w w'∧bf t i 0 0 q=false):=by
 have h0:=h.alloc (.cells #[.int .i64 0,.int .i64 0,.string ⟨#[]⟩,.int .i64 0] 67)
 have jT:=nT
 have HK:Hid (bf t i 0 0 q=((t.kind i:Int)==q)):=fQ h.lt q
 have HQ:=@aG _ @hq
 clear hq
 go_enter Tryz.func161,Tryz.ntmps161
 go_wp2_with fail
 refine(jD h0).mono ?_
 rintro e w1 ⟨rfl,hb1⟩
 have hsz:=hb1.size
 have hz:w1.heap[w.heap.size]? =some (.cells #[.int .i64 0,.int .i64 0,.string ⟨#[]⟩,.int .i64 0] 67 (0,0)):=(hb1.block _ (by simp)).trans (heap_alloc_new w _)
 have h1:=h0.below hb1
 have hlt1:w.heap.size<w1.heap.size:=(Array.getElem?_eq_some_iff.1 hz).1
 have hrb:rb<w.heap.size:=h.l
 have HP:Hid (Kp w.heap.size rb w w1):=Kp.of_below (((Below.refl _ _).alloc (Nat.le_refl _) _).trans (hb1.mono (by simp)))
 cases hb:bf t i 0 0 q
 ·have hne:((t.kind i:Int)==q)=false:=HK.out.symm.trans hb
  have HB:=@aG _ @hb
  clear hz hsz hb
  go_wp2_with (go_at_call 164;refine(D9 h1).mono ?_;rintro e w2 ⟨rfl,hb2⟩)
  exact⟨rfl,.inr ⟨rfl,HP.out.trans ((Kp.of_below hb2).mono (by simpa using Nat.le_of_lt hlt1)),HB.out⟩⟩
 ·have hne:((t.kind i:Int)==q)=true:=HK.out.symm.trans hb
  have HB:=@aG _ @hb
  have HL:Hid (i+1<t.len):=Df h.good h.lt HQ.out hb
  clear hb
  go_wp2_with fail
  refine(BF h1 HL.out).mono ?_
  rintro e w2 ⟨rfl,hx⟩
  have hz2:w2.heap[w.heap.size]? =some (.cells #[.int .i64 0,.int .i64 0,.string ⟨#[]⟩,.int .i64 0] 67 (0,0)):=(hx.kp.block _ hlt1 (by omega)).trans hz
  have hk:=Xt (w:=w) (b:=w.heap.size) (c0:=.int .i64 (t.kind i)) (c1:=.int .i64 (t.pos i)) (c2:=.string (t.text i)) (c3:=.int .i64 (t.num i)) HP.out (Nat.le_of_lt hlt1) hx (Nat.le_refl _) hrb hz2
  have HX:=aD hk
  have cz:∀o,w2.cell? ⟨w.heap.size,o,none⟩=(#[.int .i64 0,.int .i64 0,.string ⟨#[]⟩,.int .i64 0]:Array Value)[o]? :=fun o=>cell_of_row _ _ o _ 67 (0,0) hz2
  have fz:∀o,w2.frozen? ⟨w.heap.size,o,none⟩=false:=fun o=>frozen_of_row _ _ o _ 67 hz2
  clear hk hz2 hz hsz h0 h1 hx
  go_wp2_with fail
  go_light
  exact bodyPost_ret (v:=.agg #[.int .i64 (t.kind i),.int .i64 (t.pos i),.string (t.text i),.int .i64 (t.num i)]) (Co rfl (by rfl) HX.out.2) rfl (.inl ⟨rfl,HX.out.1,HB.out⟩)
theorem dx (h:Rd w rb tb cap t i 0 0) (ki:Int):
 Calls Tryz.prog 37 #[.pointer (some ⟨rb,0,none⟩),.int .i64 ki] w fun e w'=>e=.returned (.agg (ah ki (t.pos i) 0 0 ⟨#[]⟩ nl))∧Below w.heap.size w w':=by
 have hl:=h.l
 have jT:=CO
 go_enter Tryz.func37,Tryz.ntmps37
 go_wp2_with (go_at_call 38;refine(jD (h.alloc _)).mono ?_;rintro e w1 ⟨rfl,hb1⟩;obtain⟨hc,hf⟩:=Nc hb1;have hz:w.heap.size<w1.heap.size:=(by have:=hb1.size;simp at this;omega))
 exact bodyPost_ret (v:=.agg (ah ki (t.pos i) 0 0 ⟨#[]⟩ (.slice none 0 0))) (by simp[results,Tryz.results37,go_sem,hc]) rfl ⟨rfl,Below.bC (((Below.refl _ _).alloc (Nat.le_refl _) _).trans (hb1.mono (by simp))) (Nat.le_refl _) _ _ _ _ _ _ _ _ _ _ _⟩
theorem nameP (h:Rd w rb tb cap t i 0 0):
 Calls Tryz.prog 88 #[.pointer (some ⟨rb,0,none⟩)] w fun e w'=>(∃x i',e=.returned (.string x)∧x.size≤6000∧Nx w rb tb cap t i 0 True w' i' 0 0∧wu x∧Ev (fun _=>bG t) ⟨i,0,0⟩ (x,⟨i',0,0⟩))∨tK w rb ⟨i,0,0⟩ (fun _=>bG t) e w':=by
 have jT:=eX
 have HT:Hid ((t.text i).size≤6000):=h.good.nK i
 have HN:Hid (bf t i 0 0 2=true→wu (t.text i)):=fun e=>h.good.name i (by rw[fQ h.lt,beq_iff_eq] at e;omega)
 go_enter Tryz.func88,Tryz.ntmps88
 go_wp2_with fail
 refine(F8 h 2 (by decide)).mono ?_
 rintro e w1 (⟨rfl,hx,hb⟩|⟨rfl,hk,hb⟩)
 ·go_wp2_with fail
  go_ret
  exact .inl ⟨_,i+1,rfl,HT.out,hx,HN.out hb,Ev.ak dz (Ev.yes hb (Ev.ak vX (Ev.seq iJ Ev.ret')))⟩
 ·exact⟨rfl,.inr ⟨_,rfl,hk,LV hb⟩⟩
end
end Go.Proofs.YtdplogkmkgekdaaGreatDoor.Pj
