/- The project's Parse: a fault of the tokens. -/
import Derived.Test.YtdplogkmkgekdaaGreatDoorPlh
import Derived.Test.YtdplogkmkgekdaaGreatDoorPll
import Derived.Test.YtdplogkmkgekdaaGreatDoorPlj
import Derived.Test.YtdplogkmkgekdaaGreatDoorPkl
set_option linter.all false
set_option maxRecDepth 100000
set_option maxHeartbeats 4000000
namespace Go.Proofs.YtdplogkmkgekdaaGreatDoor.Pj
open Go.RowKit
theorem EntV.mono {w:World} {bd bd':Nat} {e:Ent} {v:Value} (h:EntV w bd e v) (hb:bd≤bd'):EntV w bd' e v:=by
 unfold EntV at h⊢
 split
 ·rename_i hf
  rw[if_pos hf] at h
  obtain⟨b1,b2,h1,h2,h3,h4,h5⟩:=h
  exact⟨b1,b2,by omega,by omega,h3,h4,h5⟩
 ·rename_i hf
  rwa [if_neg hf] at h
theorem TabW.mono {w:World} {bd bd' a:Nat} {es:List Ent} (h:TabW w bd a es) (hb:bd≤bd'):TabW w bd' a es:=by
 obtain⟨h1,cs,h2,h3⟩:=h
 refine⟨by omega,cs,h2,fun j e he=>?_⟩
 obtain⟨x1,v,x2,x3⟩:=h3 j e he
 exact⟨x1,v,x2,x3.mono hb⟩
theorem entP {w:World} {bd:Nat} {s:ByteArray} {f:Nat} {k n:Int} (hf:f≠144:=by decide):EntV w bd ⟨s,f,k,n⟩ (.func (.func f) #[] #[]):=by
 unfold EntV
 rw[if_neg hf]
theorem entB {w:World} {bd b1 b2:Nat} {s:ByteArray} {k n:Int} (h1:b1<bd) (h2:b2<bd) (h3:w.heap[b1]? =some (.cells #[.int .i64 k] 3 (0,0))) (h4:w.heap[b2]? =some (.cells #[.int .i64 n] 3 (0,0))):EntV w bd ⟨s,144,k,n⟩ (.func (.func 144) #[] #[.pointer (some ⟨b1,0,none⟩),.pointer (some ⟨b2,0,none⟩)]):=by
 unfold EntV
 rw[if_pos rfl]
 exact⟨b1,b2,h1,h2,rfl,h3,h4⟩
def BarP (w:World) (k n:Int) (e:Ending) (w':World):Prop:=∃b1 b2,e=.returned (.func (.func 144) #[] #[.pointer (some ⟨b1,0,none⟩),.pointer (some ⟨b2,0,none⟩)])∧Below w.heap.size w w'∧b1<w'.heap.size∧b2<w'.heap.size∧w'.heap[b1]? =some (.cells #[.int .i64 k] 3 (0,0))∧w'.heap[b2]? =some (.cells #[.int .i64 n] 3 (0,0))
theorem bareMk (w:World) (k n:Int):Calls Tryz.prog 65 #[.int .i64 k,.int .i64 n] w (BarP w k n):=by
 have hmf:∀(fn:Fn) (first cap:Array Value) (w:World),(Instr.makeFunc fn first cap).run Tryz.prog w=.ok (.func fn first cap) w:=fun _ _ _ _=>rfl
 go_enter Tryz.func65,Tryz.ntmps65
 go_wp2_with fail
 go_ret
 refine⟨w.heap.size,w.heap.size+1,rfl,((Below.refl _ _).alloc (Nat.le_refl _) _).alloc (by simp) _,by simp;omega,by simp,?_,?_⟩
 ·rw[Below.heap_alloc _ _ _ (by simp)]
  exact heap_alloc_new w _
 ·have:=heap_alloc_new (w.alloc (.cells #[.int .i64 k] 3)) (.cells #[.int .i64 n] 3)
  simpa using this
def TabP (w:World) (n:Nat) (es:List Ent) (e:Ending) (w':World):Prop:=∃a,e=.returned (.slice (some ⟨a,0,none⟩) n n)∧Below w.heap.size w w'∧w.heap.size≤a∧TabW w' w'.heap.size a es
theorem itemsMk (w0:World):Calls Tryz.prog 32 #[] w0 (TabP w0 4 esItems):=by
 have hmf:∀(fn:Fn) (first cap:Array Value) (w:World),(Instr.makeFunc fn first cap).run Tryz.prog w=.ok (.func fn first cap) w:=fun _ _ _ _=>rfl
 go_enter Tryz.func32,Tryz.ntmps32
 go_wp2_with fail
 go_ret
 refine⟨w0.heap.size,rfl,(Below.refl _ _).alloc (Nat.le_refl _) _,Nat.le_refl _,by simp,_,heap_alloc_new w0 _,fun j e he=>?_⟩
 match j,he with
 |0,he=>
  obtain rfl:=Option.some.inj he
  exact⟨rfl,_,rfl,entP⟩
 |1,he=>
  obtain rfl:=Option.some.inj he
  exact⟨rfl,_,rfl,entP⟩
 |2,he=>
  obtain rfl:=Option.some.inj he
  exact⟨rfl,_,rfl,entP⟩
 |3,he=>
  obtain rfl:=Option.some.inj he
  exact⟨rfl,_,rfl,entP⟩
 |j+4,he=>exact absurd he (by simp[esItems])
theorem typesMk (w0:World):Calls Tryz.prog 33 #[] w0 (TabP w0 6 esTypes):=by
 have hmf:∀(fn:Fn) (first cap:Array Value) (w:World),(Instr.makeFunc fn first cap).run Tryz.prog w=.ok (.func fn first cap) w:=fun _ _ _ _=>rfl
 go_enter Tryz.func33,Tryz.ntmps33
 go_wp2_with fail
 (refine(bareMk w0 13 0).mono ?_;rintro e w1 ⟨b1,c1,rfl,hb1,lb1,lc1,eb1,ec1⟩)
 go_wp2_with fail
 (refine(bareMk w1 14 0).mono ?_;rintro e w2 ⟨b2,c2,rfl,hb2,lb2,lc2,eb2,ec2⟩)
 have H1:Below w1.heap.size w1 w2:=hb2
 have HW:Below w0.heap.size w0 w2:=hb1.trans (H1.mono hb1.size)
 have E1:w2.heap[b1]? =_∧w2.heap[c1]? =_∧b1<w2.heap.size∧c1<w2.heap.size:=⟨((H1.block b1 lb1).trans eb1),((H1.block c1 lc1).trans ec1),(Nat.lt_of_lt_of_le lb1 H1.size),(Nat.lt_of_lt_of_le lc1 H1.size)⟩
 have E2:w2.heap[b2]? =_∧w2.heap[c2]? =_∧b2<w2.heap.size∧c2<w2.heap.size:=⟨eb2,ec2,lb2,lc2⟩
 clear hb1 eb1 ec1 lb1 lc1 hb2 eb2 ec2 lb2 lc2 H1
 have G1:=Hid_nx E1
 have G2:=Hid_nx E2
 have GW:=Hid_nx HW
 clear HW E1 E2
 go_wp2_with fail
 go_ret
 refine⟨w2.heap.size,rfl,(GW.out).alloc (GW.out.size) _,GW.out.size,by simp,_,heap_alloc_new w2 _,fun j e he=>?_⟩
 match j,he with
 |0,he=>
  obtain rfl:=Option.some.inj he
  exact⟨rfl,_,rfl,entB (by simp;exact Nat.lt_succ_of_lt G1.out.2.2.1) (by simp;exact Nat.lt_succ_of_lt G1.out.2.2.2) ((Below.heap_alloc _ _ _ G1.out.2.2.1).trans G1.out.1) ((Below.heap_alloc _ _ _ G1.out.2.2.2).trans G1.out.2.1)⟩
 |1,he=>
  obtain rfl:=Option.some.inj he
  exact⟨rfl,_,rfl,entB (by simp;exact Nat.lt_succ_of_lt G2.out.2.2.1) (by simp;exact Nat.lt_succ_of_lt G2.out.2.2.2) ((Below.heap_alloc _ _ _ G2.out.2.2.1).trans G2.out.1) ((Below.heap_alloc _ _ _ G2.out.2.2.2).trans G2.out.2.1)⟩
 |2,he=>
  obtain rfl:=Option.some.inj he
  exact⟨rfl,_,rfl,entP⟩
 |3,he=>
  obtain rfl:=Option.some.inj he
  exact⟨rfl,_,rfl,entP⟩
 |4,he=>
  obtain rfl:=Option.some.inj he
  exact⟨rfl,_,rfl,entP⟩
 |5,he=>
  obtain rfl:=Option.some.inj he
  exact⟨rfl,_,rfl,entP⟩
 |j+6,he=>exact absurd he (by simp[esTypes])
theorem aloneMk (w0:World):Calls Tryz.prog 34 #[] w0 (TabP w0 5 esAlone):=by
 have hmf:∀(fn:Fn) (first cap:Array Value) (w:World),(Instr.makeFunc fn first cap).run Tryz.prog w=.ok (.func fn first cap) w:=fun _ _ _ _=>rfl
 go_enter Tryz.func34,Tryz.ntmps34
 go_wp2_with fail
 go_ret
 refine⟨w0.heap.size,rfl,(Below.refl _ _).alloc (Nat.le_refl _) _,Nat.le_refl _,by simp,_,heap_alloc_new w0 _,fun j e he=>?_⟩
 match j,he with
 |0,he=>
  obtain rfl:=Option.some.inj he
  exact⟨rfl,_,rfl,entP⟩
 |1,he=>
  obtain rfl:=Option.some.inj he
  exact⟨rfl,_,rfl,entP⟩
 |2,he=>
  obtain rfl:=Option.some.inj he
  exact⟨rfl,_,rfl,entP⟩
 |3,he=>
  obtain rfl:=Option.some.inj he
  exact⟨rfl,_,rfl,entP⟩
 |4,he=>
  obtain rfl:=Option.some.inj he
  exact⟨rfl,_,rfl,entP⟩
 |j+5,he=>exact absurd he (by simp[esAlone])
theorem othersMk (w0:World):Calls Tryz.prog 35 #[] w0 (TabP w0 10 esOthers):=by
 have hmf:∀(fn:Fn) (first cap:Array Value) (w:World),(Instr.makeFunc fn first cap).run Tryz.prog w=.ok (.func fn first cap) w:=fun _ _ _ _=>rfl
 go_enter Tryz.func35,Tryz.ntmps35
 go_wp2_with fail
 (refine(bareMk w0 21 1).mono ?_;rintro e w1 ⟨b1,c1,rfl,hb1,lb1,lc1,eb1,ec1⟩)
 go_wp2_with fail
 (refine(bareMk w1 21 0).mono ?_;rintro e w2 ⟨b2,c2,rfl,hb2,lb2,lc2,eb2,ec2⟩)
 go_wp2_with fail
 (refine(bareMk w2 38 0).mono ?_;rintro e w3 ⟨b3,c3,rfl,hb3,lb3,lc3,eb3,ec3⟩)
 go_wp2_with fail
 (refine(bareMk w3 39 0).mono ?_;rintro e w4 ⟨b4,c4,rfl,hb4,lb4,lc4,eb4,ec4⟩)
 go_wp2_with fail
 (refine(bareMk w4 41 0).mono ?_;rintro e w5 ⟨b5,c5,rfl,hb5,lb5,lc5,eb5,ec5⟩)
 have H1:Below w1.heap.size w1 w5:=(((hb2).trans (hb3.mono (by have:=(hb2).size;omega))).trans (hb4.mono (by have:=((hb2).trans (hb3.mono (by have:=(hb2).size;omega))).size;omega))).trans (hb5.mono (by have:=(((hb2).trans (hb3.mono (by have:=(hb2).size;omega))).trans (hb4.mono (by have:=((hb2).trans (hb3.mono (by have:=(hb2).size;omega))).size;omega))).size;omega))
 have H2:Below w2.heap.size w2 w5:=((hb3).trans (hb4.mono (by have:=(hb3).size;omega))).trans (hb5.mono (by have:=((hb3).trans (hb4.mono (by have:=(hb3).size;omega))).size;omega))
 have H3:Below w3.heap.size w3 w5:=(hb4).trans (hb5.mono (by have:=(hb4).size;omega))
 have H4:Below w4.heap.size w4 w5:=hb5
 have HW:Below w0.heap.size w0 w5:=hb1.trans (H1.mono hb1.size)
 have E1:w5.heap[b1]? =_∧w5.heap[c1]? =_∧b1<w5.heap.size∧c1<w5.heap.size:=⟨((H1.block b1 lb1).trans eb1),((H1.block c1 lc1).trans ec1),(Nat.lt_of_lt_of_le lb1 H1.size),(Nat.lt_of_lt_of_le lc1 H1.size)⟩
 have E2:w5.heap[b2]? =_∧w5.heap[c2]? =_∧b2<w5.heap.size∧c2<w5.heap.size:=⟨((H2.block b2 lb2).trans eb2),((H2.block c2 lc2).trans ec2),(Nat.lt_of_lt_of_le lb2 H2.size),(Nat.lt_of_lt_of_le lc2 H2.size)⟩
 have E3:w5.heap[b3]? =_∧w5.heap[c3]? =_∧b3<w5.heap.size∧c3<w5.heap.size:=⟨((H3.block b3 lb3).trans eb3),((H3.block c3 lc3).trans ec3),(Nat.lt_of_lt_of_le lb3 H3.size),(Nat.lt_of_lt_of_le lc3 H3.size)⟩
 have E4:w5.heap[b4]? =_∧w5.heap[c4]? =_∧b4<w5.heap.size∧c4<w5.heap.size:=⟨((H4.block b4 lb4).trans eb4),((H4.block c4 lc4).trans ec4),(Nat.lt_of_lt_of_le lb4 H4.size),(Nat.lt_of_lt_of_le lc4 H4.size)⟩
 have E5:w5.heap[b5]? =_∧w5.heap[c5]? =_∧b5<w5.heap.size∧c5<w5.heap.size:=⟨eb5,ec5,lb5,lc5⟩
 clear hb1 eb1 ec1 lb1 lc1 hb2 eb2 ec2 lb2 lc2 hb3 eb3 ec3 lb3 lc3 hb4 eb4 ec4 lb4 lc4 hb5 eb5 ec5 lb5 lc5 H1 H2 H3 H4
 have G1:=Hid_nx E1
 have G2:=Hid_nx E2
 have G3:=Hid_nx E3
 have G4:=Hid_nx E4
 have G5:=Hid_nx E5
 have GW:=Hid_nx HW
 clear HW E1 E2 E3 E4 E5
 go_wp2_with fail
 go_ret
 refine⟨w5.heap.size,rfl,(GW.out).alloc (GW.out.size) _,GW.out.size,by simp,_,heap_alloc_new w5 _,fun j e he=>?_⟩
 match j,he with
 |0,he=>
  obtain rfl:=Option.some.inj he
  exact⟨rfl,_,rfl,entB (by simp;exact Nat.lt_succ_of_lt G1.out.2.2.1) (by simp;exact Nat.lt_succ_of_lt G1.out.2.2.2) ((Below.heap_alloc _ _ _ G1.out.2.2.1).trans G1.out.1) ((Below.heap_alloc _ _ _ G1.out.2.2.2).trans G1.out.2.1)⟩
 |1,he=>
  obtain rfl:=Option.some.inj he
  exact⟨rfl,_,rfl,entB (by simp;exact Nat.lt_succ_of_lt G2.out.2.2.1) (by simp;exact Nat.lt_succ_of_lt G2.out.2.2.2) ((Below.heap_alloc _ _ _ G2.out.2.2.1).trans G2.out.1) ((Below.heap_alloc _ _ _ G2.out.2.2.2).trans G2.out.2.1)⟩
 |2,he=>
  obtain rfl:=Option.some.inj he
  exact⟨rfl,_,rfl,entB (by simp;exact Nat.lt_succ_of_lt G3.out.2.2.1) (by simp;exact Nat.lt_succ_of_lt G3.out.2.2.2) ((Below.heap_alloc _ _ _ G3.out.2.2.1).trans G3.out.1) ((Below.heap_alloc _ _ _ G3.out.2.2.2).trans G3.out.2.1)⟩
 |3,he=>
  obtain rfl:=Option.some.inj he
  exact⟨rfl,_,rfl,entB (by simp;exact Nat.lt_succ_of_lt G4.out.2.2.1) (by simp;exact Nat.lt_succ_of_lt G4.out.2.2.2) ((Below.heap_alloc _ _ _ G4.out.2.2.1).trans G4.out.1) ((Below.heap_alloc _ _ _ G4.out.2.2.2).trans G4.out.2.1)⟩
 |4,he=>
  obtain rfl:=Option.some.inj he
  exact⟨rfl,_,rfl,entB (by simp;exact Nat.lt_succ_of_lt G5.out.2.2.1) (by simp;exact Nat.lt_succ_of_lt G5.out.2.2.2) ((Below.heap_alloc _ _ _ G5.out.2.2.1).trans G5.out.1) ((Below.heap_alloc _ _ _ G5.out.2.2.2).trans G5.out.2.1)⟩
 |5,he=>
  obtain rfl:=Option.some.inj he
  exact⟨rfl,_,rfl,entP⟩
 |6,he=>
  obtain rfl:=Option.some.inj he
  exact⟨rfl,_,rfl,entP⟩
 |7,he=>
  obtain rfl:=Option.some.inj he
  exact⟨rfl,_,rfl,entP⟩
 |8,he=>
  obtain rfl:=Option.some.inj he
  exact⟨rfl,_,rfl,entP⟩
 |9,he=>
  obtain rfl:=Option.some.inj he
  exact⟨rfl,_,rfl,entP⟩
 |j+10,he=>exact absurd he (by simp[esOthers])
theorem patsMk (w0:World):Calls Tryz.prog 36 #[] w0 (TabP w0 7 esPats):=by
 have hmf:∀(fn:Fn) (first cap:Array Value) (w:World),(Instr.makeFunc fn first cap).run Tryz.prog w=.ok (.func fn first cap) w:=fun _ _ _ _=>rfl
 go_enter Tryz.func36,Tryz.ntmps36
 go_wp2_with fail
 (refine(bareMk w0 49 0).mono ?_;rintro e w1 ⟨b1,c1,rfl,hb1,lb1,lc1,eb1,ec1⟩)
 go_wp2_with fail
 (refine(bareMk w1 52 1).mono ?_;rintro e w2 ⟨b2,c2,rfl,hb2,lb2,lc2,eb2,ec2⟩)
 go_wp2_with fail
 (refine(bareMk w2 52 0).mono ?_;rintro e w3 ⟨b3,c3,rfl,hb3,lb3,lc3,eb3,ec3⟩)
 have H1:Below w1.heap.size w1 w3:=(hb2).trans (hb3.mono (by have:=(hb2).size;omega))
 have H2:Below w2.heap.size w2 w3:=hb3
 have HW:Below w0.heap.size w0 w3:=hb1.trans (H1.mono hb1.size)
 have E1:w3.heap[b1]? =_∧w3.heap[c1]? =_∧b1<w3.heap.size∧c1<w3.heap.size:=⟨((H1.block b1 lb1).trans eb1),((H1.block c1 lc1).trans ec1),(Nat.lt_of_lt_of_le lb1 H1.size),(Nat.lt_of_lt_of_le lc1 H1.size)⟩
 have E2:w3.heap[b2]? =_∧w3.heap[c2]? =_∧b2<w3.heap.size∧c2<w3.heap.size:=⟨((H2.block b2 lb2).trans eb2),((H2.block c2 lc2).trans ec2),(Nat.lt_of_lt_of_le lb2 H2.size),(Nat.lt_of_lt_of_le lc2 H2.size)⟩
 have E3:w3.heap[b3]? =_∧w3.heap[c3]? =_∧b3<w3.heap.size∧c3<w3.heap.size:=⟨eb3,ec3,lb3,lc3⟩
 clear hb1 eb1 ec1 lb1 lc1 hb2 eb2 ec2 lb2 lc2 hb3 eb3 ec3 lb3 lc3 H1 H2
 have G1:=Hid_nx E1
 have G2:=Hid_nx E2
 have G3:=Hid_nx E3
 have GW:=Hid_nx HW
 clear HW E1 E2 E3
 go_wp2_with fail
 go_ret
 refine⟨w3.heap.size,rfl,(GW.out).alloc (GW.out.size) _,GW.out.size,by simp,_,heap_alloc_new w3 _,fun j e he=>?_⟩
 match j,he with
 |0,he=>
  obtain rfl:=Option.some.inj he
  exact⟨rfl,_,rfl,entB (by simp;exact Nat.lt_succ_of_lt G1.out.2.2.1) (by simp;exact Nat.lt_succ_of_lt G1.out.2.2.2) ((Below.heap_alloc _ _ _ G1.out.2.2.1).trans G1.out.1) ((Below.heap_alloc _ _ _ G1.out.2.2.2).trans G1.out.2.1)⟩
 |1,he=>
  obtain rfl:=Option.some.inj he
  exact⟨rfl,_,rfl,entB (by simp;exact Nat.lt_succ_of_lt G2.out.2.2.1) (by simp;exact Nat.lt_succ_of_lt G2.out.2.2.2) ((Below.heap_alloc _ _ _ G2.out.2.2.1).trans G2.out.1) ((Below.heap_alloc _ _ _ G2.out.2.2.2).trans G2.out.2.1)⟩
 |2,he=>
  obtain rfl:=Option.some.inj he
  exact⟨rfl,_,rfl,entB (by simp;exact Nat.lt_succ_of_lt G3.out.2.2.1) (by simp;exact Nat.lt_succ_of_lt G3.out.2.2.2) ((Below.heap_alloc _ _ _ G3.out.2.2.1).trans G3.out.1) ((Below.heap_alloc _ _ _ G3.out.2.2.2).trans G3.out.2.1)⟩
 |3,he=>
  obtain rfl:=Option.some.inj he
  exact⟨rfl,_,rfl,entP⟩
 |4,he=>
  obtain rfl:=Option.some.inj he
  exact⟨rfl,_,rfl,entP⟩
 |5,he=>
  obtain rfl:=Option.some.inj he
  exact⟨rfl,_,rfl,entP⟩
 |6,he=>
  obtain rfl:=Option.some.inj he
  exact⟨rfl,_,rfl,entP⟩
 |j+7,he=>exact absurd he (by simp[esPats])
theorem newParserP {w0:World} {tb cap:Nat} {t:Tk} (hrow:Row w0 tb t) (htb:tb<w0.heap.size) (hg:t.Good) (hc:Clean t) (h0:0<t.len) (hG:Glob w0.heap.size w0):Calls Tryz.prog 13 #[.slice (some ⟨tb,0,none⟩) t.len cap] w0 (fun e w'=>∃rb cp,e=.returned (.pointer (some ⟨rb,0,none⟩))∧Rd w' rb tb cp t 0 0 0∧Below w0.heap.size w0 w'∧w0.heap.size≤rb):=by
 have HROW:=Hid_nx hrow
 have HGL:=Hid_nx hG
 have HGOOD:=Hid_nx hg
 have HCL:=Hid_nx hc
 clear hrow hG hg hc
 go_enter Tryz.func13,Tryz.ntmps13
 go_wp2_with fail
 (refine(itemsMk w0).mono ?_;rintro e w1 ⟨a1,rfl,hb1,la1,T1⟩;have U1:=Hid_nx T1;clear T1)
 go_wp2_with fail
 (refine(typesMk w1).mono ?_;rintro e w2 ⟨a2,rfl,hb2,la2,T2⟩;have U2:=Hid_nx T2;clear T2)
 go_wp2_with fail
 (refine(aloneMk w2).mono ?_;rintro e w3 ⟨a3,rfl,hb3,la3,T3⟩;have U3:=Hid_nx T3;clear T3)
 go_wp2_with fail
 (refine(othersMk w3).mono ?_;rintro e w4 ⟨a4,rfl,hb4,la4,T4⟩;have U4:=Hid_nx T4;clear T4)
 go_wp2_with fail
 (refine(patsMk w4).mono ?_;rintro e w5 ⟨a5,rfl,hb5,la5,T5⟩;have U5:=Hid_nx T5;clear T5)
 have H1:Below w1.heap.size w1 w5:=(((hb2).trans (hb3.mono (by have:=(hb2).size;omega))).trans (hb4.mono (by have:=((hb2).trans (hb3.mono (by have:=(hb2).size;omega))).size;omega))).trans (hb5.mono (by have:=(((hb2).trans (hb3.mono (by have:=(hb2).size;omega))).trans (hb4.mono (by have:=((hb2).trans (hb3.mono (by have:=(hb2).size;omega))).size;omega))).size;omega))
 have H2:Below w2.heap.size w2 w5:=((hb3).trans (hb4.mono (by have:=(hb3).size;omega))).trans (hb5.mono (by have:=((hb3).trans (hb4.mono (by have:=(hb3).size;omega))).size;omega))
 have H3:Below w3.heap.size w3 w5:=(hb4).trans (hb5.mono (by have:=(hb4).size;omega))
 have H4:Below w4.heap.size w4 w5:=hb5
 have HW:Below w0.heap.size w0 w5:=hb1.trans (H1.mono hb1.size)
 have V1:Hid (TabW w5 w5.heap.size a1 _):=(U1.out.of H1.block).mono H1.size
 have V2:Hid (TabW w5 w5.heap.size a2 _):=(U2.out.of H2.block).mono H2.size
 have V3:Hid (TabW w5 w5.heap.size a3 _):=(U3.out.of H3.block).mono H3.size
 have V4:Hid (TabW w5 w5.heap.size a4 _):=(U4.out.of H4.block).mono H4.size
 have V5:=U5
 have GW:=Hid_nx HW
 clear HW hb1 hb2 hb3 hb4 hb5 la1 la2 la3 la4 la5 H1 H2 H3 H4 U1 U2 U3 U4 U5
 go_wp2_with fail
 go_ret
 have hA:∀k,k<w5.heap.size→(w5.alloc (.cells #[.slice (some ⟨tb,0,none⟩) t.len cap,.int .i64 0,.slice (some ⟨a1,0,none⟩) 4 4,.slice (some ⟨a2,0,none⟩) 6 6,.slice (some ⟨a3,0,none⟩) 5 5,.slice (some ⟨a4,0,none⟩) 10 10,.slice (some ⟨a5,0,none⟩) 7 7] 75)).heap[k]? =w5.heap[k]? :=fun k hk=>Below.heap_alloc _ _ _ hk
 have hs:=GW.out.size
 exact⟨w5.heap.size,⟨cap,a1,a2,a3,a4,a5,w5.heap.size⟩,rfl,⟨heap_alloc_new w5 _,HROW.out.of_cells ((hA tb (by omega)).trans (GW.out.block tb htb)),V1.out.of hA,V2.out.of hA,V3.out.of hA,V4.out.of hA,V5.out.of hA,Nat.le_refl _,(by show tb<w5.heap.size;omega),HGOOD.out,h0,HCL.out,rfl,rfl,⟨(by show 3<w5.heap.size;have:=HGL.out.lt;omega),(HGL.out.of GW.out.block).ml.imp fun m hm=>(World.cell?_of_block (w:=w5) (a:=⟨2,0,none⟩) (hA 2 (by have:=HGL.out.lt;omega))).trans hm,by rw[hA 3 (by have:=HGL.out.lt;omega)];exact(HGL.out.of GW.out.block).op⟩⟩,GW.out.alloc GW.out.size _,GW.out.size⟩
end Go.Proofs.YtdplogkmkgekdaaGreatDoor.Pj
namespace Go.Proofs.YtdplogkmkgekdaaGreatDoor.Pj
open Go.RowKit
structure PG (w:World):Prop where
 base:Globals w
 signs:∃tg fg,w.heap[0]? =some (.cells signsC tg fg)
 ml:∃m:Int,w.cell? ⟨2,0,none⟩=some (.int .i64 m)
 op:∃tg fg,w.heap[3]? =some (.cells opsC tg fg)
theorem PG.below {w w':World} {B:Nat} (h:PG w) (hb:Below B w w') (hB:6≤B):PG w':=
 ⟨h.base.below hb hB,by rw[hb.block 0 (by omega)];exact h.signs,h.ml.imp fun m hm=>(hb.cell (p:=⟨2,0,none⟩) (by show 2<B;omega)).trans hm,by rw[hb.block 3 (by omega)];exact h.op⟩
theorem PG.glob {w:World} (h:PG w):Glob w.heap.size w:=⟨by have:=h.base.room;omega,h.ml,h.op⟩
theorem tokens6_long (s:ByteArray) (w:World) (hs:6000<s.size) (hm:s.size≤maxLen):
 Calls Tryz.prog 11 #[.string s] w fun e w'=>TokPost s (w.heap.size+2) e w'∧Below w.heap.size w w':=by
 unfold maxLen at hm
 go_enter Tryz.func11,Tryz.ntmps11
 go_wp2_with fail
 go_step3
 go_wp2_with fail
 rw[Exit.noGoto_ret]
 refine bodyPost_ret (v:=.tuple #[.slice none 0 0,.agg #[.int .i64 1,.int .i64 0]]) (by simp[results,Tryz.results11,go_sem]) rfl ⟨?_,(Below.refl _ _).alloc (Nat.le_refl _) _⟩
 unfold TokPost
 rw[lexAll,if_pos hs]
 rfl
theorem tokensP (s:ByteArray) (w:World) (hm:s.size≤maxLen) (hG:PG w):Calls Tryz.prog 11 #[.string s] w fun e w'=>TokPost s (w.heap.size+2) e w'∧Below w.heap.size w w':=by
 obtain⟨tg,fg,hS⟩:=hG.signs
 by_cases hs:s.size≤6000
 ·exact tokens6 s w hs hG.base tg fg hS
 ·exact tokens6_long s w (by omega) hm
def ParseW (s:ByteArray) (k a:Int) (x:List Nr):Prop:=match lexAll s with
 |.inl p=>k=(p.1:Int)∧a=(p.2:Int)
 |.inr ts=>(∃p:Int,Wr (fun n=>gProg (tkv ts) n) ⟨0,0,0⟩ p∧k=4∧a=p)∨∃r,Ev (fun n=>gProg (tkv ts) n) ⟨0,0,0⟩ r∧r.2.k=0∧((∃p,Dp [r.1] 1 (some p)∧k=5∧a=p)∨(Dp [r.1] 1 none∧k=0∧a=0∧x=r.1))
theorem dp_one {xs:List (List Nr)} {d:Int} {a b:Option Int} (h1:Dp xs d a) (h2:Dp xs d b):a=b:=by
 obtain⟨n1,h1⟩:=h1
 obtain⟨n2,h2⟩:=h2
 have e1:=h1 (max n1 n2+1) (by omega) 0 []
 have e2:=h2 (max n1 n2+1) (by omega) 0 []
 rw[deepN_zero] at e1 e2
 cases a with
 |none=>
  cases b with
  |none=>rfl
  |some q=>
   have:=e2.2 q rfl
   rw[e1.1 rfl] at this
   exact absurd this (by simp)
 |some p=>
  have h3:=e1.2 p rfl
  cases b with
  |none=>
   rw[e2.1 rfl] at h3
   exact absurd h3 (by simp)
  |some q=>
   have h4:=e2.2 q rfl
   rw[h3] at h4
   exact h4
theorem ParseW.one {s:ByteArray} {k a k2 a2:Int} {x x2:List Nr} (h1:ParseW s k a x) (h2:ParseM s k2 a2 x2):k=k2∧a=a2∧(k=0→x=x2):=by
 unfold ParseW at h1
 unfold ParseM at h2
 split at h1
 ·rename_i p hl
  rw[hl] at h2
  have hk:=lex_inl (k:=p.1) (i:=p.2) hl
  exact⟨h1.1.trans h2.1.symm,h1.2.trans h2.2.symm,fun e=>absurd e (by rw[h1.1];omega)⟩
 ·rename_i ts hl
  rw[hl] at h2
  obtain⟨r2,g1,g2,g3⟩:=h2
  rcases h1 with⟨p,hw,rfl,rfl⟩|⟨r,hr,hr0,h1⟩
  ·have h9:=hw.ev g1
   have h8:=g2 (by omega)
   exact⟨by omega,by omega,fun e=>absurd e (by decide)⟩
  ·obtain rfl:=Ev.one hr g1
   have g4:=g3 hr0
   rcases h1 with⟨p,d1,rfl,rfl⟩|⟨d1,rfl,rfl,rfl⟩
   ·rcases g4 with⟨q,d2,rfl,rfl⟩|⟨d2,rfl,rfl,rfl⟩
    ·have:=dp_one d1 d2
     simp at this
     exact⟨rfl,this,fun e=>absurd e (by decide)⟩
    ·exact absurd (dp_one d1 d2) (by simp)
   ·rcases g4 with⟨q,d2,rfl,rfl⟩|⟨d2,rfl,rfl,rfl⟩
    ·exact absurd (dp_one d1 d2) (by simp)
    ·exact⟨rfl,rfl,fun _=>rfl⟩
def ParseP (s:ByteArray) (w0:World) (e:Ending) (w':World):Prop:=
 ∃(kind pos n m:Int) (name:ByteArray) (ko:Option Addr) (kl kc:Nat) (k a:Int) (x:List Nr),e=.returned (.tuple #[.agg (nodeC kind pos n m name (.slice ko kl kc)),.agg #[.int .i64 k,.int .i64 a]])∧Below w0.heap.size w0 w'∧(k=0→NodeIn w0.heap.size False w' (nodeC kind pos n m name (.slice ko kl kc)).toList∧Fl w' [(nodeC kind pos n m name (.slice ko kl kc)).toList] [x])∧ParseW s k a x
theorem results5 {tmps:Array Value} {b:Nat} (h1:tmps.getD 2 undef=.pointer (some ⟨b,0,none⟩)) (h2:tmps.getD 3 undef=.pointer (some ⟨b+1,0,none⟩)) {W:World} {c0 c1 c2 c3 c4 c5 c6 c7 c8 c9 c10:Value} {k a:Int} (hB:Blk W b #[c0,c1,c2,c3,c4,c5,c6,c7,c8,c9,c10]) (hC:W.heap[b+1]? =some (.cells #[.int .i64 k,.int .i64 a] 31 (0,0))):
 (results Tryz.f5 tmps).run Tryz.prog W=.ok (.tuple #[.agg #[c0,c1,c2,c3,c4,c5,c6,c7,c8,c9,c10],.agg #[.int .i64 k,.int .i64 a]]) W:=by
 have y:=hB.cell
 have y2:∀o,W.cell? ⟨b+1,o,none⟩=(#[.int .i64 k,.int .i64 a]:Array Value)[o]? :=fun o=>cell_of_row _ _ o _ 31 (0,0) hC
 have h1':tmps[2]?.getD undef=.pointer (some ⟨b,0,none⟩):=by simpa using h1
 have h2':tmps[3]?.getD undef=.pointer (some ⟨b+1,0,none⟩):=by simpa using h2
 simp[results,Tryz.results5,h1',h2',go_sem,y,y2]
section
variable {R:Ending→World→Prop} {tmps:Array Value} {W:World} {b:Nat}
theorem leave_n {c0 c1 c2 c3 c4 c5 c6 c7 c8 c9 c10:Value} {k a:Int} (h1:tmps.getD 2 undef=.pointer (some ⟨b,0,none⟩)) (h2:tmps.getD 3 undef=.pointer (some ⟨b+1,0,none⟩)) (hB:Blk W b #[c0,c1,c2,c3,c4,c5,c6,c7,c8,c9,c10]) (hC:W.heap[b+1]? =some (.cells #[.int .i64 k,.int .i64 a] 31 (0,0))) (hR:R (.returned (.tuple #[.agg #[c0,c1,c2,c3,c4,c5,c6,c7,c8,c9,c10],.agg #[.int .i64 k,.int .i64 a]])) W):bodyPostD Tryz.prog Tryz.f5 R Exit.ret {tmps:=tmps,defers:=[]} W:=
 ⟨_,results5 h1 h2 hB hC,hR⟩
theorem leave_r {c0 c1 c2 c3 c4 c5 c6 c7 c8 c9 c10:Value} {k a:Int} (h1:tmps.getD 2 undef=.pointer (some ⟨b,0,none⟩)) (h2:tmps.getD 3 undef=.pointer (some ⟨b+1,0,none⟩)) (hB:Blk W b #[c0,c1,c2,c3,c4,c5,c6,c7,c8,c9,c10]) (hC:W.heap[b+1]? =some (.cells #[.int .i64 k,.int .i64 a] 31 (0,0))) (hR:R (.returned (.tuple #[.agg #[c0,c1,c2,c3,c4,c5,c6,c7,c8,c9,c10],.agg #[.int .i64 k,.int .i64 a]])) W):bodyPostD Tryz.prog Tryz.f5 R Exit.ret {tmps:=tmps,defers:=[{target:=.fn (.func 12) #[.pointer (some ⟨b,0,none⟩),.pointer (some ⟨b+1,0,none⟩)],args:=#[]}]} W:=by
 refine leaves_cons (f:=12) (args:=#[.pointer (some ⟨b,0,none⟩),.pointer (some ⟨b+1,0,none⟩)]) (by simp) (by simp[go_sem]) ?_
 refine(catch_r ⟨b,0,none⟩ ⟨b+1,0,none⟩ _).mono ?_
 rintro e u' w'' ⟨rfl,rfl,rfl⟩
 exact⟨_,results5 h1 h2 hB hC,hR⟩
theorem leave_p {p:Nat} (h1:tmps.getD 2 undef=.pointer (some ⟨b,0,none⟩)) (h2:tmps.getD 3 undef=.pointer (some ⟨b+1,0,none⟩)) (hB:Blk W b zeroC) (hC:W.heap[b+1]? =some (.cells #[.int .i64 0,.int .i64 0] 31 (0,0))) (hR:∀W',Below b W W'→R (.returned (.tuple #[.agg zeroC,.agg #[.int .i64 4,.int .i64 p]])) W'):bodyPostD Tryz.prog Tryz.f5 R (Exit.panic [{v:=.iface 43 (.agg #[.int .i64 p]),recovered:=false}]) {tmps:=tmps,defers:=[{target:=.fn (.func 12) #[.pointer (some ⟨b,0,none⟩),.pointer (some ⟨b+1,0,none⟩)],args:=#[]}]} W:=by
 refine leaves_cons (f:=12) (args:=#[.pointer (some ⟨b,0,none⟩),.pointer (some ⟨b+1,0,none⟩)]) (by simp) (by simp[go_sem]) ?_
 refine(catch_p p hB hC).mono ?_
 rintro e u' w'' ⟨rfl,rfl,hB',hC',hb⟩
 exact⟨_,results5 h1 h2 hB' hC',hR _ hb⟩
end
end Go.Proofs.YtdplogkmkgekdaaGreatDoor.Pj
namespace Go.Proofs.YtdplogkmkgekdaaGreatDoor.Pj
open Go.RowKit
theorem parsep_inl (s:ByteArray) (w0:World) (hm:s.size≤maxLen) (hG:PG w0) {kk ii:Nat} (hL:lexAll s=.inl (kk,ii)):Calls Tryz.prog 5 #[.string s] w0 (ParseP s w0):=by
 have hk0:=lex_inl hL
 have hkI:(((kk:Nat):Int)==0)=false:=by simp;omega
 obtain⟨n1,n2,n3⟩:=two_new w0
 have hG2:=hG.below n3 hG.base.room
 go_enter_defers Tryz.func5,Tryz.ntmps5
 go_wp2_with fail
 refine(tokensP s _ hm hG2).mono ?_
 rintro e w1 ⟨hT,hb1⟩
 unfold TokPost at hT
 rw[hL] at hT
 obtain rfl:=hT
 have z1:Blk w1 w0.heap.size zeroC:=n1.below hb1
 have z2:w1.heap[w0.heap.size+1]? =some (.cells #[.int .i64 0,.int .i64 0] 31 (0,0)):=(hb1.block _ (by simp)).trans n2
 have hb:Below w0.heap.size w0 w1:=n3.trans (hb1.mono n3.size)
 clear n1 n2 n3 hb1
 have HB:Hid (Below w0.heap.size w0 w1):=hb
 clear hb hG hG2
 have c1:=z1.cell
 have f1:=z1.fz
 have l1:=z1.lt
 have c2:∀o,w1.cell? ⟨w0.heap.size+1,o,none⟩=(#[.int .i64 0,.int .i64 0]:Array Value)[o]? :=fun o=>cell_of_row _ _ o _ 31 (0,0) z2
 have f2:∀o,w1.frozen? ⟨w0.heap.size+1,o,none⟩=false:=fun o=>frozen_of_row _ _ o _ 31 z2
 have l2:=(Array.getElem?_eq_some_iff.1 z2).1
 have ne12:w0.heap.size≠w0.heap.size+1:=by omega
 have ne21:w0.heap.size+1≠w0.heap.size:=by omega
 go_wp2_with fail
 go_region
 all_goals
  go_wp2_with fail
  have h:=stored_a z1 z2 (.int .i64 0) (.int .i64 0) (.int .i64 0) (.int .i64 0) (.string ⟨#[]⟩) (.slice none 0 0) (.int .i64 0) (.int .i64 0) (.slice none 0 0) (.slice none 0 0) (.slice none 0 0) (kk:Int) (ii:Int)
  have hb9:=below_a HB.out (.int .i64 0) (.int .i64 0) (.int .i64 0) (.int .i64 0) (.string ⟨#[]⟩) (.slice none 0 0) (.int .i64 0) (.int .i64 0) (.slice none 0 0) (.slice none 0 0) (.slice none 0 0) (.int .i64 (kk:Int)) (.int .i64 (ii:Int))
  obtain⟨g1,g2,g3⟩:=caughtG (o:=.cells #[.int .i64 (kk:Int),.int .i64 (ii:Int)] 31) h.1 h.2 hb9
  exact leave_n rfl rfl g1 g2 ⟨0,0,0,0,⟨#[]⟩,none,0,0,(kk:Int),(ii:Int),[],rfl,g3,fun e=>absurd e (by omega),by unfold ParseW;rw[hL];exact⟨rfl,rfl⟩⟩
end Go.Proofs.YtdplogkmkgekdaaGreatDoor.Pj
