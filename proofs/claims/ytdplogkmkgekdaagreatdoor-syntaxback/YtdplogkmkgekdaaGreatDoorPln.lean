/- The project's Parse: a fault of the tokens. -/
import Derived.Test.YtdplogkmkgekdaaGreatDoorPla
import Derived.Test.YtdplogkmkgekdaaGreatDoorPlc
import Derived.Test.YtdplogkmkgekdaaGreatDoorPkzx
import Derived.Test.YtdplogkmkgekdaaGreatDoorPle
import Derived.Test.YtdplogkmkgekdaaGreatDoorPld
import Derived.Test.YtdplogkmkgekdaaGreatDoorPkzk
import Derived.Test.YtdplogkmkgekdaaGreatDoorPkg
import Derived.Test.YtdplogkmkgekdaaGreatDoorPkd
import Derived.Test.YtdplogkmkgekdaaGreatDoorLxe
import Derived.Test.YtdplogkmkgekdaaGreatDoorTypes
set_option linter.all false
set_option maxRecDepth 100000
set_option maxHeartbeats 4000000
namespace Go.Proofs.YtdplogkmkgekdaaGreatDoor.Pj
open Go.RowKit
section
variable {w:World} {rb tb i:Nat} {cap:Cp} {t:Tk}
structure abC (N:Nat):Prop where
 T:bH 70 N (fun t n=>gG t n 0)
 E:bH 81 N (fun t n=>gG t n 1)
 U:bH 201 N (fun t n=>gG t n 2)
 B:bH 75 N (fun t n=>gG t n 3)
 J:Fa N
 Q:bH 86 N (fun t n=>gG t n 5)
theorem allA {N:Nat} (a:abC N) {w:World} {rb tb i:Nat} {cap:Cp} {t:Tk} {e:gZ} {ts:Array Value} (h:Rd w rb tb cap t i 0 0) (hN:t.len - i≤N) (he:eH t i fJ=some e) (hc:nQ w cap.bd e ts):Calls Tryz.prog e.fn (#[.pointer (some ⟨rb,0,none⟩)]++ts) w (aP w rb tb cap t i True (fun n=>gG t n 6)):=by
 match N,a,hN with
 |0,_,hN=>exact absurd h.lt (by omega)
 |M+1,a,hN=>
  have T:bH 70 M (fun t n=>gG t n 0):=fun h1 h2=>a.T h1 (by omega)
  have E:bH 81 M (fun t n=>gG t n 1):=fun h1 h2=>a.E h1 (by omega)
  have Q:bH 86 M (fun t n=>gG t n 5):=fun h1 h2=>a.Q h1 (by omega)
  have B:bH 75 M (fun t n=>gG t n 3):=fun h1 h2=>a.B h1 (by omega)
  exact(U7 T E Q B a.J a.B h hN (Qu he) hc).mono fun e w' p=>p.to (fun r hr=>hr.up (fun _=>rfl)) (fun p hw=>hw.up (fun _=>rfl))
theorem afd {N:Nat} (hT:bH 70 N (fun t n=>gG t n 0)) (hE:bH 81 N (fun t n=>gG t n 1)) {w:World} {rb tb i:Nat} {cap:Cp} {t:Tk} (h:Rd w rb tb cap t i 0 0) (hN:t.len - i≤N) (hb:au t i 0 0 ⟨#[108,101,116]⟩=true):Calls Tryz.prog 198 #[.pointer (some ⟨rb,0,none⟩)] w (aP w rb tb cap t i True (fun n=>eF t (gG t n 0) (gG t n 1))):=by
 cases hm:au t (i+1) 0 0 ⟨#[109,117,116]⟩
 ·exact adS hT hE h (by omega) hm hb
 ·exact adR hT hE h (by omega) hm hb
def BJ (t:Tk) (X:GP (List Nr)) (l:List Nr):GP (Bool × List Nr):=bnd (nZ t [⟨#[61,61]⟩,⟨#[33,61]⟩,⟨#[60,61]⟩,⟨#[62,61]⟩,⟨#[60]⟩,⟨#[62]⟩]) (fun w=>cond (w.size==0) (ret (false,l)) (bnd (dh t) (fun p=>seq (aM t w) (bnd X (fun r=>ret (true,nd 29 p 0 0 w [l,r]))))))
theorem NU {t:Tk} {X:Nat→GP (List Nr)} (hX:∀n,Sy (X n)):pz t 29 [⟨#[61,61]⟩,⟨#[33,61]⟩,⟨#[60,61]⟩,⟨#[62,61]⟩,⟨#[60]⟩,⟨#[62]⟩] X (fun n=>BJ t (X n)) where
 c0 h:=Ev.ak (Ji h) (Ev.yes rfl Ev.ret')
 c1 h h1:=Ev.ak (El h) (Ev.no ((by decide:∀s∈([⟨#[61,61]⟩,⟨#[33,61]⟩,⟨#[60,61]⟩,⟨#[62,61]⟩,⟨#[60]⟩,⟨#[62]⟩]:List ByteArray),(s.size==0)=false) _ (lH h).2.2) (Ev.ak bL (Ev.seq (bP (lH h).2.1) (Ev.ak h1 Ev.ret'))))
 c2 h h1:=Wr.snd (El h) (Wr.no ((by decide:∀s∈([⟨#[61,61]⟩,⟨#[33,61]⟩,⟨#[60,61]⟩,⟨#[62,61]⟩,⟨#[60]⟩,⟨#[62]⟩]:List ByteArray),(s.size==0)=false) _ (lH h).2.2) (Wr.snd bL (Wr.o8 (bP (lH h).2.1) (Wr.fst h1 (fun _ _=>Sy.ret)))))
 sy n l:=by
  unfold BJ
  have:=hX n
  exact aA
theorem XL {t:Tk} {U:GP (List Nr)} {fu:Nat}:pJ t U fu=bnd (kX t U fu) (fun l=>bnd (BJ t (kX t U fu) l) (fun r=>ret r.2)):=by
 unfold pJ BJ seq
 simp only[bU,rY,gB]
theorem afe {N:Nat} (hU:bH 201 N (fun t n=>gG t n 2)):qI 2 N (fun t n=>tC t (gG t n 2) n):=by
 have c6:qI 6 N (fun t n=>vH t (gG t n 2) n):=aa9 (abb hU) (fun t=>Em (fun n=>dM _ _ _) (by decide))
 have c5:qI 5 N (fun t n=>kX t (gG t n 2) n):=aa8 c6 (fun t=>Em (fun n=>by exact aA) (by decide))
 have c4:qI 4 N (fun t n=>pJ t (gG t n 2) n):=by
  rw[show(fun(t:Tk) (n:Nat)=>pJ t (gG t n 2) n)=(fun(t:Tk) (n:Nat)=>bnd (kX t (gG t n 2) n) (fun l=>bnd (BJ t (kX t (gG t n 2) n) l) (fun r=>ret r.2))) from funext fun t=>funext fun n=>XL]
  exact aa7 (B:=fun t n=>BJ t (kX t (gG t n 2) n)) c5 (fun t=>NU (fun n=>by exact aA))
 have c3:qI 3 N (fun t n=>qQ t (gG t n 2) n):=aa6 c4 (fun t=>Gn (fun n=>by exact aA) (by decide))
 have c2:qI 2 N (fun t n=>tC t (gG t n 2) n):=aa5 c3 (fun t=>Gn (fun n=>by exact aA) (by decide))
 intro w rb tb i cap t h1 h2
 exact c2 h1 h2
theorem Sz:(N:Nat)→abC N
 |0=>⟨fun h1 h2=>absurd h1.lt (by omega),fun h1 h2=>absurd h1.lt (by omega),fun h1 h2=>absurd h1.lt (by omega),fun h1 h2=>absurd h1.lt (by omega),fun h1 h2 _=>absurd h1.lt (by omega),fun h1 h2=>absurd h1.lt (by omega)⟩
 |N+1=>by
  have a:=Sz N
  have B1:bH 75 (N+1) (fun t n=>gG t n 3):=abB a.T a.E (fun h hN hb=>afd a.T a.E h hN hb) (fun h hN he hc=>allA a h hN he hc)
  have J1:Fa (N+1):=fun h hN hb=>(ifP a.E a.B a.J h hN hb).mono fun e w' p=>p.to (fun r hr=>hr.up (fun _=>rfl)) (fun p hw=>hw.up (fun _=>rfl))
  have X1:bH 239 (N+1) (fun t n=>gG t n 6):=aby a.T a.E a.Q a.B J1 B1
  have U1:bH 201 (N+1) (fun t n=>gG t n 2):=Qo a.U (fun h hN=>Pz a.E X1 h hN)
  have E1:bH 81 (N+1) (fun t n=>gG t n 1):=fun h hN=>(Lh a.E (fun h hN=>afe U1 h hN) h hN).mono fun e w' p=>p.to (fun r hr=>hr.up (fun _=>rfl)) (fun p hw=>hw.up (fun _=>rfl))
  exact⟨Sd a.T,E1,U1,B1,J1,Si a.Q⟩
theorem ad8 (h:Rd w rb tb cap t i 0 0):Calls Tryz.prog 14 #[.pointer (some ⟨rb,0,none⟩)] w (aP w rb tb cap t i False (fun n=>lF t n)):=Sq (fun N=>(Sz N).T) (fun N=>(Sz N).B) h
end
theorem nP.mono {w:World} {bd Qv:Nat} {e:gZ} {v:Value} (h:nP w bd e v) (hb:bd≤Qv):nP w Qv e v:=by
 unfold nP at h⊢
 split
 ·rename_i hf
  rw[if_pos hf] at h
  obtain⟨b1,b2,h1,h2,h3,h4,h5⟩:=h
  exact⟨b1,b2,by omega,by omega,h3,h4,h5⟩
 ·rename_i hf
  rwa [if_neg hf] at h
theorem mY.mono {w:World} {bd Qv a:Nat} {es:List gZ} (h:mY w bd a es) (hb:bd≤Qv):mY w Qv a es:=by
 obtain⟨h1,cs,h2,h3⟩:=h
 refine⟨by omega,cs,h2,fun j e he=>?_⟩
 obtain⟨x1,v,x2,x3⟩:=h3 j e he
 exact⟨x1,v,x2,x3.mono hb⟩
theorem nR {w:World} {bd:Nat} {s:ByteArray} {f:Nat} {k n:Int} (hf:f≠144:=by decide):nP w bd ⟨s,f,k,n⟩ (.func (.func f) #[] #[]):=by
 unfold nP
 rw[if_neg hf]
theorem xR {w:World} {bd b1 b2:Nat} {s:ByteArray} {k n:Int} (h1:b1<bd) (h2:b2<bd) (h3:w.heap[b1]? =some (.cells #[.int .i64 k] 3 (0,0))) (h4:w.heap[b2]? =some (.cells #[.int .i64 n] 3 (0,0))):nP w bd ⟨s,144,k,n⟩ (.func (.func 144) #[] #[.pointer (some ⟨b1,0,none⟩),.pointer (some ⟨b2,0,none⟩)]):=by
 unfold nP
 rw[if_pos rfl]
 exact⟨b1,b2,h1,h2,rfl,h3,h4⟩
def aff (w:World) (k n:Int) (e:Ending) (w':World):Prop:=∃b1 b2,e=.returned (.func (.func 144) #[] #[.pointer (some ⟨b1,0,none⟩),.pointer (some ⟨b2,0,none⟩)])∧Below w.heap.size w w'∧b1<w'.heap.size∧b2<w'.heap.size∧w'.heap[b1]? =some (.cells #[.int .i64 k] 3 (0,0))∧w'.heap[b2]? =some (.cells #[.int .i64 n] 3 (0,0))
theorem rM (w:World) (k n:Int):Calls Tryz.prog 65 #[.int .i64 k,.int .i64 n] w (aff w k n):=by
 have LU:∀(fn:Fn) (first cap:Array Value) (w:World),(Instr.makeFunc fn first cap).run Tryz.prog w=.ok (.func fn first cap) w:=fun _ _ _ _=>rfl
 go_enter Tryz.func65,Tryz.ntmps65
 go_wp2_with fail
 go_ret
 refine⟨w.heap.size,w.heap.size+1,rfl,((Below.refl _ _).alloc (Nat.le_refl _) _).alloc (by simp) _,by simp;omega,by simp,?_,?_⟩
 ·rw[Below.heap_alloc _ _ _ (by simp)]
  exact heap_alloc_new w _
 ·have:=heap_alloc_new (w.alloc (.cells #[.int .i64 k] 3)) (.cells #[.int .i64 n] 3)
  simpa using this
def Jw (w:World) (n:Nat) (es:List gZ) (e:Ending) (w':World):Prop:=∃a,e=.returned (.slice (some ⟨a,0,none⟩) n n)∧Below w.heap.size w w'∧w.heap.size≤a∧mY w' w'.heap.size a es
theorem XM (w0:World):Calls Tryz.prog 32 #[] w0 (Jw w0 4 qb):=by
 have LU:∀(fn:Fn) (first cap:Array Value) (w:World),(Instr.makeFunc fn first cap).run Tryz.prog w=.ok (.func fn first cap) w:=fun _ _ _ _=>rfl
 go_enter Tryz.func32,Tryz.ntmps32
 go_wp2_with fail
 go_ret
 refine⟨w0.heap.size,rfl,(Below.refl _ _).alloc (Nat.le_refl _) _,Nat.le_refl _,by simp,_,heap_alloc_new w0 _,fun j e he=>?_⟩
 match j,he with
 |0,he=>
  obtain rfl:=Option.some.inj he
  exact⟨rfl,_,rfl,nR⟩
 |1,he=>
  obtain rfl:=Option.some.inj he
  exact⟨rfl,_,rfl,nR⟩
 |2,he=>
  obtain rfl:=Option.some.inj he
  exact⟨rfl,_,rfl,nR⟩
 |3,he=>
  obtain rfl:=Option.some.inj he
  exact⟨rfl,_,rfl,nR⟩
 |j+4,he=>exact absurd he (by simp[qb])
theorem XO (w0:World):Calls Tryz.prog 33 #[] w0 (Jw w0 6 qV):=by
 have LU:∀(fn:Fn) (first cap:Array Value) (w:World),(Instr.makeFunc fn first cap).run Tryz.prog w=.ok (.func fn first cap) w:=fun _ _ _ _=>rfl
 go_enter Tryz.func33,Tryz.ntmps33
 go_wp2_with fail
 (refine(rM w0 13 0).mono ?_;rintro e w1 ⟨b1,c1,rfl,hb1,yg,AV,Gy,Gz⟩)
 go_wp2_with fail
 (refine(rM w1 14 0).mono ?_;rintro e w2 ⟨b2,c2,rfl,hb2,Cv,Cw,GA,GD⟩)
 have H1:Below w1.heap.size w1 w2:=hb2
 have HW:Below w0.heap.size w0 w2:=hb1.trans (H1.mono hb1.size)
 have E1:w2.heap[b1]? =_∧w2.heap[c1]? =_∧b1<w2.heap.size∧c1<w2.heap.size:=⟨((H1.block b1 yg).trans Gy),((H1.block c1 AV).trans Gz),(Nat.lt_of_lt_of_le yg H1.size),(Nat.lt_of_lt_of_le AV H1.size)⟩
 have E2:w2.heap[b2]? =_∧w2.heap[c2]? =_∧b2<w2.heap.size∧c2<w2.heap.size:=⟨GA,GD,Cv,Cw⟩
 clear hb1 Gy Gz yg AV hb2 GA GD Cv Cw H1
 have G1:=aD E1
 have G2:=aD E2
 have GW:=aD HW
 clear HW E1 E2
 go_wp2_with fail
 go_ret
 refine⟨w2.heap.size,rfl,(GW.out).alloc (GW.out.size) _,GW.out.size,by simp,_,heap_alloc_new w2 _,fun j e he=>?_⟩
 match j,he with
 |0,he=>
  obtain rfl:=Option.some.inj he
  exact⟨rfl,_,rfl,xR (by simp;exact Nat.lt_succ_of_lt G1.out.2.2.1) (by simp;exact Nat.lt_succ_of_lt G1.out.2.2.2) ((Below.heap_alloc _ _ _ G1.out.2.2.1).trans G1.out.1) ((Below.heap_alloc _ _ _ G1.out.2.2.2).trans G1.out.2.1)⟩
 |1,he=>
  obtain rfl:=Option.some.inj he
  exact⟨rfl,_,rfl,xR (by simp;exact Nat.lt_succ_of_lt G2.out.2.2.1) (by simp;exact Nat.lt_succ_of_lt G2.out.2.2.2) ((Below.heap_alloc _ _ _ G2.out.2.2.1).trans G2.out.1) ((Below.heap_alloc _ _ _ G2.out.2.2.2).trans G2.out.2.1)⟩
 |2,he=>
  obtain rfl:=Option.some.inj he
  exact⟨rfl,_,rfl,nR⟩
 |3,he=>
  obtain rfl:=Option.some.inj he
  exact⟨rfl,_,rfl,nR⟩
 |4,he=>
  obtain rfl:=Option.some.inj he
  exact⟨rfl,_,rfl,nR⟩
 |5,he=>
  obtain rfl:=Option.some.inj he
  exact⟨rfl,_,rfl,nR⟩
 |j+6,he=>exact absurd he (by simp[qV])
theorem XP (w0:World):Calls Tryz.prog 34 #[] w0 (Jw w0 5 fJ):=by
 have LU:∀(fn:Fn) (first cap:Array Value) (w:World),(Instr.makeFunc fn first cap).run Tryz.prog w=.ok (.func fn first cap) w:=fun _ _ _ _=>rfl
 go_enter Tryz.func34,Tryz.ntmps34
 go_wp2_with fail
 go_ret
 refine⟨w0.heap.size,rfl,(Below.refl _ _).alloc (Nat.le_refl _) _,Nat.le_refl _,by simp,_,heap_alloc_new w0 _,fun j e he=>?_⟩
 match j,he with
 |0,he=>
  obtain rfl:=Option.some.inj he
  exact⟨rfl,_,rfl,nR⟩
 |1,he=>
  obtain rfl:=Option.some.inj he
  exact⟨rfl,_,rfl,nR⟩
 |2,he=>
  obtain rfl:=Option.some.inj he
  exact⟨rfl,_,rfl,nR⟩
 |3,he=>
  obtain rfl:=Option.some.inj he
  exact⟨rfl,_,rfl,nR⟩
 |4,he=>
  obtain rfl:=Option.some.inj he
  exact⟨rfl,_,rfl,nR⟩
 |j+5,he=>exact absurd he (by simp[fJ])
theorem SA (w0:World):Calls Tryz.prog 35 #[] w0 (Jw w0 10 oD):=by
 have LU:∀(fn:Fn) (first cap:Array Value) (w:World),(Instr.makeFunc fn first cap).run Tryz.prog w=.ok (.func fn first cap) w:=fun _ _ _ _=>rfl
 go_enter Tryz.func35,Tryz.ntmps35
 go_wp2_with fail
 (refine(rM w0 21 1).mono ?_;rintro e w1 ⟨b1,c1,rfl,hb1,yg,AV,Gy,Gz⟩)
 go_wp2_with fail
 (refine(rM w1 21 0).mono ?_;rintro e w2 ⟨b2,c2,rfl,hb2,Cv,Cw,GA,GD⟩)
 go_wp2_with fail
 (refine(rM w2 38 0).mono ?_;rintro e w3 ⟨b3,c3,rfl,hb3,F5,Mh,Qw,Qx⟩)
 go_wp2_with fail
 (refine(rM w3 39 0).mono ?_;rintro e w4 ⟨b4,c4,rfl,hb4,lb4,lc4,eb4,ec4⟩)
 go_wp2_with fail
 (refine(rM w4 41 0).mono ?_;rintro e w5 ⟨b5,c5,rfl,hb5,lb5,lc5,eb5,ec5⟩)
 have H1:Below w1.heap.size w1 w5:=(((hb2).trans (hb3.mono (by have:=(hb2).size;omega))).trans (hb4.mono (by have:=((hb2).trans (hb3.mono (by have:=(hb2).size;omega))).size;omega))).trans (hb5.mono (by have:=(((hb2).trans (hb3.mono (by have:=(hb2).size;omega))).trans (hb4.mono (by have:=((hb2).trans (hb3.mono (by have:=(hb2).size;omega))).size;omega))).size;omega))
 have H2:Below w2.heap.size w2 w5:=((hb3).trans (hb4.mono (by have:=(hb3).size;omega))).trans (hb5.mono (by have:=((hb3).trans (hb4.mono (by have:=(hb3).size;omega))).size;omega))
 have H3:Below w3.heap.size w3 w5:=(hb4).trans (hb5.mono (by have:=(hb4).size;omega))
 have H4:Below w4.heap.size w4 w5:=hb5
 have HW:Below w0.heap.size w0 w5:=hb1.trans (H1.mono hb1.size)
 have E1:w5.heap[b1]? =_∧w5.heap[c1]? =_∧b1<w5.heap.size∧c1<w5.heap.size:=⟨((H1.block b1 yg).trans Gy),((H1.block c1 AV).trans Gz),(Nat.lt_of_lt_of_le yg H1.size),(Nat.lt_of_lt_of_le AV H1.size)⟩
 have E2:w5.heap[b2]? =_∧w5.heap[c2]? =_∧b2<w5.heap.size∧c2<w5.heap.size:=⟨((H2.block b2 Cv).trans GA),((H2.block c2 Cw).trans GD),(Nat.lt_of_lt_of_le Cv H2.size),(Nat.lt_of_lt_of_le Cw H2.size)⟩
 have E3:w5.heap[b3]? =_∧w5.heap[c3]? =_∧b3<w5.heap.size∧c3<w5.heap.size:=⟨((H3.block b3 F5).trans Qw),((H3.block c3 Mh).trans Qx),(Nat.lt_of_lt_of_le F5 H3.size),(Nat.lt_of_lt_of_le Mh H3.size)⟩
 have E4:w5.heap[b4]? =_∧w5.heap[c4]? =_∧b4<w5.heap.size∧c4<w5.heap.size:=⟨((H4.block b4 lb4).trans eb4),((H4.block c4 lc4).trans ec4),(Nat.lt_of_lt_of_le lb4 H4.size),(Nat.lt_of_lt_of_le lc4 H4.size)⟩
 have E5:w5.heap[b5]? =_∧w5.heap[c5]? =_∧b5<w5.heap.size∧c5<w5.heap.size:=⟨eb5,ec5,lb5,lc5⟩
 clear hb1 Gy Gz yg AV hb2 GA GD Cv Cw hb3 Qw Qx F5 Mh hb4 eb4 ec4 lb4 lc4 hb5 eb5 ec5 lb5 lc5 H1 H2 H3 H4
 have G1:=aD E1
 have G2:=aD E2
 have G3:=aD E3
 have G4:=aD E4
 have G5:=aD E5
 have GW:=aD HW
 clear HW E1 E2 E3 E4 E5
 go_wp2_with fail
 go_ret
 refine⟨w5.heap.size,rfl,(GW.out).alloc (GW.out.size) _,GW.out.size,by simp,_,heap_alloc_new w5 _,fun j e he=>?_⟩
 match j,he with
 |0,he=>
  obtain rfl:=Option.some.inj he
  exact⟨rfl,_,rfl,xR (by simp;exact Nat.lt_succ_of_lt G1.out.2.2.1) (by simp;exact Nat.lt_succ_of_lt G1.out.2.2.2) ((Below.heap_alloc _ _ _ G1.out.2.2.1).trans G1.out.1) ((Below.heap_alloc _ _ _ G1.out.2.2.2).trans G1.out.2.1)⟩
 |1,he=>
  obtain rfl:=Option.some.inj he
  exact⟨rfl,_,rfl,xR (by simp;exact Nat.lt_succ_of_lt G2.out.2.2.1) (by simp;exact Nat.lt_succ_of_lt G2.out.2.2.2) ((Below.heap_alloc _ _ _ G2.out.2.2.1).trans G2.out.1) ((Below.heap_alloc _ _ _ G2.out.2.2.2).trans G2.out.2.1)⟩
 |2,he=>
  obtain rfl:=Option.some.inj he
  exact⟨rfl,_,rfl,xR (by simp;exact Nat.lt_succ_of_lt G3.out.2.2.1) (by simp;exact Nat.lt_succ_of_lt G3.out.2.2.2) ((Below.heap_alloc _ _ _ G3.out.2.2.1).trans G3.out.1) ((Below.heap_alloc _ _ _ G3.out.2.2.2).trans G3.out.2.1)⟩
 |3,he=>
  obtain rfl:=Option.some.inj he
  exact⟨rfl,_,rfl,xR (by simp;exact Nat.lt_succ_of_lt G4.out.2.2.1) (by simp;exact Nat.lt_succ_of_lt G4.out.2.2.2) ((Below.heap_alloc _ _ _ G4.out.2.2.1).trans G4.out.1) ((Below.heap_alloc _ _ _ G4.out.2.2.2).trans G4.out.2.1)⟩
 |4,he=>
  obtain rfl:=Option.some.inj he
  exact⟨rfl,_,rfl,xR (by simp;exact Nat.lt_succ_of_lt G5.out.2.2.1) (by simp;exact Nat.lt_succ_of_lt G5.out.2.2.2) ((Below.heap_alloc _ _ _ G5.out.2.2.1).trans G5.out.1) ((Below.heap_alloc _ _ _ G5.out.2.2.2).trans G5.out.2.1)⟩
 |5,he=>
  obtain rfl:=Option.some.inj he
  exact⟨rfl,_,rfl,nR⟩
 |6,he=>
  obtain rfl:=Option.some.inj he
  exact⟨rfl,_,rfl,nR⟩
 |7,he=>
  obtain rfl:=Option.some.inj he
  exact⟨rfl,_,rfl,nR⟩
 |8,he=>
  obtain rfl:=Option.some.inj he
  exact⟨rfl,_,rfl,nR⟩
 |9,he=>
  obtain rfl:=Option.some.inj he
  exact⟨rfl,_,rfl,nR⟩
 |j+10,he=>exact absurd he (by simp[oD])
theorem abD (w0:World):Calls Tryz.prog 36 #[] w0 (Jw w0 7 tJ):=by
 have LU:∀(fn:Fn) (first cap:Array Value) (w:World),(Instr.makeFunc fn first cap).run Tryz.prog w=.ok (.func fn first cap) w:=fun _ _ _ _=>rfl
 go_enter Tryz.func36,Tryz.ntmps36
 go_wp2_with fail
 (refine(rM w0 49 0).mono ?_;rintro e w1 ⟨b1,c1,rfl,hb1,yg,AV,Gy,Gz⟩)
 go_wp2_with fail
 (refine(rM w1 52 1).mono ?_;rintro e w2 ⟨b2,c2,rfl,hb2,Cv,Cw,GA,GD⟩)
 go_wp2_with fail
 (refine(rM w2 52 0).mono ?_;rintro e w3 ⟨b3,c3,rfl,hb3,F5,Mh,Qw,Qx⟩)
 have H1:Below w1.heap.size w1 w3:=(hb2).trans (hb3.mono (by have:=(hb2).size;omega))
 have H2:Below w2.heap.size w2 w3:=hb3
 have HW:Below w0.heap.size w0 w3:=hb1.trans (H1.mono hb1.size)
 have E1:w3.heap[b1]? =_∧w3.heap[c1]? =_∧b1<w3.heap.size∧c1<w3.heap.size:=⟨((H1.block b1 yg).trans Gy),((H1.block c1 AV).trans Gz),(Nat.lt_of_lt_of_le yg H1.size),(Nat.lt_of_lt_of_le AV H1.size)⟩
 have E2:w3.heap[b2]? =_∧w3.heap[c2]? =_∧b2<w3.heap.size∧c2<w3.heap.size:=⟨((H2.block b2 Cv).trans GA),((H2.block c2 Cw).trans GD),(Nat.lt_of_lt_of_le Cv H2.size),(Nat.lt_of_lt_of_le Cw H2.size)⟩
 have E3:w3.heap[b3]? =_∧w3.heap[c3]? =_∧b3<w3.heap.size∧c3<w3.heap.size:=⟨Qw,Qx,F5,Mh⟩
 clear hb1 Gy Gz yg AV hb2 GA GD Cv Cw hb3 Qw Qx F5 Mh H1 H2
 have G1:=aD E1
 have G2:=aD E2
 have G3:=aD E3
 have GW:=aD HW
 clear HW E1 E2 E3
 go_wp2_with fail
 go_ret
 refine⟨w3.heap.size,rfl,(GW.out).alloc (GW.out.size) _,GW.out.size,by simp,_,heap_alloc_new w3 _,fun j e he=>?_⟩
 match j,he with
 |0,he=>
  obtain rfl:=Option.some.inj he
  exact⟨rfl,_,rfl,xR (by simp;exact Nat.lt_succ_of_lt G1.out.2.2.1) (by simp;exact Nat.lt_succ_of_lt G1.out.2.2.2) ((Below.heap_alloc _ _ _ G1.out.2.2.1).trans G1.out.1) ((Below.heap_alloc _ _ _ G1.out.2.2.2).trans G1.out.2.1)⟩
 |1,he=>
  obtain rfl:=Option.some.inj he
  exact⟨rfl,_,rfl,xR (by simp;exact Nat.lt_succ_of_lt G2.out.2.2.1) (by simp;exact Nat.lt_succ_of_lt G2.out.2.2.2) ((Below.heap_alloc _ _ _ G2.out.2.2.1).trans G2.out.1) ((Below.heap_alloc _ _ _ G2.out.2.2.2).trans G2.out.2.1)⟩
 |2,he=>
  obtain rfl:=Option.some.inj he
  exact⟨rfl,_,rfl,xR (by simp;exact Nat.lt_succ_of_lt G3.out.2.2.1) (by simp;exact Nat.lt_succ_of_lt G3.out.2.2.2) ((Below.heap_alloc _ _ _ G3.out.2.2.1).trans G3.out.1) ((Below.heap_alloc _ _ _ G3.out.2.2.2).trans G3.out.2.1)⟩
 |3,he=>
  obtain rfl:=Option.some.inj he
  exact⟨rfl,_,rfl,nR⟩
 |4,he=>
  obtain rfl:=Option.some.inj he
  exact⟨rfl,_,rfl,nR⟩
 |5,he=>
  obtain rfl:=Option.some.inj he
  exact⟨rfl,_,rfl,nR⟩
 |6,he=>
  obtain rfl:=Option.some.inj he
  exact⟨rfl,_,rfl,nR⟩
 |j+7,he=>exact absurd he (by simp[tJ])
theorem NV {w0:World} {tb cap:Nat} {t:Tk} (hrow:Row w0 tb t) (htb:tb<w0.heap.size) (hg:t.Good) (hc:Clean t) (h0:0<t.len) (hG:Glob w0.heap.size w0):Calls Tryz.prog 13 #[.slice (some ⟨tb,0,none⟩) t.len cap] w0 (fun e w'=>∃rb cp,e=.returned (.pointer (some ⟨rb,0,none⟩))∧Rd w' rb tb cp t 0 0 0∧Below w0.heap.size w0 w'∧w0.heap.size≤rb):=by
 have afg:=aD hrow
 have Qy:=aD hG
 have ad9:=aD hg
 have HCL:=aD hc
 clear hrow hG hg hc
 go_enter Tryz.func13,Tryz.ntmps13
 go_wp2_with fail
 (refine(XM w0).mono ?_;rintro e w1 ⟨a1,rfl,hb1,la1,T1⟩;have U1:=aD T1;clear T1)
 go_wp2_with fail
 (refine(XO w1).mono ?_;rintro e w2 ⟨a2,rfl,hb2,la2,T2⟩;have U2:=aD T2;clear T2)
 go_wp2_with fail
 (refine(XP w2).mono ?_;rintro e w3 ⟨a3,rfl,hb3,la3,T3⟩;have U3:=aD T3;clear T3)
 go_wp2_with fail
 (refine(SA w3).mono ?_;rintro e w4 ⟨a4,rfl,hb4,la4,T4⟩;have U4:=aD T4;clear T4)
 go_wp2_with fail
 (refine(abD w4).mono ?_;rintro e w5 ⟨a5,rfl,hb5,la5,T5⟩;have U5:=aD T5;clear T5)
 have H1:Below w1.heap.size w1 w5:=(((hb2).trans (hb3.mono (by have:=(hb2).size;omega))).trans (hb4.mono (by have:=((hb2).trans (hb3.mono (by have:=(hb2).size;omega))).size;omega))).trans (hb5.mono (by have:=(((hb2).trans (hb3.mono (by have:=(hb2).size;omega))).trans (hb4.mono (by have:=((hb2).trans (hb3.mono (by have:=(hb2).size;omega))).size;omega))).size;omega))
 have H2:Below w2.heap.size w2 w5:=((hb3).trans (hb4.mono (by have:=(hb3).size;omega))).trans (hb5.mono (by have:=((hb3).trans (hb4.mono (by have:=(hb3).size;omega))).size;omega))
 have H3:Below w3.heap.size w3 w5:=(hb4).trans (hb5.mono (by have:=(hb4).size;omega))
 have H4:Below w4.heap.size w4 w5:=hb5
 have HW:Below w0.heap.size w0 w5:=hb1.trans (H1.mono hb1.size)
 have V1:Hid (mY w5 w5.heap.size a1 _):=(U1.out.of H1.block).mono H1.size
 have V2:Hid (mY w5 w5.heap.size a2 _):=(U2.out.of H2.block).mono H2.size
 have V3:Hid (mY w5 w5.heap.size a3 _):=(U3.out.of H3.block).mono H3.size
 have V4:Hid (mY w5 w5.heap.size a4 _):=(U4.out.of H4.block).mono H4.size
 have V5:=U5
 have GW:=aD HW
 clear HW hb1 hb2 hb3 hb4 hb5 la1 la2 la3 la4 la5 H1 H2 H3 H4 U1 U2 U3 U4 U5
 go_wp2_with fail
 go_ret
 have hA:∀k,k<w5.heap.size→(w5.alloc (.cells #[.slice (some ⟨tb,0,none⟩) t.len cap,.int .i64 0,.slice (some ⟨a1,0,none⟩) 4 4,.slice (some ⟨a2,0,none⟩) 6 6,.slice (some ⟨a3,0,none⟩) 5 5,.slice (some ⟨a4,0,none⟩) 10 10,.slice (some ⟨a5,0,none⟩) 7 7] 75)).heap[k]? =w5.heap[k]? :=fun k hk=>Below.heap_alloc _ _ _ hk
 have hs:=GW.out.size
 exact⟨w5.heap.size,⟨cap,a1,a2,a3,a4,a5,w5.heap.size⟩,rfl,⟨heap_alloc_new w5 _,afg.out.of_cells ((hA tb (by omega)).trans (GW.out.block tb htb)),V1.out.of hA,V2.out.of hA,V3.out.of hA,V4.out.of hA,V5.out.of hA,Nat.le_refl _,(by show tb<w5.heap.size;omega),ad9.out,h0,HCL.out,rfl,rfl,⟨(by show 3<w5.heap.size;have:=Qy.out.lt;omega),(Qy.out.of GW.out.block).ml.imp fun m hm=>(World.cell?_of_block (w:=w5) (a:=⟨2,0,none⟩) (hA 2 (by have:=Qy.out.lt;omega))).trans hm,by rw[hA 3 (by have:=Qy.out.lt;omega)];exact(Qy.out.of GW.out.block).op⟩⟩,GW.out.alloc GW.out.size _,GW.out.size⟩
structure PG (w:World):Prop where
 base:jo w
 signs:∃tg fg,w.heap[0]? =some (.cells vD tg fg)
 ml:∃m:Int,w.cell? ⟨2,0,none⟩=some (.int .i64 m)
 op:∃tg fg,w.heap[3]? =some (.cells EY tg fg)
theorem PG.below {w w':World} {B:Nat} (h:PG w) (hb:Below B w w') (hB:6≤B):PG w':=
 ⟨h.base.below hb hB,by rw[hb.block 0 (by omega)];exact h.signs,h.ml.imp fun m hm=>(hb.cell (p:=⟨2,0,none⟩) (by show 2<B;omega)).trans hm,by rw[hb.block 3 (by omega)];exact h.op⟩
theorem PG.glob {w:World} (h:PG w):Glob w.heap.size w:=⟨by have:=h.base.room;omega,h.ml,h.op⟩
theorem Jy (s:ByteArray) (w:World) (hs:6000<s.size) (hm:s.size≤maxLen):
 Calls Tryz.prog 11 #[.string s] w fun e w'=>qP s (w.heap.size+2) e w'∧Below w.heap.size w w':=by
 unfold maxLen at hm
 go_enter Tryz.func11,Tryz.ntmps11
 go_wp2_with fail
 go_step3
 go_wp2_with fail
 rw[Exit.noGoto_ret]
 refine bodyPost_ret (v:=.tuple #[.slice none 0 0,.agg #[.int .i64 1,.int .i64 0]]) (by simp[results,Tryz.results11,go_sem]) rfl ⟨?_,(Below.refl _ _).alloc (Nat.le_refl _) _⟩
 unfold qP
 rw[iE,if_pos hs]
 rfl
theorem Mi (s:ByteArray) (w:World) (hm:s.size≤maxLen) (hG:PG w):Calls Tryz.prog 11 #[.string s] w fun e w'=>qP s (w.heap.size+2) e w'∧Below w.heap.size w w':=by
 obtain⟨tg,fg,hS⟩:=hG.signs
 by_cases hs:s.size≤6000
 ·exact XQ s w hs hG.base tg fg hS
 ·exact Jy s w (by omega) hm
def tX (s:ByteArray) (k a:Int) (x:List Nr):Prop:=match iE s with
 |.inl p=>k=(p.1:Int)∧a=(p.2:Int)
 |.inr ts=>(∃p:Int,Wr (fun n=>lF (Iz ts) n) ⟨0,0,0⟩ p∧k=4∧a=p)∨∃r,Ev (fun n=>lF (Iz ts) n) ⟨0,0,0⟩ r∧r.2.k=0∧((∃p,Dp [r.1] 1 (some p)∧k=5∧a=p)∨(Dp [r.1] 1 none∧k=0∧a=0∧x=r.1))
def Jz (s:ByteArray) (w0:World) (e:Ending) (w':World):Prop:=
 ∃(kind pos n m:Int) (name:ByteArray) (ko:Option Addr) (kl kc:Nat) (k a:Int) (x:List Nr),e=.returned (.tuple #[.agg (ah kind pos n m name (.slice ko kl kc)),.agg #[.int .i64 k,.int .i64 a]])∧Below w0.heap.size w0 w'∧(k=0→kJ w0.heap.size False w' (ah kind pos n m name (.slice ko kl kc)).toList∧Fl w' [(ah kind pos n m name (.slice ko kl kc)).toList] [x])∧tX s k a x
theorem results5 {tmps:Array Value} {b:Nat} (h1:tmps.getD 2 undef=.pointer (some ⟨b,0,none⟩)) (h2:tmps.getD 3 undef=.pointer (some ⟨b+1,0,none⟩)) {W:World} {c0 c1 c2 c3 c4 c5 c6 c7 c8 c9 c10:Value} {k a:Int} (hB:bW W b #[c0,c1,c2,c3,c4,c5,c6,c7,c8,c9,c10]) (hC:W.heap[b+1]? =some (.cells #[.int .i64 k,.int .i64 a] 31 (0,0))):
 (results Tryz.f5 tmps).run Tryz.prog W=.ok (.tuple #[.agg #[c0,c1,c2,c3,c4,c5,c6,c7,c8,c9,c10],.agg #[.int .i64 k,.int .i64 a]]) W:=by
 have y:=hB.cell
 have y2:∀o,W.cell? ⟨b+1,o,none⟩=(#[.int .i64 k,.int .i64 a]:Array Value)[o]? :=fun o=>cell_of_row _ _ o _ 31 (0,0) hC
 have h1':tmps[2]?.getD undef=.pointer (some ⟨b,0,none⟩):=by simpa using h1
 have h2':tmps[3]?.getD undef=.pointer (some ⟨b+1,0,none⟩):=by simpa using h2
 simp[results,Tryz.results5,h1',h2',go_sem,y,y2]
section
variable {R:Ending→World→Prop} {tmps:Array Value} {W:World} {b:Nat}
theorem XR {c0 c1 c2 c3 c4 c5 c6 c7 c8 c9 c10:Value} {k a:Int} (h1:tmps.getD 2 undef=.pointer (some ⟨b,0,none⟩)) (h2:tmps.getD 3 undef=.pointer (some ⟨b+1,0,none⟩)) (hB:bW W b #[c0,c1,c2,c3,c4,c5,c6,c7,c8,c9,c10]) (hC:W.heap[b+1]? =some (.cells #[.int .i64 k,.int .i64 a] 31 (0,0))) (hR:R (.returned (.tuple #[.agg #[c0,c1,c2,c3,c4,c5,c6,c7,c8,c9,c10],.agg #[.int .i64 k,.int .i64 a]])) W):bodyPostD Tryz.prog Tryz.f5 R Exit.ret {tmps:=tmps,defers:=[]} W:=
 ⟨_,results5 h1 h2 hB hC,hR⟩
theorem Mj {c0 c1 c2 c3 c4 c5 c6 c7 c8 c9 c10:Value} {k a:Int} (h1:tmps.getD 2 undef=.pointer (some ⟨b,0,none⟩)) (h2:tmps.getD 3 undef=.pointer (some ⟨b+1,0,none⟩)) (hB:bW W b #[c0,c1,c2,c3,c4,c5,c6,c7,c8,c9,c10]) (hC:W.heap[b+1]? =some (.cells #[.int .i64 k,.int .i64 a] 31 (0,0))) (hR:R (.returned (.tuple #[.agg #[c0,c1,c2,c3,c4,c5,c6,c7,c8,c9,c10],.agg #[.int .i64 k,.int .i64 a]])) W):bodyPostD Tryz.prog Tryz.f5 R Exit.ret {tmps:=tmps,defers:=[{target:=.fn (.func 12) #[.pointer (some ⟨b,0,none⟩),.pointer (some ⟨b+1,0,none⟩)],args:=#[]}]} W:=by
 refine leaves_cons (f:=12) (args:=#[.pointer (some ⟨b,0,none⟩),.pointer (some ⟨b+1,0,none⟩)]) (by simp) (by simp[go_sem]) ?_
 refine(Xp ⟨b,0,none⟩ ⟨b+1,0,none⟩ _).mono ?_
 rintro e u' w'' ⟨rfl,rfl,rfl⟩
 exact⟨_,results5 h1 h2 hB hC,hR⟩
theorem XT {p:Nat} (h1:tmps.getD 2 undef=.pointer (some ⟨b,0,none⟩)) (h2:tmps.getD 3 undef=.pointer (some ⟨b+1,0,none⟩)) (hB:bW W b aJ) (hC:W.heap[b+1]? =some (.cells #[.int .i64 0,.int .i64 0] 31 (0,0))) (hR:∀W',Below b W W'→R (.returned (.tuple #[.agg aJ,.agg #[.int .i64 4,.int .i64 p]])) W'):bodyPostD Tryz.prog Tryz.f5 R (Exit.panic [{v:=.iface 43 (.agg #[.int .i64 p]),recovered:=false}]) {tmps:=tmps,defers:=[{target:=.fn (.func 12) #[.pointer (some ⟨b,0,none⟩),.pointer (some ⟨b+1,0,none⟩)],args:=#[]}]} W:=by
 refine leaves_cons (f:=12) (args:=#[.pointer (some ⟨b,0,none⟩),.pointer (some ⟨b+1,0,none⟩)]) (by simp) (by simp[go_sem]) ?_
 refine(Xq p hB hC).mono ?_
 rintro e u' w'' ⟨rfl,rfl,hB',hC',hb⟩
 exact⟨_,results5 h1 h2 hB' hC',hR _ hb⟩
end
theorem NW (s:ByteArray) (w0:World) (hm:s.size≤maxLen) (hG:PG w0) {kk ii:Nat} (hL:iE s=.inl (kk,ii)):Calls Tryz.prog 5 #[.string s] w0 (Jz s w0):=by
 have hk0:=LJ hL
 have Uy:(((kk:Nat):Int)==0)=false:=by simp;omega
 obtain⟨n1,n2,n3⟩:=LK w0
 have hG2:=hG.below n3 hG.base.room
 go_enter_defers Tryz.func5,Tryz.ntmps5
 go_wp2_with fail
 refine(Mi s _ hm hG2).mono ?_
 rintro e w1 ⟨hT,hb1⟩
 unfold qP at hT
 rw[hL] at hT
 obtain rfl:=hT
 have z1:bW w1 w0.heap.size aJ:=n1.below hb1
 have z2:w1.heap[w0.heap.size+1]? =some (.cells #[.int .i64 0,.int .i64 0] 31 (0,0)):=(hb1.block _ (by simp)).trans n2
 have hb:Below w0.heap.size w0 w1:=n3.trans (hb1.mono n3.size)
 clear n1 n2 n3 hb1
 have HB:=@aG _ @hb
 clear hb hG hG2
 have c1:=z1.cell
 have f1:=z1.fz
 have l1:=z1.lt
 have c2:∀o,w1.cell? ⟨w0.heap.size+1,o,none⟩=(#[.int .i64 0,.int .i64 0]:Array Value)[o]? :=fun o=>cell_of_row _ _ o _ 31 (0,0) z2
 have f2:∀o,w1.frozen? ⟨w0.heap.size+1,o,none⟩=false:=fun o=>frozen_of_row _ _ o _ 31 z2
 have l2:=(Array.getElem?_eq_some_iff.1 z2).1
 have afh:w0.heap.size≠w0.heap.size+1:=by omega
 have aaI:w0.heap.size+1≠w0.heap.size:=by omega
 go_wp2_with fail
 go_region
 all_goals
  go_wp2_with fail
  have h:=IB z1 z2 (.int .i64 0) (.int .i64 0) (.int .i64 0) (.int .i64 0) (.string ⟨#[]⟩) (.slice none 0 0) (.int .i64 0) (.int .i64 0) (.slice none 0 0) (.slice none 0 0) (.slice none 0 0) (kk:Int) (ii:Int)
  have Mk:=WE HB.out (.int .i64 0) (.int .i64 0) (.int .i64 0) (.int .i64 0) (.string ⟨#[]⟩) (.slice none 0 0) (.int .i64 0) (.int .i64 0) (.slice none 0 0) (.slice none 0 0) (.slice none 0 0) (.int .i64 (kk:Int)) (.int .i64 (ii:Int))
  obtain⟨g1,g2,g3⟩:=LW (o:=.cells #[.int .i64 (kk:Int),.int .i64 (ii:Int)] 31) h.1 h.2 Mk
  exact XR rfl rfl g1 g2 ⟨0,0,0,0,⟨#[]⟩,none,0,0,(kk:Int),(ii:Int),[],rfl,g3,fun e=>absurd e (by omega),by unfold tX;rw[hL];exact⟨rfl,rfl⟩⟩
end Go.Proofs.YtdplogkmkgekdaaGreatDoor.Pj
