/- The project's parser: functions up to their blocks. -/
import Derived.Test.YtdplogkmkgekdaaGreatDoorPkztc
import Derived.Test.YtdplogkmkgekdaaGreatDoorPkb
import Derived.Test.YtdplogkmkgekdaaGreatDoorPkzr
import Derived.Test.YtdplogkmkgekdaaGreatDoorTypes
set_option linter.all false
set_option maxRecDepth 100000
set_option maxHeartbeats 4000000
namespace Go.Proofs.YtdplogkmkgekdaaGreatDoor.Pj
open Go.RowKit
section
variable {w:World} {rb tb i:Nat} {cap:Cp} {t:Tk}
theorem Jt {α β γ:Type} {x:GP α} {y:GP β} {f:β→GP γ}:bnd (seq x y) f=seq x (bnd y f):=by
 unfold seq
 rw[bU]
theorem adY {N:Nat} (hQ:bH 86 N (fun t n=>gG t n 5)) {w:World} {rb tb i:Nat} {cap:Cp} {t:Tk} (h:Rd w rb tb cap t i 0 0) (hN:t.len - i≤N+1) {e:gZ} {ts:Array Value} (he:eH t i tJ=some e) (hc:nQ w cap.bd e ts):Calls Tryz.prog e.fn (#[.pointer (some ⟨rb,0,none⟩)]++ts) w (aP w rb tb cap t i True (fun n=>bN t (gG t n 5) n)):=by
 have hb:=vB he
 have hm:=pO he
 have hlt:=(iY h.good h.lt hb).2
 clear he
 have hk1:bf t i 0 0 1=false:=sj hb (by decide) (by decide)
 simp only[tJ,List.mem_cons,List.not_mem_nil,or_false] at hm
 rcases hm with rfl|rfl|rfl|rfl|rfl|rfl|rfl
 ·replace hb:au t i 0 0 ⟨#[95]⟩=true:=hb
  obtain⟨b1,b2,l1,l2,rfl,c1,c2⟩:=hc.bare rfl
  refine(uS h (by have:=h.bl;omega) (by have:=h.bl;omega) c1 c2 hlt).mono fun e w' p=>p.to (fun r hr=>?_) (fun p hw=>?_)
  all_goals
   have n1:=aF hb (b:=⟨#[45]⟩) (lit)
   have n2:=aF hb (b:=⟨#[116,114,117,101]⟩) (lit)
   have n3:=aF hb (b:=⟨#[102,97,108,115,101]⟩) (lit)
   have n4:=aF hb (b:=⟨#[40]⟩) (lit)
   have n5:=aF hb (b:=⟨#[114,101,102]⟩) (lit)
   have n6:=aF hb (b:=⟨#[109,117,116]⟩) (lit)
  ·replace hr:=Ev.cg (m':=fun _=>ret (nd 49 (t.pos i) 0 0 E0 [])) (s':=⟨i+1,0,0⟩) hr (fun n=>rfl)
   unfold bN
   exact bS
  ·replace hw:=Wr.cg (m':=fun _=>ret (nd 49 (t.pos i) 0 0 E0 [])) (s':=⟨i+1,0,0⟩) hw (fun n=>rfl)
   unfold bN
   exact wrt
 ·replace hb:au t i 0 0 ⟨#[116,114,117,101]⟩=true:=hb
  obtain⟨b1,b2,l1,l2,rfl,c1,c2⟩:=hc.bare rfl
  refine(uS h (by have:=h.bl;omega) (by have:=h.bl;omega) c1 c2 hlt).mono fun e w' p=>p.to (fun r hr=>?_) (fun p hw=>?_)
  all_goals
   have n0:=aF hb (b:=⟨#[95]⟩) (lit)
   have n1:=aF hb (b:=⟨#[45]⟩) (lit)
   have n3:=aF hb (b:=⟨#[102,97,108,115,101]⟩) (lit)
   have n4:=aF hb (b:=⟨#[40]⟩) (lit)
   have n5:=aF hb (b:=⟨#[114,101,102]⟩) (lit)
   have n6:=aF hb (b:=⟨#[109,117,116]⟩) (lit)
  ·replace hr:=Ev.cg (m':=fun _=>ret (nd 52 (t.pos i) 1 0 E0 [])) (s':=⟨i+1,0,0⟩) hr (fun n=>rfl)
   unfold bN
   exact bS
  ·replace hw:=Wr.cg (m':=fun _=>ret (nd 52 (t.pos i) 1 0 E0 [])) (s':=⟨i+1,0,0⟩) hw (fun n=>rfl)
   unfold bN
   exact wrt
 ·replace hb:au t i 0 0 ⟨#[102,97,108,115,101]⟩=true:=hb
  obtain⟨b1,b2,l1,l2,rfl,c1,c2⟩:=hc.bare rfl
  refine(uS h (by have:=h.bl;omega) (by have:=h.bl;omega) c1 c2 hlt).mono fun e w' p=>p.to (fun r hr=>?_) (fun p hw=>?_)
  all_goals
   have n0:=aF hb (b:=⟨#[95]⟩) (lit)
   have n1:=aF hb (b:=⟨#[45]⟩) (lit)
   have n2:=aF hb (b:=⟨#[116,114,117,101]⟩) (lit)
   have n4:=aF hb (b:=⟨#[40]⟩) (lit)
   have n5:=aF hb (b:=⟨#[114,101,102]⟩) (lit)
   have n6:=aF hb (b:=⟨#[109,117,116]⟩) (lit)
  ·replace hr:=Ev.cg (m':=fun _=>ret (nd 52 (t.pos i) 0 0 E0 [])) (s':=⟨i+1,0,0⟩) hr (fun n=>rfl)
   unfold bN
   exact bS
  ·replace hw:=Wr.cg (m':=fun _=>ret (nd 52 (t.pos i) 0 0 E0 [])) (s':=⟨i+1,0,0⟩) hw (fun n=>rfl)
   unfold bN
   exact wrt
 ·replace hb:au t i 0 0 ⟨#[45]⟩=true:=hb
  obtain rfl:=hc.plain (by decide)
  refine(aeU h hb).mono fun e w' p=>p.to (fun r hr=>?_) (fun p hw=>?_)
  all_goals
   have n0:=aF hb (b:=⟨#[95]⟩) (lit)
   have n2:=aF hb (b:=⟨#[116,114,117,101]⟩) (lit)
   have n3:=aF hb (b:=⟨#[102,97,108,115,101]⟩) (lit)
   have n4:=aF hb (b:=⟨#[40]⟩) (lit)
   have n5:=aF hb (b:=⟨#[114,101,102]⟩) (lit)
   have n6:=aF hb (b:=⟨#[109,117,116]⟩) (lit)
  ·replace hr:=Ev.cg (m':=fun n=>Dh t (t.pos i)) (s':=⟨i+1,0,0⟩) hr (fun n=>rfl)
   unfold Dh at hr
   unfold bN
   exact bS
  ·replace hw:=Wr.cg (m':=fun n=>Dh t (t.pos i)) (s':=⟨i+1,0,0⟩) hw (fun n=>rfl)
   unfold Dh at hw
   unfold bN
   exact wrt
 ·replace hb:au t i 0 0 ⟨#[114,101,102]⟩=true:=hb
  obtain rfl:=hc.plain (by decide)
  refine(aeT h hb).mono fun e w' p=>p.to (fun r hr=>?_) (fun p hw=>?_)
  all_goals
   have n0:=aF hb (b:=⟨#[95]⟩) (lit)
   have n1:=aF hb (b:=⟨#[45]⟩) (lit)
   have n2:=aF hb (b:=⟨#[116,114,117,101]⟩) (lit)
   have n3:=aF hb (b:=⟨#[102,97,108,115,101]⟩) (lit)
   have n4:=aF hb (b:=⟨#[40]⟩) (lit)
   have n6:=aF hb (b:=⟨#[109,117,116]⟩) (lit)
  ·skip
   unfold mF at hr
   unfold bN
   exact bS
  ·skip
   unfold mF at hw
   unfold bN
   exact wrt
 ·replace hb:au t i 0 0 ⟨#[109,117,116]⟩=true:=hb
  obtain rfl:=hc.plain (by decide)
  refine(aeS h (aF hb (lit))).mono fun e w' p=>p.to (fun r hr=>?_) (fun p hw=>?_)
  all_goals
   have n0:=aF hb (b:=⟨#[95]⟩) (lit)
   have n1:=aF hb (b:=⟨#[45]⟩) (lit)
   have n2:=aF hb (b:=⟨#[116,114,117,101]⟩) (lit)
   have n3:=aF hb (b:=⟨#[102,97,108,115,101]⟩) (lit)
   have n4:=aF hb (b:=⟨#[40]⟩) (lit)
   have n5:=aF hb (b:=⟨#[114,101,102]⟩) (lit)
  ·skip
   unfold mF at hr
   unfold bN
   exact bS
  ·skip
   unfold mF at hw
   unfold bN
   exact wrt
 ·replace hb:au t i 0 0 ⟨#[40]⟩=true:=hb
  obtain rfl:=hc.plain (by decide)
  refine(aaS hQ h hN hb).mono fun e w' p=>p.to (fun r hr=>?_) (fun p hw=>?_)
  all_goals
   have n0:=aF hb (b:=⟨#[95]⟩) (lit)
   have n1:=aF hb (b:=⟨#[45]⟩) (lit)
   have n2:=aF hb (b:=⟨#[116,114,117,101]⟩) (lit)
   have n3:=aF hb (b:=⟨#[102,97,108,115,101]⟩) (lit)
   have n5:=aF hb (b:=⟨#[114,101,102]⟩) (lit)
   have n6:=aF hb (b:=⟨#[109,117,116]⟩) (lit)
  ·replace hr:=Ev.cg (m':=fun n=>bnd (fC t (gG t n 5) ⟨#[41]⟩ n) (fun ks=>ret (jv 53 (t.pos i) ks))) (s':=⟨i+1,0,0⟩) hr (fun n=>rfl)
   unfold bN
   exact bS
  ·replace hw:=Wr.cg (m':=fun n=>bnd (fC t (gG t n 5) ⟨#[41]⟩ n) (fun ks=>ret (jv 53 (t.pos i) ks))) (s':=⟨i+1,0,0⟩) hw (fun n=>rfl)
   unfold bN
   exact wrt
theorem afa {N:Nat} (hQ:bH 86 N (fun t n=>gG t n 5)) {w:World} {rb tb i:Nat} {cap:Cp} {t:Tk} (h:Rd w rb tb cap t i 0 0) (hN:t.len - i≤N+1):
 Calls Tryz.prog 86 #[.pointer (some ⟨rb,0,none⟩)] w (aP w rb tb cap t i True (fun n=>bN t (gG t n 5) n)):=by
 have hl:=h.l
 have aL:=h.eP
 have jT:=nT
 cases hk1:bf t i 0 0 1
 ·have U6:=aD hk1
  have hk10:((t.kind i:Int)==1)=false:=(fQ h.lt 1).symm.trans hk1
  clear hk1
  cases hk:bf t i 0 0 2
  ·have hk0:((t.kind i:Int)==2)=false:=(fQ h.lt 2).symm.trans hk
   have HK:=aD hk
   clear hk
   go_enter Tryz.func86,Tryz.ntmps86
   have q:=Mf.start h
   go_wp2_with fail
   refine(q.ne' (sz w) (aJ)).lf (jD ·) ?_
   clear q
   intro w1 q
   have F:=q.f1
   have r6:=q.st.rd.r6
   go_wp2_with fail
   refine(q.alloc (.cells #[.slice (some ⟨cap.a5,0,none⟩) 7 7] 72)).nd (fun _=>rH q.st.rd q.st.rd.t5 Nz (by decide) rfl Ny (fun e w' ts he hc hr=>adY hQ hr hN he hc) (fun hn=>(by have n0:au t i 0 0 ⟨#[95]⟩=false:=bI hn _ (List.getElem_mem (n:=0) (by decide));have n1:au t i 0 0 ⟨#[116,114,117,101]⟩=false:=bI hn _ (List.getElem_mem (n:=1) (by decide));have n2:au t i 0 0 ⟨#[102,97,108,115,101]⟩=false:=bI hn _ (List.getElem_mem (n:=2) (by decide));have n3:au t i 0 0 ⟨#[45]⟩=false:=bI hn _ (List.getElem_mem (n:=3) (by decide));have n4:au t i 0 0 ⟨#[114,101,102]⟩=false:=bI hn _ (List.getElem_mem (n:=4) (by decide));have n5:au t i 0 0 ⟨#[109,117,116]⟩=false:=bI hn _ (List.getElem_mem (n:=5) (by decide));have n6:au t i 0 0 ⟨#[40]⟩=false:=bI hn _ (List.getElem_mem (n:=6) (by decide));have hk1:=U6.out;have hw:=Gt (most:=3) HK.out;unfold bN;exact wrt))) (fun w' p hk hw=>⟨rfl,.inr (Mf.aR (q.alloc _) hk hw)⟩) ?_
   clear q F r6
   intro w2 x5 i5 y5 hl5 m5 q
   have F:=q.f1
   go_wp2_with fail
   go_light
   exact Mf.rt (q) Tryz.results86 0 (m5)
  ·have hk0:((t.kind i:Int)==2)=true:=(fQ h.lt 2).symm.trans hk
   have HK:=aD hk
   clear hk
   go_enter Tryz.func86,Tryz.ntmps86
   have q:=Mf.start h
   go_wp2_with fail
   refine(q.ne' (sz w) (aJ)).lf (jD ·) ?_
   clear q
   intro w3 q
   have F:=q.f1
   go_wp2_with fail
   refine q.nd (fun hr=>Jq hQ hr hN) (fun w' p hk hw=>⟨rfl,.inr (q.aR hk (by
   have n0:au t i 0 0 ⟨#[95]⟩=false:=fG HK.out (by decide) (by decide)
   have n1:au t i 0 0 ⟨#[45]⟩=false:=fG HK.out (by decide) (by decide)
   have n2:au t i 0 0 ⟨#[116,114,117,101]⟩=false:=fG HK.out (by decide) (by decide)
   have n3:au t i 0 0 ⟨#[102,97,108,115,101]⟩=false:=fG HK.out (by decide) (by decide)
   have n4:au t i 0 0 ⟨#[40]⟩=false:=fG HK.out (by decide) (by decide)
   have n5:au t i 0 0 ⟨#[114,101,102]⟩=false:=fG HK.out (by decide) (by decide)
   have n6:au t i 0 0 ⟨#[109,117,116]⟩=false:=fG HK.out (by decide) (by decide)
   have hk1:=U6.out
   unfold xD zD at hw
   unfold bN
   simp only[bU,Jt] at hw
   exact wrt))⟩) ?_
   clear q F
   intro w4 x5 i5 y5 hl5 m5 q
   have F:=q.f1
   go_wp2_with fail
   go_light
   exact Mf.rt (q) Tryz.results86 0 (by
   have n0:au t i 0 0 ⟨#[95]⟩=false:=fG HK.out (by decide) (by decide)
   have n1:au t i 0 0 ⟨#[45]⟩=false:=fG HK.out (by decide) (by decide)
   have n2:au t i 0 0 ⟨#[116,114,117,101]⟩=false:=fG HK.out (by decide) (by decide)
   have n3:au t i 0 0 ⟨#[102,97,108,115,101]⟩=false:=fG HK.out (by decide) (by decide)
   have n4:au t i 0 0 ⟨#[40]⟩=false:=fG HK.out (by decide) (by decide)
   have n5:au t i 0 0 ⟨#[114,101,102]⟩=false:=fG HK.out (by decide) (by decide)
   have n6:au t i 0 0 ⟨#[109,117,116]⟩=false:=fG HK.out (by decide) (by decide)
   have hk1:=U6.out
   unfold xD zD at m5
   unfold bN
   simp only[bU,Jt] at m5
   exact bS)
 ·have hk0:((t.kind i:Int)==1)=true:=(fQ h.lt 1).symm.trans hk1
  have HK:=aD hk1
  clear hk1
  go_enter Tryz.func86,Tryz.ntmps86
  have q:=Mf.start h
  go_wp2_with fail
  refine(q.ne' (sz w) (aJ)).lf (jD ·) ?_
  clear q
  intro w5 q
  have F:=q.f1
  go_wp2_with fail
  refine q.nd (fun hr=>LY hr 51 HK.out) (fun w' p hk hw=>⟨rfl,.inr (q.aR hk (by
   have n0:au t i 0 0 ⟨#[95]⟩=false:=fG HK.out (by decide) (by decide)
   have n1:au t i 0 0 ⟨#[45]⟩=false:=fG HK.out (by decide) (by decide)
   have n2:au t i 0 0 ⟨#[116,114,117,101]⟩=false:=fG HK.out (by decide) (by decide)
   have n3:au t i 0 0 ⟨#[102,97,108,115,101]⟩=false:=fG HK.out (by decide) (by decide)
   have n4:au t i 0 0 ⟨#[40]⟩=false:=fG HK.out (by decide) (by decide)
   have n5:au t i 0 0 ⟨#[114,101,102]⟩=false:=fG HK.out (by decide) (by decide)
   have n6:au t i 0 0 ⟨#[109,117,116]⟩=false:=fG HK.out (by decide) (by decide)
   have hk1:=HK.out
   replace hw:=Wr.cg (m':=fun _=>bnd (qh t) (fun n=>seq (dK 1) (ret (nd 51 (t.pos i) n 0 E0 [])))) (s':=⟨i,0,0⟩) hw (fun n=>rfl)
   unfold bN
   exact wrt))⟩) ?_
  clear q F
  intro w6 x5 i5 y5 hl5 m5 q
  have F:=q.f1
  go_wp2_with fail
  go_light
  exact Mf.rt (q) Tryz.results86 0 (by
   have n0:au t i 0 0 ⟨#[95]⟩=false:=fG HK.out (by decide) (by decide)
   have n1:au t i 0 0 ⟨#[45]⟩=false:=fG HK.out (by decide) (by decide)
   have n2:au t i 0 0 ⟨#[116,114,117,101]⟩=false:=fG HK.out (by decide) (by decide)
   have n3:au t i 0 0 ⟨#[102,97,108,115,101]⟩=false:=fG HK.out (by decide) (by decide)
   have n4:au t i 0 0 ⟨#[40]⟩=false:=fG HK.out (by decide) (by decide)
   have n5:au t i 0 0 ⟨#[114,101,102]⟩=false:=fG HK.out (by decide) (by decide)
   have n6:au t i 0 0 ⟨#[109,117,116]⟩=false:=fG HK.out (by decide) (by decide)
   have hk1:=HK.out
   replace m5:=Ev.cg (m':=fun _=>bnd (qh t) (fun n=>seq (dK 1) (ret (nd 51 (t.pos i) n 0 E0 [])))) (s':=⟨i,0,0⟩) m5 (fun n=>rfl)
   unfold bN
   exact bS)
theorem Si {N:Nat} (hQ:bH 86 N (fun t n=>gG t n 5)):bH 86 (N+1) (fun t n=>gG t n 5):=fun h hN=>(afa hQ h hN).mono fun e w' p=>p.to (fun r hr=>hr.up (fun _=>rfl)) (fun p hw=>hw.up (fun _=>rfl))
end
def pW (t:Tk) (general:Bool) (fu:Nat):GP (List Nr):=bnd (dh t) (fun q=>cond general (iT t true fu) (ret (nd 9 q 0 0 E0 [])))
def lQ (t:Tk) (T:GP (List Nr)) (general:Bool) (fu:Nat):GP (Int × ByteArray × List (List Nr) × Int):=bnd (dh t) (fun p=>seq (aM t ⟨#[102,110]⟩) (bnd (bG t) (fun s=>bnd (pW t general fu) (fun g=>bnd (iw t T fu) (fun ps=>bnd (dQ t T) (fun y=>ret (p,s,g::(ps++[y]),(ps.length:Int))))))))
section
variable {t:Tk} {T B:GP (List Nr)} {fu:Nat} {p m:Int} {general:Bool}
theorem sI:fM t T general fu=lQ t T general fu:=by
 unfold fM lQ pW
 simp only[bU]
end
def Sj (t:Tk) (T:GP (List Nr)) (general:Bool) (fu:Nat):GP (List Nr):=bnd (fM t T general fu) (fun h=>ret (nd 8 h.1 h.2.2.2 0 h.2.1 h.2.2.1))
def zF (t:Tk) (T B:GP (List Nr)) (general:Bool) (fu:Nat):GP (List Nr):=bnd (fM t T general fu) (fun h=>bnd B (fun z=>ret (nd 8 h.1 h.2.2.2 0 h.2.1 (h.2.2.1++[z]))))
def nH (t:Tk) (T:GP (List Nr)) (p m:Int) (fu:Nat):GP (List Nr):=bnd (bG t) (fun s=>seq (aM t ⟨#[123]⟩) (bnd (loop (iP t T fu) fu []) (fun r=>ret (nd 6 p 0 m s r))))
def xE (p m:Int) (y:List Nr):List Nr:=match y with
 |[]=>[]
 |z::r=>{z with p:=p,m:=m}::r
theorem Dm {p m k p0 n m0:Int} {s:ByteArray} {ks:List (List Nr)}:xE p m (nd k p0 n m0 s ks)=nd k p n m s ks:=rfl
theorem at_skip {α:Type} {t:Tk} {X:GP α}:bnd (dh t) (fun _=>X)=X:=rfl
def oo (t:Tk) (T B:GP (List Nr)) (fu:Nat):GP (List Nr):=bnd (dh t) (fun p=>bnd (aY t ⟨#[115,116,114,117,99,116]⟩) (fun Ib=>cond Ib (jS t T p 0 fu) (bnd (aY t ⟨#[101,110,117,109]⟩) (fun Ic=>cond Ic (lX t T p 0 fu) (bnd (aY t ⟨#[116,114,97,105,116]⟩) (fun Ie=>cond Ie (nH t T p 0 fu) (zF t T B true fu)))))))
def dX (t:Tk) (T B:GP (List Nr)) (fu:Nat):GP (List Nr):=bnd (dh t) (fun p=>bnd (bY t 0 ⟨#[105,109,112,108]⟩) (fun OD=>cond OD (kg t T B fu) (bnd (bnd (aY t ⟨#[112,117,98]⟩) (fun Ak=>cond Ak (ret ((1:Int))) (ret ((0:Int))))) (fun m1=>bnd (bY t 0 ⟨#[99,111,112,121]⟩) (fun c0=>bnd (bY t 1 ⟨#[115,116,114,117,99,116]⟩) (fun c1=>bnd (bY t 1 ⟨#[101,110,117,109]⟩) (fun c2=>bnd (cond (c0&&(c1||c2)) (seq (dK 1) (ret (m1+2))) (ret m1)) (fun m=>bnd (oo t T B fu) (fun y=>ret (xE p m y))))))))))
section
variable {t:Tk} {T B:GP (List Nr)} {fu:Nat} {p p0 m m0:Int}
theorem Qd:bnd (jS t T p0 m0 fu) (fun y=>ret (xE p m y))=jS t T p m fu:=by
 unfold jS seq
 simp only[bU,gB,Dm]
theorem XA:bnd (lX t T p0 m0 fu) (fun y=>ret (xE p m y))=lX t T p m fu:=by
 unfold lX seq
 simp only[bU,gB,Dm]
theorem Sk:bnd (nH t T p0 m0 fu) (fun y=>ret (xE p m y))=nH t T p m fu:=by
 unfold nH seq
 simp only[bU,gB,Dm]
theorem abr:bnd (zF t T B true fu) (fun y=>ret (xE p m y))=bnd (fM t T true fu) (fun h=>bnd B (fun z=>ret (nd 8 p h.2.2.2 m h.2.1 (h.2.2.1++[z])))):=by
 unfold zF
 simp only[bU,gB,Dm]
theorem Sl:bnd (oo t T B fu) (fun y=>ret (xE p m y))=bnd (aY t ⟨#[115,116,114,117,99,116]⟩) (fun Ib=>cond Ib (jS t T p m fu) (bnd (aY t ⟨#[101,110,117,109]⟩) (fun Ic=>cond Ic (lX t T p m fu) (bnd (aY t ⟨#[116,114,97,105,116]⟩) (fun Ie=>cond Ie (nH t T p m fu) (bnd (fM t T true fu) (fun h=>bnd B (fun z=>ret (nd 8 p h.2.2.2 m h.2.1 (h.2.2.1++[z])))))))))):=by
 unfold oo
 simp only[bU,rY,Qd,XA,Sk,abr,at_skip]
theorem jG:eO t T B fu=dX t T B fu:=by
 unfold eO dX
 simp only[Sl]
 rfl
end
theorem Fl.pm {w:World} {k p n m p2 m2:Int} {s:ByteArray} {v:Value} {y:List Nr} (h:Fl w [(ah k p n m s v).toList] [y]):Fl w [(ah k p2 n m2 s v).toList] [xE p2 m2 y]:=by
 obtain⟨a,ha⟩:=h
 refine⟨a+1,fun f hf=>?_⟩
 obtain⟨f,rfl⟩:∃m,f=m+1:=⟨f - 1,by omega⟩
 have:=ha (f+1) (by omega)
 simp only[List.map_cons,List.map_nil,List.cons.injEq,and_true] at this⊢
 rw[←this]
 rfl
theorem afb {w w':World} {rb tb i i':Nat} {cap:Cp} {t:Tk} {must:Prop} {ki po n m:Int} {na:ByteArray} {mm:Nat→GP (List Nr)} {ao:Option Addr} {cp:Nat} {vs:List (List Value)} {F:List (List Nr)} (h:Rd w rb tb cap t i 0 0) (hx:Nx w rb tb cap t i 0 must w' i' 0 0) (hK:Kids w.heap.size False w' (.slice ao vs.length cp) vs) (hF:Fl w' vs F) (hl:vs.length≤20000) (hp:0≤po∧po≤7000) (hn:na.size≤20000) (hm:Ev mm ⟨i,0,0⟩ (nd ki po n m na F,⟨i',0,0⟩)):Ht w rb tb cap t i must mm (.returned (.agg (ah ki po n m na (.slice ao vs.length cp)))) w':=by
 have q:=((Mf.start h).list hx hK hF).fo ki po n m na hl hp hn
 obtain⟨h,ha⟩:=q.z.all
 exact⟨ki,po,n,m,na,ao,vs.length,cp,i',rfl,hx,⟨h,isNode.weaken (fun b hb=>hb.1) (fun x=>x) _ _ (ha _ (.inr (List.mem_cons_self ..)))⟩,_,q.fT,hm⟩
theorem Mf.rtk {w W:World} {rb tb i j:Nat} {cap:Cp} {t:Tk} {g:Prop} {L:List (Nat × Array Value)} {T:List (List Value)} {kv:Value} {vs:List (List Value)} {X V:List (List Nr)} {fn:Func} {r:Nat} {act:Act} {ki po n m:Int} {na:ByteArray} {Q:Ending→World→Prop} (q:Mf w rb tb cap t i g W j L T kv vs X V) (hf:fn.results=#[.cell r 28]) (N:Nat) (hQ:∀w',Nx w rb tb cap t i 0 g w' j 0 0→Kids w.heap.size False w' kv vs→Fl w' vs V→Q (.returned (.agg (ah ki po n m na kv))) w') {wf:World} {b:Nat} (he:wf=Go.Proofs.YtdplogkmkgekdaaGreatDoor.bC W b (.int .i64 ki) (.int .i64 po) (.int .i64 n) (.int .i64 m) (.string na) kv (.int .i64 0) (.int .i64 0) nl nl nl:=by rfl) (hd:act.defers=[]:=by rfl) (ht:act.tmps.getD r undef=.pointer (some ⟨b,0,none⟩):=by rfl) (hz:L[N]? =some (b,aJ):=by rfl):bodyPost Tryz.prog fn Q .ret act wf:=by
 subst he
 have q1:=q.zw N hz (.int .i64 ki) (.int .i64 po) (.int .i64 n) (.int .i64 m) (.string na) kv (.int .i64 0) (.int .i64 0) nl nl nl
 have hB:bW _ b _:=(q1.z.blk N (b,_) (by rw[List.getElem?_set,if_pos rfl,if_pos (List.getElem?_eq_some_iff.1 hz).1])).2
 exact bodyPost_ret (wz hf ht hB) hd (hQ _ ⟨q1.st.rd,q1.st.kp,q1.le,fun e=>e,fun mu _=>q1.go mu⟩ q1.z.kids q1.fv)
theorem Sm {B:Nat} {G:Prop} {W:World} {kv:Value} {vs:List (List Value)} (hK:Kids B G W kv vs) {b o:Nat} {u:Value} (hb:b<B):Kids B G (W.setCell ⟨b,o,none⟩ u) kv vs:=by
 obtain⟨row,h,ha⟩:=hK
 have e:∀c,B≤c→(W.setCell ⟨b,o,none⟩ u).heap[c]? =W.heap[c]? :=fun c hc=>Below.heap_setCell _ _ _ _ (by show c≠b;omega)
 exact⟨jY row (fun c hc _=>e c (row.lt c hc).1),h,fun x hx=>isNode.frame (fun c hc _=>e c hc.1) _ _ (ha x hx)⟩
def afc (w:World) (rb tb:Nat) (cap:Cp) (t:Tk) (i:Nat) (b:Bool) (e:Ending) (w':World):Prop:=
 ∃(n:Int) (s:ByteArray) (ao:Option Addr) (cp:Nat) (vs:List (List Value)) (i':Nat),e=.returned (.agg (ah 8 (t.pos i) n 0 s (.slice ao vs.length cp)))∧Nx w rb tb cap t i 0 True w' i' 0 0∧Kids w.heap.size False w' (.slice ao vs.length cp) vs∧vs.length≤6010∧s.size≤20000∧∃F,Fl w' vs F∧Ev (fun n=>fM t (gG t n 0) b n) ⟨i,0,0⟩ (((t.pos i:Int),s,F,n),⟨i',0,0⟩)
def Ju (w:World) (rb tb:Nat) (cap:Cp) (t:Tk) (i:Nat) (b:Bool) (e:Ending) (w':World):Prop:=afc w rb tb cap t i b e w'∨tK w rb ⟨i,0,0⟩ (fun n=>fM t (gG t n 0) b n) e w'
theorem Ju.node {w w':World} {rb tb i:Nat} {cap:Cp} {t:Tk} {b:Bool} {e:Ending} (h:Rd w rb tb cap t i 0 0) (p:Ju w rb tb cap t i b e w'):aP w rb tb cap t i True (fun n=>Sj t (gG t n 0) b n) e w':=by
 rcases p with⟨n,s,ao,cp,vs,i',rfl,hx,hK,hl,hs,F,hF,hm⟩|⟨p,he,hk,hw⟩
 ·exact .inl (afb h hx hK hF (by omega) (by have:=h.good.qg i;omega) hs (Ev.ak hm Ev.ret'))
 ·exact .inr ⟨p,he,hk,Wr.fst hw (fun _ _=>Sy.ret)⟩
theorem Mf.sg {w W:World} {rb tb i j:Nat} {cap:Cp} {t:Tk} {g:Prop} {L:List (Nat × Array Value)} {T:List (List Value)} {X V:List (List Nr)} {f:Nat} {args:Array Value} {Q:Ending→World→Prop} {b:Bool} (q:Mf w rb tb cap t i g W j L T nl [] X V) (h:Rd W rb tb cap t j 0 0→Calls Tryz.prog f args W (Ju W rb tb cap t j b)) (KB:∀w' p,Kp W.heap.size rb W w'→Wr (fun n=>fM t (gG t n 0) b n) ⟨j,0,0⟩ (p:Nat)→Q (iQ p) w') (K:∀w' n s ao cp vs' i' F,s.size≤20000→Hid (j<i'∧vs'.length≤6010)→Ev (fun n=>fM t (gG t n 0) b n) ⟨j,0,0⟩ (((t.pos j:Int),s,F,n),⟨i',0,0⟩)→Mf w rb tb cap t i True w' i' L T (.slice ao vs'.length cp) vs' X F→Q (.returned (.agg (ah 8 (t.pos j) n 0 s (.slice ao vs'.length cp)))) w'):Calls Tryz.prog f args W Q:=(h q.st.rd).mono fun e w' p=>by
 rcases p with⟨n,s,ao,cp,vs',i',rfl,hx,hK,hl,hs,F,hF,hm⟩|⟨p,rfl,hk,hw⟩
 ·exact K w' n s ao cp vs' i' F hs ⟨hx.go trivial rfl,hl⟩ hm ((q.list hx hK hF).up (fun _=>Nat.lt_of_le_of_lt q.le (hx.go trivial rfl)))
 ·exact KB w' p hk hw
theorem Qe:fZ 141:=dN (f:=141) (fn:=Tryz.f141) (by kernel_rfl) (by kernel_rfl) rfl
theorem abt:fZ 143:=dN (f:=143) (fn:=Tryz.f143) (by kernel_rfl) (by kernel_rfl) rfl
theorem Qf {w:World} {rb tb i:Nat} {cap:Cp} {t:Tk} (h:Rd w rb tb cap t i 0 0):Calls Tryz.prog 141 #[.pointer (some ⟨rb,0,none⟩)] w (aP w rb tb cap t i False (fun n=>pW t false n)):=Xx h
theorem abu {w:World} {rb tb i:Nat} {cap:Cp} {t:Tk} (h:Rd w rb tb cap t i 0 0):Calls Tryz.prog 143 #[.pointer (some ⟨rb,0,none⟩)] w (aP w rb tb cap t i False (fun n=>pW t true n)):=(Ep h).mono fun e w' p=>p.to (fun r hr=>Ev.ak bL hr) (fun p hw=>Wr.snd bL hw)
theorem Er {N:Nat} (hT:bH 70 N (fun t n=>gG t n 0)) {w:World} {rb tb i:Nat} {cap:Cp} {t:Tk} (h:Rd w rb tb cap t i 0 0) (hN:t.len - i≤N+1) {kG:Nat} {Gu Gv:Array Value} {b:Bool} (Qg:fZ kG) (HG:∀{w' j},Rd w' rb tb cap t j 0 0→Calls Tryz.prog kG (Gu++Gv) w' (aP w' rb tb cap t j False (fun n=>pW t b n))):
 Calls Tryz.prog 140 #[.pointer (some ⟨rb,0,none⟩),.func (.func kG) Gu Gv] w (Ju w rb tb cap t i b):=by
 have hl:=h.l
 have aL:=h.eP
 have HHG:=@aG _ @HG
 have hin:=Qg
 unfold fZ at hin
 clear HG Qg
 go_enter Tryz.func140,Tryz.ntmps140
 have q:=Mf.start h
 go_wp2_with fail
 refine(q.ne' (sz w) (aJ)).lf (dx · 8) ?_
 clear q
 intro w1 q
 have F:=q.f1
 go_wp2_with fail
 refine(q.ne' (sz w1) (nk 8 (t.pos i) nl)).wn (dw · _ (ask)) (fun w' hk hw=>⟨rfl,.inr ((q.ne' (sz w1) (nk 8 (t.pos i) nl)).aR hk (by rw[show(fun n=>fM t (gG t n 0) b n)=(fun n=>lQ t (gG t n 0) b n) from funext fun n=>sI];unfold lQ pW;exact wrt))⟩) ?_
 clear q F
 intro w2 m2 q
 have F:=q.f2
 go_wp2_with fail
 refine q.nm (kD ·) (fun w' p hk hw=>⟨rfl,.inr (q.aR hk (by rw[show(fun n=>fM t (gG t n 0) b n)=(fun n=>lQ t (gG t n 0) b n) from funext fun n=>sI];unfold lQ pW;exact wrt))⟩) ?_
 clear q F
 intro w3 s3 i3 hs3 hl3 m3 q
 have F:=q.f2
 have Sc:Hid (∀p,Wr (fun n=>pW t b n) ⟨i3,0,0⟩ p→Wr (fun n=>fM t (gG t n 0) b n) ⟨i,0,0⟩ p):=fun p hw=>(by rw[show(fun n=>fM t (gG t n 0) b n)=(fun n=>lQ t (gG t n 0) b n) from funext fun n=>sI];unfold lQ;exact wrt)
 go_upto_region 4 with fail
 go_cut [] (fun wx=>∃(i4:Nat) (y4:List Nr) (v:Value) (vs:List (List Value)),Ev (fun n=>pW t b n) ⟨i3,0,0⟩ (y4,⟨i4,0,0⟩)∧Hid (vs.length=1)∧Mf w rb tb cap t i True wx i4 [(sz w1,ah 8 (t.pos i) 0 0 s3 v),(sz w,aJ)] [] v vs [] [y4])
 case first=>
  go_wp2_with fail
  go_region_law (first|(refine q.as (sz w4) (by simp) ?_;clear q F;intro w5 xB xC q;have F:=q.f2)|(replace q:=(q.jm s3).drew;go_simp;refine q.nn (fun hr=>HHG.out hr) (fun w' p hk hw=>⟨rfl,.inr (q.aR hk (Sc.out _ hw))⟩) ?_;clear q F;intro w4 x4 i4 y4 hl4 m4 q;have F:=q.f2))
  all_goals
   go_wp2_with fail
   go_meet
   exact⟨i4,y4,_,_,m4,(by simp:_=_),q.fE (.slice xB (0+1) xC)⟩
 case rest=>
  clear F q
  obtain⟨i4,y4,v,vs,m4,qz,q⟩:=hcut
  obtain⟨w5,hw⟩:∃x,x=wc:=⟨_,rfl⟩
  subst hw
  obtain⟨xB,xC,rfl⟩:=q.shape
  have F:=q.f2
  have HW1:Hid (sz w1<sz w5):=F.1.2.2.1
  go_wp2_with fail
  refine q.lh (fun hr=>L8 hT hr (by have:=hr.lt;have:=q.go trivial;omega)) (fun w' p hk hw=>⟨rfl,.inr (q.aR hk (by rw[show(fun n=>fM t (gG t n 0) b n)=(fun n=>lQ t (gG t n 0) b n) from funext fun n=>sI];unfold lQ;exact wrt))⟩) ?_
  clear q F
  intro w6 zY yj ng i5 V5 hl5 UE hK5 m5 q
  have F:=q.f2
  have zZ:ng.length≤6001:=by have:=hl5.out.2.1;have:=q.st.rd.lt;have:=h.good.few;omega
  have HL7:=aD zZ
  have HL8:Hid ((vs++ng).length≤6005):=by show(vs++ng).length≤6005;have:=qz.out;rw[List.length_append];omega
  have Qc:Hid (∀p,Wr (fun n=>dQ t (gG t n 0)) ⟨i5,0,0⟩ p→Wr (fun n=>fM t (gG t n 0) b n) ⟨i,0,0⟩ p):=fun p hw=>(by rw[show(fun n=>fM t (gG t n 0) b n)=(fun n=>lQ t (gG t n 0) b n) from funext fun n=>sI];unfold lQ;exact wrt)
  go_wp2_with (at_builtin;refine Mf.apl (q.pV (ng.length:Int)) UE (Sm hK5.out (by simpa using HW1.out)) (by have:=qz.out;omega) (Nat.le_trans HL7.out (by decide)) ?_;clear q F hK5;intro w7 mh mo q;have F:=q.f2)
  go_region_law (first|(refine q.as (sz w8) (Nat.le_trans HL8.out (by decide)) ?_;clear q F;intro w9 vN vO q;have F:=q.f2)|(replace q:=(q.fE (.slice mh (vs.length+ng.length) mo)).drew;go_simp;refine q.nn (fun hr=>E9 hT hr (by have:=hr.lt;have:=q.go trivial;omega)) (fun w' p hk hw=>⟨rfl,.inr (q.aR hk (Qc.out _ hw))⟩) ?_;clear q F;intro w8 x8 i8 y8 Pn m8 q;have F:=q.f2))
  all_goals
   have hVl:V5.length=ng.length:=UE.out
   have mm:Ev (fun n=>fM t (gG t n 0) b n) ⟨i,0,0⟩ (((t.pos i:Int),s3,y4::(V5++[y8]),(V5.length:Int)),⟨i8,0,0⟩):=by rw[show(fun n=>fM t (gG t n 0) b n)=(fun n=>lQ t (gG t n 0) b n) from funext fun n=>sI];unfold lQ;exact bS
   have MM:Hid (Ev (fun n=>fM t (gG t n 0) b n) ⟨i,0,0⟩ (((t.pos i:Int),s3,[y4]++V5++[y8],(ng.length:Int)),⟨i8,0,0⟩)):=by show Ev _ _ _;rw[←hVl];exact mm
   clear mm m2 m3 m4 m5 m8
   go_wp2_with fail
   go_light
   have O7:(vs++ng++[x8.t]).length=vs.length+ng.length+1:=by simp;omega
   have HLM:vs.length+ng.length+1≤6010:=by have:=HL8.out;rw[List.length_append] at this;omega
   exact Mf.rtk (q.fE (.slice vN (vs.length+ng.length+1) vO)) Tryz.results140 1 (fun w' hx hK hF=>.inl ⟨_,s3,vN,vO,vs++ng++[x8.t],i8,by rw[O7],hx,by rw[O7];exact hK,by rw[O7];exact HLM,hs3,_,hF,MM.out⟩)
end Go.Proofs.YtdplogkmkgekdaaGreatDoor.Pj
