/- The project's parser: items, what their kinds read. -/
import Derived.Test.YtdplogkmkgekdaaGreatDoorPkztc
import Derived.Test.YtdplogkmkgekdaaGreatDoorPkzr
import Derived.Test.YtdplogkmkgekdaaGreatDoorPla
import Derived.Test.YtdplogkmkgekdaaGreatDoorPkzn
import Derived.Test.YtdplogkmkgekdaaGreatDoorPkb
import Derived.Test.YtdplogkmkgekdaaGreatDoorPle
set_option linter.all false
set_option maxRecDepth 100000
set_option maxHeartbeats 4000000
namespace Go.Proofs.YtdplogkmkgekdaaGreatDoor.Pj
open Go.RowKit
section
variable {w w':World} {rb tb i:Nat} {cap:Cp} {t:Tk} {must:Prop} {m mm:Nat→GP (List Nr)} {e:Ending}
theorem aU {s:ByteArray} {l:List UInt8} {b:Bool} (hc:Clean t) (hi:i<t.len) (hb:au t i 0 0 s=b) (hs:s∈gL:=by exact ask) (hl:s.toList=l:=by simp only[Lib.toList_data]):((t.text i).toList==l)=b:=by
 rw[←hl,←rW hc hi hs]
 exact hb
theorem qX {s:ByteArray} (hc:Clean t) (hb:au t i 0 0 s=true) (hs:s∈Db) (hs2:s∈gL):((t.kind i:Int)==3)=true:=by
 have e:=Ej hb
 rcases hc i with(⟨_,h2⟩|h)|h
 ·exact absurd (congrArg ByteArray.toList e) (h2 s hs)
 ·simp[h]
 ·exact absurd (congrArg ByteArray.toList e) (h s hs2)
theorem vL {s:ByteArray} (h:s∈Db:=by unfold Db;repeat(first|with_reducible exact List.Mem.head _|refine List.Mem.tail _ ?_)):s∈Db:=h
theorem ad1 {W:World} {bd a n a2 n2:Nat} {es es2:List gZ} (hbd:bd≤W.heap.size) (ha:mY W bd a es) (Dl:∀e∈es,e.txt∈gL) (hl:es.length≤10) (hn:n=es.length) (ha2:mY W bd a2 es2) (NT:∀e∈es2,e.txt∈gL) (hl2:es2.length≤10) (hn2:n2=es2.length):uT (W.alloc (.cells #[.slice (some ⟨a,0,none⟩) n n,.slice (some ⟨a2,0,none⟩) n2 n2] 72)) bd W.heap.size [(a,es),(a2,es2)]:=by
 subst hn hn2
 refine⟨_,heap_alloc_new W _,fun k a3 es3 h=>?_⟩
 match k with
 |0=>
  obtain⟨rfl,rfl⟩:a=a3∧es=es3:=by simpa using h
  exact⟨rfl,ha.of (fun k hk=>Below.heap_alloc _ _ _ (by omega)),Dl,hl⟩
 |1=>
  obtain⟨rfl,rfl⟩:a2=a3∧es2=es3:=by simpa using h
  exact⟨rfl,ha2.of (fun k hk=>Below.heap_alloc _ _ _ (by omega)),NT,hl2⟩
 |k+2=>simp at h
theorem abw {W:World} {n a n2 a2:Nat} {es es2:List gZ} (h:Rd W rb tb cap t i 0 0) (ha:mY W cap.bd a es) (Dl:∀e∈es,e.txt∈gL) (hl:es.length≤10) (hn:n=es.length) (HI:∀e∈es,fZ e.fn) (ha2:mY W cap.bd a2 es2) (NT:∀e∈es2,e.txt∈gL) (hl2:es2.length≤10) (hn2:n2=es2.length) (HI2:∀e∈es2,fZ e.fn) (H:∀e w' ts,eH t i (es++es2)=some e→nQ w' cap.bd e ts→Rd w' rb tb cap t i 0 0→Calls Tryz.prog e.fn (#[.pointer (some ⟨rb,0,none⟩)]++ts) w' (aP w' rb tb cap t i True m)) (H0:eH t i (es++es2)=none→Wr m ⟨i,0,0⟩ (t.pos i)):
 Calls Tryz.prog 151 #[.pointer (some ⟨rb,0,none⟩),.slice (some ⟨W.heap.size,0,none⟩) 2 2] (W.alloc (.cells #[.slice (some ⟨a,0,none⟩) n n,.slice (some ⟨a2,0,none⟩) n2 n2] 72)) (aP (W.alloc (.cells #[.slice (some ⟨a,0,none⟩) n n,.slice (some ⟨a2,0,none⟩) n2 n2] 72)) rb tb cap t i True m):=by
 have e1:([(a,es),(a2,es2)]:List (Nat × List gZ)).flatMap (·.2)=es++es2:=by simp
 refine UC (h.alloc _) (ad1 (by have:=h.bl;have:=h.l;omega) ha Dl hl hn ha2 NT hl2 hn2) rfl (by decide) ?_ ?_ ?_
 ·rw[e1];exact fun e he=>(List.mem_append.1 he).elim (HI e) (HI2 e)
 ·rw[e1];exact H
 ·rw[e1];exact H0
end
theorem U7 {N:Nat} (hT:bH 70 N (fun t n=>gG t n 0)) (hE:bH 81 N (fun t n=>gG t n 1)) (hQ:bH 86 N (fun t n=>gG t n 5)) (hB:bH 75 N (fun t n=>gG t n 3)) (Qp:Fa (N+1)) (hB1:bH 75 (N+1) (fun t n=>gG t n 3)) {w:World} {rb tb i:Nat} {cap:Cp} {t:Tk} (h:Rd w rb tb cap t i 0 0) (hN:t.len - i≤N+1) {e:gZ} {ts:Array Value} (he:eH t i (fJ++oD)=some e) (hc:nQ w cap.bd e ts):Calls Tryz.prog e.fn (#[.pointer (some ⟨rb,0,none⟩)]++ts) w (aP w rb tb cap t i True (fun n=>aX t (gG t n 0) (gG t n 1) (gG t n 3) (gG t n 5) (gG t n 4) n)):=by
 have hb:=vB he
 have hm:=pO he
 have hlt:=(iY h.good h.lt hb).2
 clear he
 have hk1:((t.kind i:Int)==1)=false:=(fQ h.lt 1).symm.trans (sj hb (by decide) (by decide))
 have hk2:((t.kind i:Int)==2)=false:=(fQ h.lt 2).symm.trans (sj hb (by decide) (by decide))
 simp only[fJ,oD,List.cons_append,List.nil_append,List.mem_cons,List.not_mem_nil,or_false] at hm
 rcases hm with rfl|rfl|rfl|rfl|rfl|rfl|rfl|rfl|rfl|rfl|rfl|rfl|rfl|rfl|rfl
 ·replace hb:au t i 0 0 ⟨#[105,102]⟩=true:=hb
  have n0:=aF hb (b:=⟨#[40]⟩) (lit)
  have n1:=aF hb (b:=⟨#[123]⟩) (lit)
  have hk3:=qX h.cl hb (vL) (ask)
  have v0:((t.text i).toList==[116,114,117,101])=false:=aU h.cl h.lt (aF hb (b:=⟨#[116,114,117,101]⟩) (lit))
  have v1:((t.text i).toList==[102,97,108,115,101])=false:=aU h.cl h.lt (aF hb (b:=⟨#[102,97,108,115,101]⟩) (lit))
  have v2:((t.text i).toList==[98,114,101,97,107])=false:=aU h.cl h.lt (aF hb (b:=⟨#[98,114,101,97,107]⟩) (lit))
  have v3:((t.text i).toList==[110,101,120,116])=false:=aU h.cl h.lt (aF hb (b:=⟨#[110,101,120,116]⟩) (lit))
  have v4:((t.text i).toList==[112,97,110,105,99])=false:=aU h.cl h.lt (aF hb (b:=⟨#[112,97,110,105,99]⟩) (lit))
  have v5:((t.text i).toList==[114,101,116,117,114,110])=false:=aU h.cl h.lt (aF hb (b:=⟨#[114,101,116,117,114,110]⟩) (lit))
  have v6:((t.text i).toList==[105,102])=true:=aU h.cl h.lt hb
  obtain rfl:=hc.plain (by decide)
  refine(Qp h hN hb).mono fun e w' p=>p.to (fun r hr=>?_) (fun p hw=>?_)
  ·unfold aX bO
   exact bS
  ·unfold aX bO
   exact wrt
 ·replace hb:au t i 0 0 ⟨#[109,97,116,99,104]⟩=true:=hb
  have n0:=aF hb (b:=⟨#[40]⟩) (lit)
  have n1:=aF hb (b:=⟨#[123]⟩) (lit)
  have hk3:=qX h.cl hb (vL) (ask)
  have v0:((t.text i).toList==[116,114,117,101])=false:=aU h.cl h.lt (aF hb (b:=⟨#[116,114,117,101]⟩) (lit))
  have v1:((t.text i).toList==[102,97,108,115,101])=false:=aU h.cl h.lt (aF hb (b:=⟨#[102,97,108,115,101]⟩) (lit))
  have v2:((t.text i).toList==[98,114,101,97,107])=false:=aU h.cl h.lt (aF hb (b:=⟨#[98,114,101,97,107]⟩) (lit))
  have v3:((t.text i).toList==[110,101,120,116])=false:=aU h.cl h.lt (aF hb (b:=⟨#[110,101,120,116]⟩) (lit))
  have v4:((t.text i).toList==[112,97,110,105,99])=false:=aU h.cl h.lt (aF hb (b:=⟨#[112,97,110,105,99]⟩) (lit))
  have v5:((t.text i).toList==[114,101,116,117,114,110])=false:=aU h.cl h.lt (aF hb (b:=⟨#[114,101,116,117,114,110]⟩) (lit))
  have v6:((t.text i).toList==[105,102])=false:=aU h.cl h.lt (aF hb (b:=⟨#[105,102]⟩) (lit))
  have v7:((t.text i).toList==[109,97,116,99,104])=true:=aU h.cl h.lt hb
  obtain rfl:=hc.plain (by decide)
  refine(abm hE hQ h hN).mono fun e w' p=>p.to (fun r hr=>?_) (fun p hw=>?_)
  ·unfold aX bO
   exact bS
  ·unfold aX bO
   exact wrt
 ·replace hb:au t i 0 0 ⟨#[119,104,105,108,101]⟩=true:=hb
  have n0:=aF hb (b:=⟨#[40]⟩) (lit)
  have n1:=aF hb (b:=⟨#[123]⟩) (lit)
  have hk3:=qX h.cl hb (vL) (ask)
  have v0:((t.text i).toList==[116,114,117,101])=false:=aU h.cl h.lt (aF hb (b:=⟨#[116,114,117,101]⟩) (lit))
  have v1:((t.text i).toList==[102,97,108,115,101])=false:=aU h.cl h.lt (aF hb (b:=⟨#[102,97,108,115,101]⟩) (lit))
  have v2:((t.text i).toList==[98,114,101,97,107])=false:=aU h.cl h.lt (aF hb (b:=⟨#[98,114,101,97,107]⟩) (lit))
  have v3:((t.text i).toList==[110,101,120,116])=false:=aU h.cl h.lt (aF hb (b:=⟨#[110,101,120,116]⟩) (lit))
  have v4:((t.text i).toList==[112,97,110,105,99])=false:=aU h.cl h.lt (aF hb (b:=⟨#[112,97,110,105,99]⟩) (lit))
  have v5:((t.text i).toList==[114,101,116,117,114,110])=false:=aU h.cl h.lt (aF hb (b:=⟨#[114,101,116,117,114,110]⟩) (lit))
  have v6:((t.text i).toList==[105,102])=false:=aU h.cl h.lt (aF hb (b:=⟨#[105,102]⟩) (lit))
  have v7:((t.text i).toList==[109,97,116,99,104])=false:=aU h.cl h.lt (aF hb (b:=⟨#[109,97,116,99,104]⟩) (lit))
  have v8:((t.text i).toList==[119,104,105,108,101])=true:=aU h.cl h.lt hb
  obtain rfl:=hc.plain (by decide)
  refine(aaT hE hB h hN hb).mono fun e w' p=>p.to (fun r hr=>?_) (fun p hw=>?_)
  ·unfold aX bO
   exact bS
  ·unfold aX bO
   exact wrt
 ·replace hb:au t i 0 0 ⟨#[108,111,111,112]⟩=true:=hb
  have n0:=aF hb (b:=⟨#[40]⟩) (lit)
  have n1:=aF hb (b:=⟨#[123]⟩) (lit)
  have hk3:=qX h.cl hb (vL) (ask)
  have v0:((t.text i).toList==[116,114,117,101])=false:=aU h.cl h.lt (aF hb (b:=⟨#[116,114,117,101]⟩) (lit))
  have v1:((t.text i).toList==[102,97,108,115,101])=false:=aU h.cl h.lt (aF hb (b:=⟨#[102,97,108,115,101]⟩) (lit))
  have v2:((t.text i).toList==[98,114,101,97,107])=false:=aU h.cl h.lt (aF hb (b:=⟨#[98,114,101,97,107]⟩) (lit))
  have v3:((t.text i).toList==[110,101,120,116])=false:=aU h.cl h.lt (aF hb (b:=⟨#[110,101,120,116]⟩) (lit))
  have v4:((t.text i).toList==[112,97,110,105,99])=false:=aU h.cl h.lt (aF hb (b:=⟨#[112,97,110,105,99]⟩) (lit))
  have v5:((t.text i).toList==[114,101,116,117,114,110])=false:=aU h.cl h.lt (aF hb (b:=⟨#[114,101,116,117,114,110]⟩) (lit))
  have v6:((t.text i).toList==[105,102])=false:=aU h.cl h.lt (aF hb (b:=⟨#[105,102]⟩) (lit))
  have v7:((t.text i).toList==[109,97,116,99,104])=false:=aU h.cl h.lt (aF hb (b:=⟨#[109,97,116,99,104]⟩) (lit))
  have v8:((t.text i).toList==[119,104,105,108,101])=false:=aU h.cl h.lt (aF hb (b:=⟨#[119,104,105,108,101]⟩) (lit))
  have v9:((t.text i).toList==[108,111,111,112])=true:=aU h.cl h.lt hb
  obtain rfl:=hc.plain (by decide)
  refine(adO hB h hN hb).mono fun e w' p=>p.to (fun r hr=>?_) (fun p hw=>?_)
  ·unfold aX bO
   exact bS
  ·unfold aX bO
   exact wrt
 ·replace hb:au t i 0 0 ⟨#[123]⟩=true:=hb
  have n0:=aF hb (b:=⟨#[40]⟩) (lit)
  obtain rfl:=hc.plain (by decide)
  refine(hB1 h hN).mono fun e w' p=>p.to (fun r hr=>?_) (fun p hw=>?_)
  ·unfold aX
   exact bS
  ·unfold aX
   exact wrt
 ·replace hb:au t i 0 0 ⟨#[116,114,117,101]⟩=true:=hb
  have n0:=aF hb (b:=⟨#[40]⟩) (lit)
  have n1:=aF hb (b:=⟨#[123]⟩) (lit)
  have hk3:=qX h.cl hb (List.mem_cons_self ..) (ask)
  have v0:((t.text i).toList==[116,114,117,101])=true:=aU h.cl h.lt hb
  obtain⟨b1,b2,l1,l2,rfl,c1,c2⟩:=hc.bare rfl
  refine(uS h (by have:=h.bl;omega) (by have:=h.bl;omega) c1 c2 hlt).mono fun e w' p=>p.to (fun r hr=>?_) (fun p hw=>?_)
  ·replace hr:Ev (fun _=>seq (dK 1) (ret (nd 21 (t.pos i) 1 0 E0 []))) ⟨i,0,0⟩ r:=hr
   unfold aX bO
   exact bS
  ·replace hw:Wr (fun _=>seq (dK 1) (ret (nd 21 (t.pos i) 1 0 E0 []))) ⟨i,0,0⟩ p:=hw
   unfold aX bO
   exact wrt
 ·replace hb:au t i 0 0 ⟨#[102,97,108,115,101]⟩=true:=hb
  have n0:=aF hb (b:=⟨#[40]⟩) (lit)
  have n1:=aF hb (b:=⟨#[123]⟩) (lit)
  have hk3:=qX h.cl hb (vL) (ask)
  have v0:((t.text i).toList==[116,114,117,101])=false:=aU h.cl h.lt (aF hb (b:=⟨#[116,114,117,101]⟩) (lit))
  have v1:((t.text i).toList==[102,97,108,115,101])=true:=aU h.cl h.lt hb
  obtain⟨b1,b2,l1,l2,rfl,c1,c2⟩:=hc.bare rfl
  refine(uS h (by have:=h.bl;omega) (by have:=h.bl;omega) c1 c2 hlt).mono fun e w' p=>p.to (fun r hr=>?_) (fun p hw=>?_)
  ·replace hr:Ev (fun _=>seq (dK 1) (ret (nd 21 (t.pos i) 0 0 E0 []))) ⟨i,0,0⟩ r:=hr
   unfold aX bO
   exact bS
  ·replace hw:Wr (fun _=>seq (dK 1) (ret (nd 21 (t.pos i) 0 0 E0 []))) ⟨i,0,0⟩ p:=hw
   unfold aX bO
   exact wrt
 ·replace hb:au t i 0 0 ⟨#[98,114,101,97,107]⟩=true:=hb
  have n0:=aF hb (b:=⟨#[40]⟩) (lit)
  have n1:=aF hb (b:=⟨#[123]⟩) (lit)
  have hk3:=qX h.cl hb (vL) (ask)
  have v0:((t.text i).toList==[116,114,117,101])=false:=aU h.cl h.lt (aF hb (b:=⟨#[116,114,117,101]⟩) (lit))
  have v1:((t.text i).toList==[102,97,108,115,101])=false:=aU h.cl h.lt (aF hb (b:=⟨#[102,97,108,115,101]⟩) (lit))
  have v2:((t.text i).toList==[98,114,101,97,107])=true:=aU h.cl h.lt hb
  obtain⟨b1,b2,l1,l2,rfl,c1,c2⟩:=hc.bare rfl
  refine(uS h (by have:=h.bl;omega) (by have:=h.bl;omega) c1 c2 hlt).mono fun e w' p=>p.to (fun r hr=>?_) (fun p hw=>?_)
  ·replace hr:Ev (fun _=>seq (dK 1) (ret (nd 38 (t.pos i) 0 0 E0 []))) ⟨i,0,0⟩ r:=hr
   unfold aX bO
   exact bS
  ·replace hw:Wr (fun _=>seq (dK 1) (ret (nd 38 (t.pos i) 0 0 E0 []))) ⟨i,0,0⟩ p:=hw
   unfold aX bO
   exact wrt
 ·replace hb:au t i 0 0 ⟨#[110,101,120,116]⟩=true:=hb
  have n0:=aF hb (b:=⟨#[40]⟩) (lit)
  have n1:=aF hb (b:=⟨#[123]⟩) (lit)
  have hk3:=qX h.cl hb (vL) (ask)
  have v0:((t.text i).toList==[116,114,117,101])=false:=aU h.cl h.lt (aF hb (b:=⟨#[116,114,117,101]⟩) (lit))
  have v1:((t.text i).toList==[102,97,108,115,101])=false:=aU h.cl h.lt (aF hb (b:=⟨#[102,97,108,115,101]⟩) (lit))
  have v2:((t.text i).toList==[98,114,101,97,107])=false:=aU h.cl h.lt (aF hb (b:=⟨#[98,114,101,97,107]⟩) (lit))
  have v3:((t.text i).toList==[110,101,120,116])=true:=aU h.cl h.lt hb
  obtain⟨b1,b2,l1,l2,rfl,c1,c2⟩:=hc.bare rfl
  refine(uS h (by have:=h.bl;omega) (by have:=h.bl;omega) c1 c2 hlt).mono fun e w' p=>p.to (fun r hr=>?_) (fun p hw=>?_)
  ·replace hr:Ev (fun _=>seq (dK 1) (ret (nd 39 (t.pos i) 0 0 E0 []))) ⟨i,0,0⟩ r:=hr
   unfold aX bO
   exact bS
  ·replace hw:Wr (fun _=>seq (dK 1) (ret (nd 39 (t.pos i) 0 0 E0 []))) ⟨i,0,0⟩ p:=hw
   unfold aX bO
   exact wrt
 ·replace hb:au t i 0 0 ⟨#[112,97,110,105,99]⟩=true:=hb
  have n0:=aF hb (b:=⟨#[40]⟩) (lit)
  have n1:=aF hb (b:=⟨#[123]⟩) (lit)
  have hk3:=qX h.cl hb (vL) (ask)
  have v0:((t.text i).toList==[116,114,117,101])=false:=aU h.cl h.lt (aF hb (b:=⟨#[116,114,117,101]⟩) (lit))
  have v1:((t.text i).toList==[102,97,108,115,101])=false:=aU h.cl h.lt (aF hb (b:=⟨#[102,97,108,115,101]⟩) (lit))
  have v2:((t.text i).toList==[98,114,101,97,107])=false:=aU h.cl h.lt (aF hb (b:=⟨#[98,114,101,97,107]⟩) (lit))
  have v3:((t.text i).toList==[110,101,120,116])=false:=aU h.cl h.lt (aF hb (b:=⟨#[110,101,120,116]⟩) (lit))
  have v4:((t.text i).toList==[112,97,110,105,99])=true:=aU h.cl h.lt hb
  obtain⟨b1,b2,l1,l2,rfl,c1,c2⟩:=hc.bare rfl
  refine(uS h (by have:=h.bl;omega) (by have:=h.bl;omega) c1 c2 hlt).mono fun e w' p=>p.to (fun r hr=>?_) (fun p hw=>?_)
  ·replace hr:Ev (fun _=>seq (dK 1) (ret (nd 41 (t.pos i) 0 0 E0 []))) ⟨i,0,0⟩ r:=hr
   unfold aX bO
   exact bS
  ·replace hw:Wr (fun _=>seq (dK 1) (ret (nd 41 (t.pos i) 0 0 E0 []))) ⟨i,0,0⟩ p:=hw
   unfold aX bO
   exact wrt
 ·replace hb:au t i 0 0 ⟨#[114,101,116,117,114,110]⟩=true:=hb
  have n0:=aF hb (b:=⟨#[40]⟩) (lit)
  have n1:=aF hb (b:=⟨#[123]⟩) (lit)
  have hk3:=qX h.cl hb (vL) (ask)
  have v0:((t.text i).toList==[116,114,117,101])=false:=aU h.cl h.lt (aF hb (b:=⟨#[116,114,117,101]⟩) (lit))
  have v1:((t.text i).toList==[102,97,108,115,101])=false:=aU h.cl h.lt (aF hb (b:=⟨#[102,97,108,115,101]⟩) (lit))
  have v2:((t.text i).toList==[98,114,101,97,107])=false:=aU h.cl h.lt (aF hb (b:=⟨#[98,114,101,97,107]⟩) (lit))
  have v3:((t.text i).toList==[110,101,120,116])=false:=aU h.cl h.lt (aF hb (b:=⟨#[110,101,120,116]⟩) (lit))
  have v4:((t.text i).toList==[112,97,110,105,99])=false:=aU h.cl h.lt (aF hb (b:=⟨#[112,97,110,105,99]⟩) (lit))
  have v5:((t.text i).toList==[114,101,116,117,114,110])=true:=aU h.cl h.lt hb
  obtain rfl:=hc.plain (by decide)
  refine(Xw hE h hN hb).mono fun e w' p=>p.to (fun r hr=>?_) (fun p hw=>?_)
  ·unfold aX bO
   exact bS
  ·unfold aX bO
   exact wrt
 ·replace hb:au t i 0 0 ⟨#[109,97,107,101]⟩=true:=hb
  have n0:=aF hb (b:=⟨#[40]⟩) (lit)
  have n1:=aF hb (b:=⟨#[123]⟩) (lit)
  have hk3:=qX h.cl hb (vL) (ask)
  have v0:((t.text i).toList==[116,114,117,101])=false:=aU h.cl h.lt (aF hb (b:=⟨#[116,114,117,101]⟩) (lit))
  have v1:((t.text i).toList==[102,97,108,115,101])=false:=aU h.cl h.lt (aF hb (b:=⟨#[102,97,108,115,101]⟩) (lit))
  have v2:((t.text i).toList==[98,114,101,97,107])=false:=aU h.cl h.lt (aF hb (b:=⟨#[98,114,101,97,107]⟩) (lit))
  have v3:((t.text i).toList==[110,101,120,116])=false:=aU h.cl h.lt (aF hb (b:=⟨#[110,101,120,116]⟩) (lit))
  have v4:((t.text i).toList==[112,97,110,105,99])=false:=aU h.cl h.lt (aF hb (b:=⟨#[112,97,110,105,99]⟩) (lit))
  have v5:((t.text i).toList==[114,101,116,117,114,110])=false:=aU h.cl h.lt (aF hb (b:=⟨#[114,101,116,117,114,110]⟩) (lit))
  have v6:((t.text i).toList==[105,102])=false:=aU h.cl h.lt (aF hb (b:=⟨#[105,102]⟩) (lit))
  have v7:((t.text i).toList==[109,97,116,99,104])=false:=aU h.cl h.lt (aF hb (b:=⟨#[109,97,116,99,104]⟩) (lit))
  have v8:((t.text i).toList==[119,104,105,108,101])=false:=aU h.cl h.lt (aF hb (b:=⟨#[119,104,105,108,101]⟩) (lit))
  have v9:((t.text i).toList==[108,111,111,112])=false:=aU h.cl h.lt (aF hb (b:=⟨#[108,111,111,112]⟩) (lit))
  have v10:((t.text i).toList==[109,97,107,101])=true:=aU h.cl h.lt hb
  obtain rfl:=hc.plain (by decide)
  refine(adT hT hE h hN).mono fun e w' p=>p.to (fun r hr=>?_) (fun p hw=>?_)
  ·unfold aX bO
   exact bS
  ·unfold aX bO
   exact wrt
 ·replace hb:au t i 0 0 ⟨#[102,110]⟩=true:=hb
  have n0:=aF hb (b:=⟨#[40]⟩) (lit)
  have n1:=aF hb (b:=⟨#[123]⟩) (lit)
  have hk3:=qX h.cl hb (vL) (ask)
  have v0:((t.text i).toList==[116,114,117,101])=false:=aU h.cl h.lt (aF hb (b:=⟨#[116,114,117,101]⟩) (lit))
  have v1:((t.text i).toList==[102,97,108,115,101])=false:=aU h.cl h.lt (aF hb (b:=⟨#[102,97,108,115,101]⟩) (lit))
  have v2:((t.text i).toList==[98,114,101,97,107])=false:=aU h.cl h.lt (aF hb (b:=⟨#[98,114,101,97,107]⟩) (lit))
  have v3:((t.text i).toList==[110,101,120,116])=false:=aU h.cl h.lt (aF hb (b:=⟨#[110,101,120,116]⟩) (lit))
  have v4:((t.text i).toList==[112,97,110,105,99])=false:=aU h.cl h.lt (aF hb (b:=⟨#[112,97,110,105,99]⟩) (lit))
  have v5:((t.text i).toList==[114,101,116,117,114,110])=false:=aU h.cl h.lt (aF hb (b:=⟨#[114,101,116,117,114,110]⟩) (lit))
  have v6:((t.text i).toList==[105,102])=false:=aU h.cl h.lt (aF hb (b:=⟨#[105,102]⟩) (lit))
  have v7:((t.text i).toList==[109,97,116,99,104])=false:=aU h.cl h.lt (aF hb (b:=⟨#[109,97,116,99,104]⟩) (lit))
  have v8:((t.text i).toList==[119,104,105,108,101])=false:=aU h.cl h.lt (aF hb (b:=⟨#[119,104,105,108,101]⟩) (lit))
  have v9:((t.text i).toList==[108,111,111,112])=false:=aU h.cl h.lt (aF hb (b:=⟨#[108,111,111,112]⟩) (lit))
  have v10:((t.text i).toList==[109,97,107,101])=false:=aU h.cl h.lt (aF hb (b:=⟨#[109,97,107,101]⟩) (lit))
  have v11:((t.text i).toList==[102,110])=true:=aU h.cl h.lt hb
  obtain rfl:=hc.plain (by decide)
  refine(Sg hT hB h hN).mono fun e w' p=>p.to (fun r hr=>?_) (fun p hw=>?_)
  ·unfold aX bO
   exact bS
  ·unfold aX bO
   exact wrt
 ·replace hb:au t i 0 0 ⟨#[115,112,97,119,110]⟩=true:=hb
  have n0:=aF hb (b:=⟨#[40]⟩) (lit)
  have n1:=aF hb (b:=⟨#[123]⟩) (lit)
  have hk3:=qX h.cl hb (vL) (ask)
  have v0:((t.text i).toList==[116,114,117,101])=false:=aU h.cl h.lt (aF hb (b:=⟨#[116,114,117,101]⟩) (lit))
  have v1:((t.text i).toList==[102,97,108,115,101])=false:=aU h.cl h.lt (aF hb (b:=⟨#[102,97,108,115,101]⟩) (lit))
  have v2:((t.text i).toList==[98,114,101,97,107])=false:=aU h.cl h.lt (aF hb (b:=⟨#[98,114,101,97,107]⟩) (lit))
  have v3:((t.text i).toList==[110,101,120,116])=false:=aU h.cl h.lt (aF hb (b:=⟨#[110,101,120,116]⟩) (lit))
  have v4:((t.text i).toList==[112,97,110,105,99])=false:=aU h.cl h.lt (aF hb (b:=⟨#[112,97,110,105,99]⟩) (lit))
  have v5:((t.text i).toList==[114,101,116,117,114,110])=false:=aU h.cl h.lt (aF hb (b:=⟨#[114,101,116,117,114,110]⟩) (lit))
  have v6:((t.text i).toList==[105,102])=false:=aU h.cl h.lt (aF hb (b:=⟨#[105,102]⟩) (lit))
  have v7:((t.text i).toList==[109,97,116,99,104])=false:=aU h.cl h.lt (aF hb (b:=⟨#[109,97,116,99,104]⟩) (lit))
  have v8:((t.text i).toList==[119,104,105,108,101])=false:=aU h.cl h.lt (aF hb (b:=⟨#[119,104,105,108,101]⟩) (lit))
  have v9:((t.text i).toList==[108,111,111,112])=false:=aU h.cl h.lt (aF hb (b:=⟨#[108,111,111,112]⟩) (lit))
  have v10:((t.text i).toList==[109,97,107,101])=false:=aU h.cl h.lt (aF hb (b:=⟨#[109,97,107,101]⟩) (lit))
  have v11:((t.text i).toList==[102,110])=false:=aU h.cl h.lt (aF hb (b:=⟨#[102,110]⟩) (lit))
  have v12:((t.text i).toList==[115,112,97,119,110])=true:=aU h.cl h.lt hb
  obtain rfl:=hc.plain (by decide)
  refine(abp hT hB h hN hb).mono fun e w' p=>p.to (fun r hr=>?_) (fun p hw=>?_)
  ·unfold aX bO
   exact bS
  ·unfold aX bO
   exact wrt
 ·replace hb:au t i 0 0 ⟨#[40]⟩=true:=hb
  obtain rfl:=hc.plain (by decide)
  refine(aaR hE h hN hb).mono fun e w' p=>p.to (fun r hr=>?_) (fun p hw=>?_)
  ·replace hr:=Ev.cg (m':=fun n=>bnd (fC t (gG t n 1) ⟨#[41]⟩ n) (fun ks=>ret (jv 22 (t.pos i) ks))) (s':=⟨i+1,0,0⟩) hr (fun n=>rfl)
   unfold aX
   exact bS
  ·replace hw:=Wr.cg (m':=fun n=>bnd (fC t (gG t n 1) ⟨#[41]⟩ n) (fun ks=>ret (jv 22 (t.pos i) ks))) (s':=⟨i+1,0,0⟩) hw (fun n=>rfl)
   unfold aX
   exact wrt
theorem Sn {w:World} {rb tb i:Nat} {cap:Cp} {t:Tk} (h:Rd w rb tb cap t i 0 0) (hk1:((t.kind i:Int)==1)=false) (hk2:((t.kind i:Int)==2)=false) (hn:eH t i (fJ++oD)=none):Wr (fun n=>aX t (gG t n 0) (gG t n 1) (gG t n 3) (gG t n 5) (gG t n 4) n) ⟨i,0,0⟩ (t.pos i):=by
 have n0:au t i 0 0 ⟨#[105,102]⟩=false:=bI hn _ (List.getElem_mem (n:=0) (by decide))
 have n1:au t i 0 0 ⟨#[109,97,116,99,104]⟩=false:=bI hn _ (List.getElem_mem (n:=1) (by decide))
 have n2:au t i 0 0 ⟨#[119,104,105,108,101]⟩=false:=bI hn _ (List.getElem_mem (n:=2) (by decide))
 have n3:au t i 0 0 ⟨#[108,111,111,112]⟩=false:=bI hn _ (List.getElem_mem (n:=3) (by decide))
 have n4:au t i 0 0 ⟨#[123]⟩=false:=bI hn _ (List.getElem_mem (n:=4) (by decide))
 have n5:au t i 0 0 ⟨#[116,114,117,101]⟩=false:=bI hn _ (List.getElem_mem (n:=5) (by decide))
 have n6:au t i 0 0 ⟨#[102,97,108,115,101]⟩=false:=bI hn _ (List.getElem_mem (n:=6) (by decide))
 have n7:au t i 0 0 ⟨#[98,114,101,97,107]⟩=false:=bI hn _ (List.getElem_mem (n:=7) (by decide))
 have n8:au t i 0 0 ⟨#[110,101,120,116]⟩=false:=bI hn _ (List.getElem_mem (n:=8) (by decide))
 have n9:au t i 0 0 ⟨#[112,97,110,105,99]⟩=false:=bI hn _ (List.getElem_mem (n:=9) (by decide))
 have n10:au t i 0 0 ⟨#[114,101,116,117,114,110]⟩=false:=bI hn _ (List.getElem_mem (n:=10) (by decide))
 have n11:au t i 0 0 ⟨#[109,97,107,101]⟩=false:=bI hn _ (List.getElem_mem (n:=11) (by decide))
 have n12:au t i 0 0 ⟨#[102,110]⟩=false:=bI hn _ (List.getElem_mem (n:=12) (by decide))
 have n13:au t i 0 0 ⟨#[115,112,97,119,110]⟩=false:=bI hn _ (List.getElem_mem (n:=13) (by decide))
 have n14:au t i 0 0 ⟨#[40]⟩=false:=bI hn _ (List.getElem_mem (n:=14) (by decide))
 have v0:((t.text i).toList==[116,114,117,101])=false:=aU h.cl h.lt n5
 have v1:((t.text i).toList==[102,97,108,115,101])=false:=aU h.cl h.lt n6
 have v2:((t.text i).toList==[98,114,101,97,107])=false:=aU h.cl h.lt n7
 have v3:((t.text i).toList==[110,101,120,116])=false:=aU h.cl h.lt n8
 have v4:((t.text i).toList==[112,97,110,105,99])=false:=aU h.cl h.lt n9
 have v5:((t.text i).toList==[114,101,116,117,114,110])=false:=aU h.cl h.lt n10
 have v6:((t.text i).toList==[105,102])=false:=aU h.cl h.lt n0
 have v7:((t.text i).toList==[109,97,116,99,104])=false:=aU h.cl h.lt n1
 have v8:((t.text i).toList==[119,104,105,108,101])=false:=aU h.cl h.lt n2
 have v9:((t.text i).toList==[108,111,111,112])=false:=aU h.cl h.lt n3
 have v10:((t.text i).toList==[109,97,107,101])=false:=aU h.cl h.lt n11
 have v11:((t.text i).toList==[102,110])=false:=aU h.cl h.lt n12
 have v12:((t.text i).toList==[115,112,97,119,110])=false:=aU h.cl h.lt n13
 cases hk3:((t.kind i:Int)==3)
 ·unfold aX
  exact wrt
 ·unfold aX bO
  exact wrt
theorem abx {N:Nat}{w:World} {rb tb i:Nat} {cap:Cp} {t:Tk} (h:Rd w rb tb cap t i 0 0) (hT:bH 70 N (fun t n=>gG t n 0)) (hE:bH 81 N (fun t n=>gG t n 1)) (hQ:bH 86 N (fun t n=>gG t n 5)) (hB:bH 75 N (fun t n=>gG t n 3)) (Qp:Fa (N+1)) (hB1:bH 75 (N+1) (fun t n=>gG t n 3)) (hN:t.len - i≤N+1):
 Calls Tryz.prog 239 #[.pointer (some ⟨rb,0,none⟩)] w (aP w rb tb cap t i True (fun n=>aX t (gG t n 0) (gG t n 1) (gG t n 3) (gG t n 5) (gG t n 4) n)):=by
 have hl:=h.l
 have aL:=h.eP
 have jT:=nT
 cases hk1:bf t i 0 0 1
 ·have U6:=aD hk1
  have hk10:((t.kind i:Int)==1)=false:=(fQ h.lt 1).symm.trans hk1
  clear hk1
  cases hk:bf t i 0 0 2
  ·have hk0:((t.kind i:Int)==2)=false:=(fQ h.lt 2).symm.trans hk
   have HK:=aD hk
   clear hk
   go_enter Tryz.func239,Tryz.ntmps239
   have q:=Mf.start h
   go_wp2_with fail
   refine(q.ne' (sz w) (aJ)).lf (jD ·) ?_
   clear q
   intro w1 q
   have F:=q.f1
   have r4:=q.st.rd.r4
   have r5:=q.st.rd.r5
   go_wp2_with fail
   go_region_law (replace q:=q.drew;go_simp;refine(q.alloc (.cells #[.slice (some ⟨cap.a3,0,none⟩) 5 5,.slice (some ⟨cap.a4,0,none⟩) 10 10] 72)).nd (fun _=>abw q.st.rd q.st.rd.t3 xM (by decide) rfl Cq q.st.rd.t4 IX (by decide) rfl IW (fun e w' ts he hc hr=>U7 hT hE hQ hB Qp hB1 hr hN he hc) (fun hn=>Sn h hk10 hk0 hn)) (fun w' p hk hw=>⟨rfl,.inr (Mf.aR (q.alloc _) hk hw)⟩) ?_;clear q F r4 r5;intro w2 x5 i5 y5 hl5 m5 q;have F:=q.f1)
   all_goals
    go_wp2_with fail
    go_light
    exact Mf.rt (q) Tryz.results239 0 (m5)
  ·have hk0:((t.kind i:Int)==2)=true:=(fQ h.lt 2).symm.trans hk
   have HK:=aD hk
   clear hk
   go_enter Tryz.func239,Tryz.ntmps239
   have q:=Mf.start h
   go_wp2_with fail
   refine(q.ne' (sz w) (aJ)).lf (jD ·) ?_
   clear q
   intro w3 q
   have F:=q.f1
   go_wp2_with fail
   refine q.lf (dx · 23) ?_
   clear q F
   intro w4 q
   have F:=q.f1
   go_wp2_with fail
   refine(q.ne' (sz w4) (nk 23 (t.pos i) nl)).nm (AA · 3 (by decide) (by decide)) (fun w' p hk hw=>⟨rfl,.inr ((q.ne' (sz w4) (nk 23 (t.pos i) nl)).aR hk (by unfold aX;exact wrt))⟩) ?_
   clear q F
   intro w5 s3 i3 hs3 hl3 m3 q
   have F:=q.f2
   go_wp2_with fail
   refine(q.jm s3).ln (fun hr=>Pv hT hr (by have:=hr.lt;have:=q.go trivial;omega)) (fun w' p hk hw=>⟨rfl,.inr ((q.jm s3).aR hk (by unfold aX;exact wrt))⟩) ?_
   clear q F
   intro w6 xB xC nE i4 V4 hl4 m4 q
   have F:=q.f2
   have hl5:nE.length≤6001:=by have:=hl4.out.2;have:=q.st.rd.lt;have:=h.good.few;omega
   go_wp2_with fail
   go_light
   exact Mf.rt ((q.fE (.slice xB nE.length xC)).fo 23 (t.pos i) 0 0 s3 (by omega) aL hs3) Tryz.results239 1 (by unfold aX;exact bS)
 ·have hk0:((t.kind i:Int)==1)=true:=(fQ h.lt 1).symm.trans hk1
  have HK:=aD hk1
  clear hk1
  go_enter Tryz.func239,Tryz.ntmps239
  have q:=Mf.start h
  go_wp2_with fail
  refine(q.ne' (sz w) (aJ)).lf (jD ·) ?_
  clear q
  intro w7 q
  have F:=q.f1
  go_wp2_with fail
  refine q.nd (fun hr=>LY hr 20 HK.out) (fun w' p hk hw=>⟨rfl,.inr (q.aR hk (by
   replace hw:=Wr.cg (m':=fun _=>bnd (qh t) (fun n=>seq (dK 1) (ret (nd 20 (t.pos i) n 0 E0 [])))) (s':=⟨i,0,0⟩) hw (fun n=>rfl)
   unfold aX
   exact wrt))⟩) ?_
  clear q F
  intro w8 x5 i5 y5 hl5 m5 q
  have F:=q.f1
  go_wp2_with fail
  go_light
  exact Mf.rt (q) Tryz.results239 0 (by
   replace m5:=Ev.cg (m':=fun _=>bnd (qh t) (fun n=>seq (dK 1) (ret (nd 20 (t.pos i) n 0 E0 [])))) (s':=⟨i,0,0⟩) m5 (fun n=>rfl)
   unfold aX
   exact bS)
theorem aby {N:Nat} (hT:bH 70 N (fun t n=>gG t n 0)) (hE:bH 81 N (fun t n=>gG t n 1)) (hQ:bH 86 N (fun t n=>gG t n 5)) (hB:bH 75 N (fun t n=>gG t n 3)) (Qp:Fa (N+1)) (hB1:bH 75 (N+1) (fun t n=>gG t n 3)):bH 239 (N+1) (fun t n=>gG t n 6):=fun h hN=>(abx h hT hE hQ hB Qp hB1 hN).mono fun e w' p=>p.to (fun r hr=>hr.up (fun _=>rfl)) (fun p hw=>hw.up (fun _=>rfl))
section
variable {w:World} {rb tb i:Nat} {cap:Cp} {t:Tk}
theorem Mf.pm {w W:World} {rb tb i j:Nat} {cap:Cp} {t:Tk} {g:Prop} {L:List (Nat × Array Value)} {T:List (List Value)} {kv:Value} {vs:List (List Value)} {X V:List (List Nr)} {k p n m:Int} {s:ByteArray} {v:Value} {y:List Nr} (q:Mf w rb tb cap t i g W j L ((ah k p n m s v).toList::T) kv vs (y::X) V) (p2 m2:Int) (hp:0≤p2∧p2≤7000):Mf w rb tb cap t i g W j L ((ah k p2 n m2 s v).toList::T) kv vs (xE p2 m2 y::X) V:=by
 obtain⟨h,ha⟩:=q.z.all
 refine⟨⟨q.z.st,q.z.le,q.z.ok,q.z.go,q.z.blk,q.z.nd,q.z.row,q.z.qo,h,fun x hx=>?_⟩,(Fl.pm q.fT.head).cons q.fT.tail,q.fv⟩
 rcases hx with hx|hx
 ·exact ha x (.inl hx)
 ·rcases List.mem_cons.1 hx with rfl|hx
  ·have h1:=ha _ (.inr (List.mem_cons_self ..))
   match h,h1 with
   |0,h1=>exact absurd h1 (fun x=>x)
   |h+1,⟨kind,pos,n',m',name,kv',vs',e1,e2,e3,e3',e4,e5,e6,e7⟩=>
    simp[ah] at e1
    obtain⟨rfl,rfl,rfl,rfl,rfl,rfl⟩:=e1
    exact⟨_,_,_,_,_,_,vs',rfl,e2,hp,e3',e4,e5,e6,fun e=>e.elim⟩
  ·exact ha x (.inr (List.mem_cons_of_mem _ hx))
theorem vC (hT:∀N,bH 70 N (fun t n=>gG t n 0)) (hB:∀N,bH 75 N (fun t n=>gG t n 3)) {w:World} {rb tb i:Nat} {cap:Cp} {t:Tk} (h:Rd w rb tb cap t i 0 0) {e:gZ} {ts:Array Value} (he:eH t i qb=some e) (hc:nQ w cap.bd e ts):Calls Tryz.prog e.fn (#[.pointer (some ⟨rb,0,none⟩)]++ts) w (aP w rb tb cap t i True (fun n=>oo t (gG t n 0) (gG t n 3) n)):=by
 have hb:=vB he
 have hm:=pO he
 have hlt:=(iY h.good h.lt hb).2
 have hN:t.len - i≤t.len+1:=by omega
 clear he
 simp only[qb,List.mem_cons,List.not_mem_nil,or_false] at hm
 rcases hm with rfl|rfl|rfl|rfl
 ·replace hb:au t i 0 0 ⟨#[115,116,114,117,99,116]⟩=true:=hb
  obtain rfl:=hc.plain (by decide)
  refine(Xz (hT t.len) h hN hb).mono fun e w' p=>p.to (fun r hr=>?_) (fun p hw=>?_)
  all_goals
   have n1:=aF hb (b:=⟨#[101,110,117,109]⟩) (lit)
   have n2:=aF hb (b:=⟨#[116,114,97,105,116]⟩) (lit)
   have hbb:=hb
  ·replace hr:=Ev.cg (m':=fun n=>jS t (gG t n 0) (t.pos i) 0 n) (s':=⟨i+1,0,0⟩) hr (fun n=>rfl)
   unfold oo
   exact bS
  ·replace hw:=Wr.cg (m':=fun n=>jS t (gG t n 0) (t.pos i) 0 n) (s':=⟨i+1,0,0⟩) hw (fun n=>rfl)
   unfold oo
   exact wrt
 ·replace hb:au t i 0 0 ⟨#[101,110,117,109]⟩=true:=hb
  obtain rfl:=hc.plain (by decide)
  refine(adX (hT t.len) h hN hb).mono fun e w' p=>p.to (fun r hr=>?_) (fun p hw=>?_)
  all_goals
   have n0:=aF hb (b:=⟨#[115,116,114,117,99,116]⟩) (lit)
   have n2:=aF hb (b:=⟨#[116,114,97,105,116]⟩) (lit)
   have hbb:=hb
  ·replace hr:=Ev.cg (m':=fun n=>lX t (gG t n 0) (t.pos i) 0 n) (s':=⟨i+1,0,0⟩) hr (fun n=>rfl)
   unfold oo
   exact bS
  ·replace hw:=Wr.cg (m':=fun n=>lX t (gG t n 0) (t.pos i) 0 n) (s':=⟨i+1,0,0⟩) hw (fun n=>rfl)
   unfold oo
   exact wrt
 ·replace hb:au t i 0 0 ⟨#[116,114,97,105,116]⟩=true:=hb
  obtain rfl:=hc.plain (by decide)
  refine(abv (hT t.len) h hN hb).mono fun e w' p=>p.to (fun r hr=>?_) (fun p hw=>?_)
  all_goals
   have n0:=aF hb (b:=⟨#[115,116,114,117,99,116]⟩) (lit)
   have n1:=aF hb (b:=⟨#[101,110,117,109]⟩) (lit)
   have hbb:=hb
  ·replace hr:=Ev.cg (m':=fun n=>nH t (gG t n 0) (t.pos i) 0 n) (s':=⟨i+1,0,0⟩) hr (fun n=>rfl)
   unfold oo
   exact bS
  ·replace hw:=Wr.cg (m':=fun n=>nH t (gG t n 0) (t.pos i) 0 n) (s':=⟨i+1,0,0⟩) hw (fun n=>rfl)
   unfold oo
   exact wrt
 ·replace hb:au t i 0 0 ⟨#[102,110]⟩=true:=hb
  obtain rfl:=hc.plain (by decide)
  refine(XB (hT t.len) (hB t.len) h hN).mono fun e w' p=>p.to (fun r hr=>?_) (fun p hw=>?_)
  all_goals
   have n0:=aF hb (b:=⟨#[115,116,114,117,99,116]⟩) (lit)
   have n1:=aF hb (b:=⟨#[101,110,117,109]⟩) (lit)
   have n2:=aF hb (b:=⟨#[116,114,97,105,116]⟩) (lit)
   have hbb:=hb
  ·unfold oo
   exact bS
  ·unfold oo
   exact wrt
theorem pE (h:Rd w rb tb cap t i 0 0) (hn:eH t i qb=none):Wr (fun n=>oo t (gG t n 0) (gG t n 3) n) ⟨i,0,0⟩ (t.pos i):=by
 have n0:au t i 0 0 ⟨#[115,116,114,117,99,116]⟩=false:=bI hn _ (List.getElem_mem (n:=0) (by decide))
 have n1:au t i 0 0 ⟨#[101,110,117,109]⟩=false:=bI hn _ (List.getElem_mem (n:=1) (by decide))
 have n2:au t i 0 0 ⟨#[116,114,97,105,116]⟩=false:=bI hn _ (List.getElem_mem (n:=2) (by decide))
 have n3:au t i 0 0 ⟨#[102,110]⟩=false:=bI hn _ (List.getElem_mem (n:=3) (by decide))
 have hf:∀n,bnd (dh t) (fun p=>seq (aM t ⟨#[102,110]⟩) (bnd (bG t) (fun s=>bnd (pW t true n) (fun g=>bnd (iw t (gG t n 0) n) (fun ps=>bnd (dQ t (gG t n 0)) (fun y=>ret (p,s,g::(ps++[y]),(ps.length:Int))))))))=fM t (gG t n 0) true n:=fun n=>sI.symm
 have hw:Wr (fun n=>fM t (gG t n 0) true n) ⟨i,0,0⟩ (t.pos i):=by
  rw[show(fun n=>fM t (gG t n 0) true n)=(fun n=>lQ t (gG t n 0) true n) from funext fun n=>sI]
  unfold lQ pW
  exact wrt
 have hw2:Wr (fun n=>zF t (gG t n 0) (gG t n 3) true n) ⟨i,0,0⟩ (t.pos i):=Wr.fst hw (fun _ _=>aA)
 unfold oo
 exact wrt
theorem qd {t:Tk} {i:Nat} {s:ByteArray} {l:List UInt8} {b:Bool} (hc:Clean t) (hi:i+1<t.len) (hb:au t i 0 1 s=b) (hs:s∈gL:=by exact ask) (hl:s.toList=l:=by simp only[Lib.toList_data]):((t.text (i+1)).toList==l)=b:=by
 rw[←hl,←Gd hc hi hs]
 exact hb
theorem vZ {t:Tk} {i:Nat} {s:ByteArray} (hb:au t i 0 0 s=true):i<t.len:=by
 unfold au at hb
 simp only[Bool.and_eq_true,decide_eq_true_eq] at hb
 simpa using hb.2.1
theorem sN (x0 x1 x2 x3:Value) (w:World):(Instr.field 67 (.agg #[x0,x1,x2,x3]) 1).run Tryz.prog w=.ok x1 w:=by kernel_rfl
theorem sS (x0 x1 x2 x3:Value) (w:World):(Instr.field 67 (.agg #[x0,x1,x2,x3]) 2).run Tryz.prog w=.ok x2 w:=by kernel_rfl
end
end Go.Proofs.YtdplogkmkgekdaaGreatDoor.Pj
