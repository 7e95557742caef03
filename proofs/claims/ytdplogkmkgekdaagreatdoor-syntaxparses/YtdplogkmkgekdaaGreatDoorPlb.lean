/- The project's parser: things. -/
import Derived.Test.YtdplogkmkgekdaaGreatDoorPkztc
import Derived.Test.YtdplogkmkgekdaaGreatDoorPkzre
import Derived.Test.YtdplogkmkgekdaaGreatDoorPkzh
import Derived.Test.YtdplogkmkgekdaaGreatDoorPkzw
set_option linter.all false
set_option maxRecDepth 100000
set_option maxHeartbeats 4000000
namespace Go.Proofs.YtdplogkmkgekdaaGreatDoor.Pj
open Go.RowKit
section
variable {w w':World} {rb tb i:Nat} {cap:Cp} {t:Tk} {must:Prop} {m mm:Nat→GP (List Nr)} {e:Ending}
theorem txt_is {s:ByteArray} {l:List UInt8} {b:Bool} (hc:Clean t) (hi:i<t.len) (hb:isB t i 0 0 s=b) (hs:s∈askS:=by exact ask) (hl:s.toList=l:=by simp only[Lib.toList_data]):((t.text i).toList==l)=b:=by
 rw[←hl,←isB_text hc hi hs]
 exact hb
theorem word3 {s:ByteArray} (hc:Clean t) (hb:isB t i 0 0 s=true) (hs:s∈askW) (hs2:s∈askS):((t.kind i:Int)==3)=true:=by
 have e:=isB_eq hb
 rcases hc i with(⟨_,h2⟩|h)|h
 ·exact absurd (congrArg ByteArray.toList e) (h2 s hs)
 ·simp[h]
 ·exact absurd (congrArg ByteArray.toList e) (h s hs2)
theorem askw {s:ByteArray} (h:s∈askW:=by unfold askW;repeat(first|with_reducible exact List.Mem.head _|refine List.Mem.tail _ ?_)):s∈askW:=h
theorem tabs2 {W:World} {bd a n a2 n2:Nat} {es es2:List Ent} (hbd:bd≤W.heap.size) (ha:TabW W bd a es) (hask:∀e∈es,e.txt∈askS) (hl:es.length≤10) (hn:n=es.length) (ha2:TabW W bd a2 es2) (hask2:∀e∈es2,e.txt∈askS) (hl2:es2.length≤10) (hn2:n2=es2.length):TabsW (W.alloc (.cells #[.slice (some ⟨a,0,none⟩) n n,.slice (some ⟨a2,0,none⟩) n2 n2] 72)) bd W.heap.size [(a,es),(a2,es2)]:=by
 subst hn hn2
 refine⟨_,heap_alloc_new W _,fun k a3 es3 h=>?_⟩
 match k with
 |0=>
  obtain⟨rfl,rfl⟩:a=a3∧es=es3:=by simpa using h
  exact⟨rfl,ha.of (fun k hk=>Below.heap_alloc _ _ _ (by omega)),hask,hl⟩
 |1=>
  obtain⟨rfl,rfl⟩:a2=a3∧es2=es3:=by simpa using h
  exact⟨rfl,ha2.of (fun k hk=>Below.heap_alloc _ _ _ (by omega)),hask2,hl2⟩
 |k+2=>simp at h
theorem read2P {W:World} {n a n2 a2:Nat} {es es2:List Ent} (h:Rd W rb tb cap t i 0 0) (ha:TabW W cap.bd a es) (hask:∀e∈es,e.txt∈askS) (hl:es.length≤10) (hn:n=es.length) (HI:∀e∈es,Ein e.fn) (ha2:TabW W cap.bd a2 es2) (hask2:∀e∈es2,e.txt∈askS) (hl2:es2.length≤10) (hn2:n2=es2.length) (HI2:∀e∈es2,Ein e.fn) (H:∀e w' ts,firstB t i (es++es2)=some e→EntC w' cap.bd e ts→Rd w' rb tb cap t i 0 0→Calls Tryz.prog e.fn (#[.pointer (some ⟨rb,0,none⟩)]++ts) w' (NodeP w' rb tb cap t i True m)) (H0:firstB t i (es++es2)=none→Wr m ⟨i,0,0⟩ (t.pos i)):
 Calls Tryz.prog 151 #[.pointer (some ⟨rb,0,none⟩),.slice (some ⟨W.heap.size,0,none⟩) 2 2] (W.alloc (.cells #[.slice (some ⟨a,0,none⟩) n n,.slice (some ⟨a2,0,none⟩) n2 n2] 72)) (NodeP (W.alloc (.cells #[.slice (some ⟨a,0,none⟩) n n,.slice (some ⟨a2,0,none⟩) n2 n2] 72)) rb tb cap t i True m):=by
 have e1:([(a,es),(a2,es2)]:List (Nat × List Ent)).flatMap (·.2)=es++es2:=by simp
 refine readP (h.alloc _) (tabs2 (by have:=h.bl;have:=h.l;omega) ha hask hl hn ha2 hask2 hl2 hn2) rfl (by decide) ?_ ?_ ?_
 ·rw[e1];exact fun e he=>(List.mem_append.1 he).elim (HI e) (HI2 e)
 ·rw[e1];exact H
 ·rw[e1];exact H0
end
theorem exprD {N:Nat} (hT:rdP 70 N (fun t n=>gG t n 0)) (hE:rdP 81 N (fun t n=>gG t n 1)) (hQ:rdP 86 N (fun t n=>gG t n 5)) (hB:rdP 75 N (fun t n=>gG t n 3)) (hJ1:rdIf (N+1)) (hB1:rdP 75 (N+1) (fun t n=>gG t n 3)) {w:World} {rb tb i:Nat} {cap:Cp} {t:Tk} (h:Rd w rb tb cap t i 0 0) (hN:t.len - i≤N+1) {e:Ent} {ts:Array Value} (he:firstB t i (esAlone++esOthers)=some e) (hc:EntC w cap.bd e ts):Calls Tryz.prog e.fn (#[.pointer (some ⟨rb,0,none⟩)]++ts) w (NodeP w rb tb cap t i True (fun n=>gPrimary t (gG t n 0) (gG t n 1) (gG t n 3) (gG t n 5) (gG t n 4) n)):=by
 have hb:=firstB_is he
 have hm:=firstB_mem he
 have hlt:=(isB_lt h.good h.lt hb).2
 clear he
 have hk1:((t.kind i:Int)==1)=false:=(kindB_eq h.lt 1).symm.trans (isB_kind hb (by decide) (by decide))
 have hk2:((t.kind i:Int)==2)=false:=(kindB_eq h.lt 2).symm.trans (isB_kind hb (by decide) (by decide))
 simp only[esAlone,esOthers,List.cons_append,List.nil_append,List.mem_cons,List.not_mem_nil,or_false] at hm
 rcases hm with rfl|rfl|rfl|rfl|rfl|rfl|rfl|rfl|rfl|rfl|rfl|rfl|rfl|rfl|rfl
 ·replace hb:isB t i 0 0 ⟨#[105,102]⟩=true:=hb
  have n0:=isB_ne hb (b:=⟨#[40]⟩) (lit)
  have n1:=isB_ne hb (b:=⟨#[123]⟩) (lit)
  have hk3:=word3 h.cl hb (askw) (ask)
  have v0:((t.text i).toList==[116,114,117,101])=false:=txt_is h.cl h.lt (isB_ne hb (b:=⟨#[116,114,117,101]⟩) (lit))
  have v1:((t.text i).toList==[102,97,108,115,101])=false:=txt_is h.cl h.lt (isB_ne hb (b:=⟨#[102,97,108,115,101]⟩) (lit))
  have v2:((t.text i).toList==[98,114,101,97,107])=false:=txt_is h.cl h.lt (isB_ne hb (b:=⟨#[98,114,101,97,107]⟩) (lit))
  have v3:((t.text i).toList==[110,101,120,116])=false:=txt_is h.cl h.lt (isB_ne hb (b:=⟨#[110,101,120,116]⟩) (lit))
  have v4:((t.text i).toList==[112,97,110,105,99])=false:=txt_is h.cl h.lt (isB_ne hb (b:=⟨#[112,97,110,105,99]⟩) (lit))
  have v5:((t.text i).toList==[114,101,116,117,114,110])=false:=txt_is h.cl h.lt (isB_ne hb (b:=⟨#[114,101,116,117,114,110]⟩) (lit))
  have v6:((t.text i).toList==[105,102])=true:=txt_is h.cl h.lt hb
  obtain rfl:=hc.plain (by decide)
  refine(hJ1 h hN hb).mono fun e w' p=>p.to (fun r hr=>?_) (fun p hw=>?_)
  ·unfold gPrimary gWorded
   exact evt
  ·unfold gPrimary gWorded
   exact wrt
 ·replace hb:isB t i 0 0 ⟨#[109,97,116,99,104]⟩=true:=hb
  have n0:=isB_ne hb (b:=⟨#[40]⟩) (lit)
  have n1:=isB_ne hb (b:=⟨#[123]⟩) (lit)
  have hk3:=word3 h.cl hb (askw) (ask)
  have v0:((t.text i).toList==[116,114,117,101])=false:=txt_is h.cl h.lt (isB_ne hb (b:=⟨#[116,114,117,101]⟩) (lit))
  have v1:((t.text i).toList==[102,97,108,115,101])=false:=txt_is h.cl h.lt (isB_ne hb (b:=⟨#[102,97,108,115,101]⟩) (lit))
  have v2:((t.text i).toList==[98,114,101,97,107])=false:=txt_is h.cl h.lt (isB_ne hb (b:=⟨#[98,114,101,97,107]⟩) (lit))
  have v3:((t.text i).toList==[110,101,120,116])=false:=txt_is h.cl h.lt (isB_ne hb (b:=⟨#[110,101,120,116]⟩) (lit))
  have v4:((t.text i).toList==[112,97,110,105,99])=false:=txt_is h.cl h.lt (isB_ne hb (b:=⟨#[112,97,110,105,99]⟩) (lit))
  have v5:((t.text i).toList==[114,101,116,117,114,110])=false:=txt_is h.cl h.lt (isB_ne hb (b:=⟨#[114,101,116,117,114,110]⟩) (lit))
  have v6:((t.text i).toList==[105,102])=false:=txt_is h.cl h.lt (isB_ne hb (b:=⟨#[105,102]⟩) (lit))
  have v7:((t.text i).toList==[109,97,116,99,104])=true:=txt_is h.cl h.lt hb
  obtain rfl:=hc.plain (by decide)
  refine(matchP hE hQ h hN).mono fun e w' p=>p.to (fun r hr=>?_) (fun p hw=>?_)
  ·unfold gPrimary gWorded
   exact evt
  ·unfold gPrimary gWorded
   exact wrt
 ·replace hb:isB t i 0 0 ⟨#[119,104,105,108,101]⟩=true:=hb
  have n0:=isB_ne hb (b:=⟨#[40]⟩) (lit)
  have n1:=isB_ne hb (b:=⟨#[123]⟩) (lit)
  have hk3:=word3 h.cl hb (askw) (ask)
  have v0:((t.text i).toList==[116,114,117,101])=false:=txt_is h.cl h.lt (isB_ne hb (b:=⟨#[116,114,117,101]⟩) (lit))
  have v1:((t.text i).toList==[102,97,108,115,101])=false:=txt_is h.cl h.lt (isB_ne hb (b:=⟨#[102,97,108,115,101]⟩) (lit))
  have v2:((t.text i).toList==[98,114,101,97,107])=false:=txt_is h.cl h.lt (isB_ne hb (b:=⟨#[98,114,101,97,107]⟩) (lit))
  have v3:((t.text i).toList==[110,101,120,116])=false:=txt_is h.cl h.lt (isB_ne hb (b:=⟨#[110,101,120,116]⟩) (lit))
  have v4:((t.text i).toList==[112,97,110,105,99])=false:=txt_is h.cl h.lt (isB_ne hb (b:=⟨#[112,97,110,105,99]⟩) (lit))
  have v5:((t.text i).toList==[114,101,116,117,114,110])=false:=txt_is h.cl h.lt (isB_ne hb (b:=⟨#[114,101,116,117,114,110]⟩) (lit))
  have v6:((t.text i).toList==[105,102])=false:=txt_is h.cl h.lt (isB_ne hb (b:=⟨#[105,102]⟩) (lit))
  have v7:((t.text i).toList==[109,97,116,99,104])=false:=txt_is h.cl h.lt (isB_ne hb (b:=⟨#[109,97,116,99,104]⟩) (lit))
  have v8:((t.text i).toList==[119,104,105,108,101])=true:=txt_is h.cl h.lt hb
  obtain rfl:=hc.plain (by decide)
  refine(whileP hE hB h hN hb).mono fun e w' p=>p.to (fun r hr=>?_) (fun p hw=>?_)
  ·unfold gPrimary gWorded
   exact evt
  ·unfold gPrimary gWorded
   exact wrt
 ·replace hb:isB t i 0 0 ⟨#[108,111,111,112]⟩=true:=hb
  have n0:=isB_ne hb (b:=⟨#[40]⟩) (lit)
  have n1:=isB_ne hb (b:=⟨#[123]⟩) (lit)
  have hk3:=word3 h.cl hb (askw) (ask)
  have v0:((t.text i).toList==[116,114,117,101])=false:=txt_is h.cl h.lt (isB_ne hb (b:=⟨#[116,114,117,101]⟩) (lit))
  have v1:((t.text i).toList==[102,97,108,115,101])=false:=txt_is h.cl h.lt (isB_ne hb (b:=⟨#[102,97,108,115,101]⟩) (lit))
  have v2:((t.text i).toList==[98,114,101,97,107])=false:=txt_is h.cl h.lt (isB_ne hb (b:=⟨#[98,114,101,97,107]⟩) (lit))
  have v3:((t.text i).toList==[110,101,120,116])=false:=txt_is h.cl h.lt (isB_ne hb (b:=⟨#[110,101,120,116]⟩) (lit))
  have v4:((t.text i).toList==[112,97,110,105,99])=false:=txt_is h.cl h.lt (isB_ne hb (b:=⟨#[112,97,110,105,99]⟩) (lit))
  have v5:((t.text i).toList==[114,101,116,117,114,110])=false:=txt_is h.cl h.lt (isB_ne hb (b:=⟨#[114,101,116,117,114,110]⟩) (lit))
  have v6:((t.text i).toList==[105,102])=false:=txt_is h.cl h.lt (isB_ne hb (b:=⟨#[105,102]⟩) (lit))
  have v7:((t.text i).toList==[109,97,116,99,104])=false:=txt_is h.cl h.lt (isB_ne hb (b:=⟨#[109,97,116,99,104]⟩) (lit))
  have v8:((t.text i).toList==[119,104,105,108,101])=false:=txt_is h.cl h.lt (isB_ne hb (b:=⟨#[119,104,105,108,101]⟩) (lit))
  have v9:((t.text i).toList==[108,111,111,112])=true:=txt_is h.cl h.lt hb
  obtain rfl:=hc.plain (by decide)
  refine(loopP hB h hN hb).mono fun e w' p=>p.to (fun r hr=>?_) (fun p hw=>?_)
  ·unfold gPrimary gWorded
   exact evt
  ·unfold gPrimary gWorded
   exact wrt
 ·replace hb:isB t i 0 0 ⟨#[123]⟩=true:=hb
  have n0:=isB_ne hb (b:=⟨#[40]⟩) (lit)
  obtain rfl:=hc.plain (by decide)
  refine(hB1 h hN).mono fun e w' p=>p.to (fun r hr=>?_) (fun p hw=>?_)
  ·unfold gPrimary
   exact evt
  ·unfold gPrimary
   exact wrt
 ·replace hb:isB t i 0 0 ⟨#[116,114,117,101]⟩=true:=hb
  have n0:=isB_ne hb (b:=⟨#[40]⟩) (lit)
  have n1:=isB_ne hb (b:=⟨#[123]⟩) (lit)
  have hk3:=word3 h.cl hb (List.mem_cons_self ..) (ask)
  have v0:((t.text i).toList==[116,114,117,101])=true:=txt_is h.cl h.lt hb
  obtain⟨b1,b2,l1,l2,rfl,c1,c2⟩:=hc.bare rfl
  refine(bareP h (by have:=h.bl;omega) (by have:=h.bl;omega) c1 c2 hlt).mono fun e w' p=>p.to (fun r hr=>?_) (fun p hw=>?_)
  ·replace hr:Ev (fun _=>seq (gAdd 1) (ret (nd 21 (t.pos i) 1 0 E0 []))) ⟨i,0,0⟩ r:=hr
   unfold gPrimary gWorded
   exact evt
  ·replace hw:Wr (fun _=>seq (gAdd 1) (ret (nd 21 (t.pos i) 1 0 E0 []))) ⟨i,0,0⟩ p:=hw
   unfold gPrimary gWorded
   exact wrt
 ·replace hb:isB t i 0 0 ⟨#[102,97,108,115,101]⟩=true:=hb
  have n0:=isB_ne hb (b:=⟨#[40]⟩) (lit)
  have n1:=isB_ne hb (b:=⟨#[123]⟩) (lit)
  have hk3:=word3 h.cl hb (askw) (ask)
  have v0:((t.text i).toList==[116,114,117,101])=false:=txt_is h.cl h.lt (isB_ne hb (b:=⟨#[116,114,117,101]⟩) (lit))
  have v1:((t.text i).toList==[102,97,108,115,101])=true:=txt_is h.cl h.lt hb
  obtain⟨b1,b2,l1,l2,rfl,c1,c2⟩:=hc.bare rfl
  refine(bareP h (by have:=h.bl;omega) (by have:=h.bl;omega) c1 c2 hlt).mono fun e w' p=>p.to (fun r hr=>?_) (fun p hw=>?_)
  ·replace hr:Ev (fun _=>seq (gAdd 1) (ret (nd 21 (t.pos i) 0 0 E0 []))) ⟨i,0,0⟩ r:=hr
   unfold gPrimary gWorded
   exact evt
  ·replace hw:Wr (fun _=>seq (gAdd 1) (ret (nd 21 (t.pos i) 0 0 E0 []))) ⟨i,0,0⟩ p:=hw
   unfold gPrimary gWorded
   exact wrt
 ·replace hb:isB t i 0 0 ⟨#[98,114,101,97,107]⟩=true:=hb
  have n0:=isB_ne hb (b:=⟨#[40]⟩) (lit)
  have n1:=isB_ne hb (b:=⟨#[123]⟩) (lit)
  have hk3:=word3 h.cl hb (askw) (ask)
  have v0:((t.text i).toList==[116,114,117,101])=false:=txt_is h.cl h.lt (isB_ne hb (b:=⟨#[116,114,117,101]⟩) (lit))
  have v1:((t.text i).toList==[102,97,108,115,101])=false:=txt_is h.cl h.lt (isB_ne hb (b:=⟨#[102,97,108,115,101]⟩) (lit))
  have v2:((t.text i).toList==[98,114,101,97,107])=true:=txt_is h.cl h.lt hb
  obtain⟨b1,b2,l1,l2,rfl,c1,c2⟩:=hc.bare rfl
  refine(bareP h (by have:=h.bl;omega) (by have:=h.bl;omega) c1 c2 hlt).mono fun e w' p=>p.to (fun r hr=>?_) (fun p hw=>?_)
  ·replace hr:Ev (fun _=>seq (gAdd 1) (ret (nd 38 (t.pos i) 0 0 E0 []))) ⟨i,0,0⟩ r:=hr
   unfold gPrimary gWorded
   exact evt
  ·replace hw:Wr (fun _=>seq (gAdd 1) (ret (nd 38 (t.pos i) 0 0 E0 []))) ⟨i,0,0⟩ p:=hw
   unfold gPrimary gWorded
   exact wrt
 ·replace hb:isB t i 0 0 ⟨#[110,101,120,116]⟩=true:=hb
  have n0:=isB_ne hb (b:=⟨#[40]⟩) (lit)
  have n1:=isB_ne hb (b:=⟨#[123]⟩) (lit)
  have hk3:=word3 h.cl hb (askw) (ask)
  have v0:((t.text i).toList==[116,114,117,101])=false:=txt_is h.cl h.lt (isB_ne hb (b:=⟨#[116,114,117,101]⟩) (lit))
  have v1:((t.text i).toList==[102,97,108,115,101])=false:=txt_is h.cl h.lt (isB_ne hb (b:=⟨#[102,97,108,115,101]⟩) (lit))
  have v2:((t.text i).toList==[98,114,101,97,107])=false:=txt_is h.cl h.lt (isB_ne hb (b:=⟨#[98,114,101,97,107]⟩) (lit))
  have v3:((t.text i).toList==[110,101,120,116])=true:=txt_is h.cl h.lt hb
  obtain⟨b1,b2,l1,l2,rfl,c1,c2⟩:=hc.bare rfl
  refine(bareP h (by have:=h.bl;omega) (by have:=h.bl;omega) c1 c2 hlt).mono fun e w' p=>p.to (fun r hr=>?_) (fun p hw=>?_)
  ·replace hr:Ev (fun _=>seq (gAdd 1) (ret (nd 39 (t.pos i) 0 0 E0 []))) ⟨i,0,0⟩ r:=hr
   unfold gPrimary gWorded
   exact evt
  ·replace hw:Wr (fun _=>seq (gAdd 1) (ret (nd 39 (t.pos i) 0 0 E0 []))) ⟨i,0,0⟩ p:=hw
   unfold gPrimary gWorded
   exact wrt
 ·replace hb:isB t i 0 0 ⟨#[112,97,110,105,99]⟩=true:=hb
  have n0:=isB_ne hb (b:=⟨#[40]⟩) (lit)
  have n1:=isB_ne hb (b:=⟨#[123]⟩) (lit)
  have hk3:=word3 h.cl hb (askw) (ask)
  have v0:((t.text i).toList==[116,114,117,101])=false:=txt_is h.cl h.lt (isB_ne hb (b:=⟨#[116,114,117,101]⟩) (lit))
  have v1:((t.text i).toList==[102,97,108,115,101])=false:=txt_is h.cl h.lt (isB_ne hb (b:=⟨#[102,97,108,115,101]⟩) (lit))
  have v2:((t.text i).toList==[98,114,101,97,107])=false:=txt_is h.cl h.lt (isB_ne hb (b:=⟨#[98,114,101,97,107]⟩) (lit))
  have v3:((t.text i).toList==[110,101,120,116])=false:=txt_is h.cl h.lt (isB_ne hb (b:=⟨#[110,101,120,116]⟩) (lit))
  have v4:((t.text i).toList==[112,97,110,105,99])=true:=txt_is h.cl h.lt hb
  obtain⟨b1,b2,l1,l2,rfl,c1,c2⟩:=hc.bare rfl
  refine(bareP h (by have:=h.bl;omega) (by have:=h.bl;omega) c1 c2 hlt).mono fun e w' p=>p.to (fun r hr=>?_) (fun p hw=>?_)
  ·replace hr:Ev (fun _=>seq (gAdd 1) (ret (nd 41 (t.pos i) 0 0 E0 []))) ⟨i,0,0⟩ r:=hr
   unfold gPrimary gWorded
   exact evt
  ·replace hw:Wr (fun _=>seq (gAdd 1) (ret (nd 41 (t.pos i) 0 0 E0 []))) ⟨i,0,0⟩ p:=hw
   unfold gPrimary gWorded
   exact wrt
 ·replace hb:isB t i 0 0 ⟨#[114,101,116,117,114,110]⟩=true:=hb
  have n0:=isB_ne hb (b:=⟨#[40]⟩) (lit)
  have n1:=isB_ne hb (b:=⟨#[123]⟩) (lit)
  have hk3:=word3 h.cl hb (askw) (ask)
  have v0:((t.text i).toList==[116,114,117,101])=false:=txt_is h.cl h.lt (isB_ne hb (b:=⟨#[116,114,117,101]⟩) (lit))
  have v1:((t.text i).toList==[102,97,108,115,101])=false:=txt_is h.cl h.lt (isB_ne hb (b:=⟨#[102,97,108,115,101]⟩) (lit))
  have v2:((t.text i).toList==[98,114,101,97,107])=false:=txt_is h.cl h.lt (isB_ne hb (b:=⟨#[98,114,101,97,107]⟩) (lit))
  have v3:((t.text i).toList==[110,101,120,116])=false:=txt_is h.cl h.lt (isB_ne hb (b:=⟨#[110,101,120,116]⟩) (lit))
  have v4:((t.text i).toList==[112,97,110,105,99])=false:=txt_is h.cl h.lt (isB_ne hb (b:=⟨#[112,97,110,105,99]⟩) (lit))
  have v5:((t.text i).toList==[114,101,116,117,114,110])=true:=txt_is h.cl h.lt hb
  obtain rfl:=hc.plain (by decide)
  refine(returnP hE h hN hb).mono fun e w' p=>p.to (fun r hr=>?_) (fun p hw=>?_)
  ·unfold gPrimary gWorded
   exact evt
  ·unfold gPrimary gWorded
   exact wrt
 ·replace hb:isB t i 0 0 ⟨#[109,97,107,101]⟩=true:=hb
  have n0:=isB_ne hb (b:=⟨#[40]⟩) (lit)
  have n1:=isB_ne hb (b:=⟨#[123]⟩) (lit)
  have hk3:=word3 h.cl hb (askw) (ask)
  have v0:((t.text i).toList==[116,114,117,101])=false:=txt_is h.cl h.lt (isB_ne hb (b:=⟨#[116,114,117,101]⟩) (lit))
  have v1:((t.text i).toList==[102,97,108,115,101])=false:=txt_is h.cl h.lt (isB_ne hb (b:=⟨#[102,97,108,115,101]⟩) (lit))
  have v2:((t.text i).toList==[98,114,101,97,107])=false:=txt_is h.cl h.lt (isB_ne hb (b:=⟨#[98,114,101,97,107]⟩) (lit))
  have v3:((t.text i).toList==[110,101,120,116])=false:=txt_is h.cl h.lt (isB_ne hb (b:=⟨#[110,101,120,116]⟩) (lit))
  have v4:((t.text i).toList==[112,97,110,105,99])=false:=txt_is h.cl h.lt (isB_ne hb (b:=⟨#[112,97,110,105,99]⟩) (lit))
  have v5:((t.text i).toList==[114,101,116,117,114,110])=false:=txt_is h.cl h.lt (isB_ne hb (b:=⟨#[114,101,116,117,114,110]⟩) (lit))
  have v6:((t.text i).toList==[105,102])=false:=txt_is h.cl h.lt (isB_ne hb (b:=⟨#[105,102]⟩) (lit))
  have v7:((t.text i).toList==[109,97,116,99,104])=false:=txt_is h.cl h.lt (isB_ne hb (b:=⟨#[109,97,116,99,104]⟩) (lit))
  have v8:((t.text i).toList==[119,104,105,108,101])=false:=txt_is h.cl h.lt (isB_ne hb (b:=⟨#[119,104,105,108,101]⟩) (lit))
  have v9:((t.text i).toList==[108,111,111,112])=false:=txt_is h.cl h.lt (isB_ne hb (b:=⟨#[108,111,111,112]⟩) (lit))
  have v10:((t.text i).toList==[109,97,107,101])=true:=txt_is h.cl h.lt hb
  obtain rfl:=hc.plain (by decide)
  refine(makeP hT hE h hN).mono fun e w' p=>p.to (fun r hr=>?_) (fun p hw=>?_)
  ·unfold gPrimary gWorded
   exact evt
  ·unfold gPrimary gWorded
   exact wrt
 ·replace hb:isB t i 0 0 ⟨#[102,110]⟩=true:=hb
  have n0:=isB_ne hb (b:=⟨#[40]⟩) (lit)
  have n1:=isB_ne hb (b:=⟨#[123]⟩) (lit)
  have hk3:=word3 h.cl hb (askw) (ask)
  have v0:((t.text i).toList==[116,114,117,101])=false:=txt_is h.cl h.lt (isB_ne hb (b:=⟨#[116,114,117,101]⟩) (lit))
  have v1:((t.text i).toList==[102,97,108,115,101])=false:=txt_is h.cl h.lt (isB_ne hb (b:=⟨#[102,97,108,115,101]⟩) (lit))
  have v2:((t.text i).toList==[98,114,101,97,107])=false:=txt_is h.cl h.lt (isB_ne hb (b:=⟨#[98,114,101,97,107]⟩) (lit))
  have v3:((t.text i).toList==[110,101,120,116])=false:=txt_is h.cl h.lt (isB_ne hb (b:=⟨#[110,101,120,116]⟩) (lit))
  have v4:((t.text i).toList==[112,97,110,105,99])=false:=txt_is h.cl h.lt (isB_ne hb (b:=⟨#[112,97,110,105,99]⟩) (lit))
  have v5:((t.text i).toList==[114,101,116,117,114,110])=false:=txt_is h.cl h.lt (isB_ne hb (b:=⟨#[114,101,116,117,114,110]⟩) (lit))
  have v6:((t.text i).toList==[105,102])=false:=txt_is h.cl h.lt (isB_ne hb (b:=⟨#[105,102]⟩) (lit))
  have v7:((t.text i).toList==[109,97,116,99,104])=false:=txt_is h.cl h.lt (isB_ne hb (b:=⟨#[109,97,116,99,104]⟩) (lit))
  have v8:((t.text i).toList==[119,104,105,108,101])=false:=txt_is h.cl h.lt (isB_ne hb (b:=⟨#[119,104,105,108,101]⟩) (lit))
  have v9:((t.text i).toList==[108,111,111,112])=false:=txt_is h.cl h.lt (isB_ne hb (b:=⟨#[108,111,111,112]⟩) (lit))
  have v10:((t.text i).toList==[109,97,107,101])=false:=txt_is h.cl h.lt (isB_ne hb (b:=⟨#[109,97,107,101]⟩) (lit))
  have v11:((t.text i).toList==[102,110])=true:=txt_is h.cl h.lt hb
  obtain rfl:=hc.plain (by decide)
  refine(closureP hT hB h hN).mono fun e w' p=>p.to (fun r hr=>?_) (fun p hw=>?_)
  ·unfold gPrimary gWorded
   exact evt
  ·unfold gPrimary gWorded
   exact wrt
 ·replace hb:isB t i 0 0 ⟨#[115,112,97,119,110]⟩=true:=hb
  have n0:=isB_ne hb (b:=⟨#[40]⟩) (lit)
  have n1:=isB_ne hb (b:=⟨#[123]⟩) (lit)
  have hk3:=word3 h.cl hb (askw) (ask)
  have v0:((t.text i).toList==[116,114,117,101])=false:=txt_is h.cl h.lt (isB_ne hb (b:=⟨#[116,114,117,101]⟩) (lit))
  have v1:((t.text i).toList==[102,97,108,115,101])=false:=txt_is h.cl h.lt (isB_ne hb (b:=⟨#[102,97,108,115,101]⟩) (lit))
  have v2:((t.text i).toList==[98,114,101,97,107])=false:=txt_is h.cl h.lt (isB_ne hb (b:=⟨#[98,114,101,97,107]⟩) (lit))
  have v3:((t.text i).toList==[110,101,120,116])=false:=txt_is h.cl h.lt (isB_ne hb (b:=⟨#[110,101,120,116]⟩) (lit))
  have v4:((t.text i).toList==[112,97,110,105,99])=false:=txt_is h.cl h.lt (isB_ne hb (b:=⟨#[112,97,110,105,99]⟩) (lit))
  have v5:((t.text i).toList==[114,101,116,117,114,110])=false:=txt_is h.cl h.lt (isB_ne hb (b:=⟨#[114,101,116,117,114,110]⟩) (lit))
  have v6:((t.text i).toList==[105,102])=false:=txt_is h.cl h.lt (isB_ne hb (b:=⟨#[105,102]⟩) (lit))
  have v7:((t.text i).toList==[109,97,116,99,104])=false:=txt_is h.cl h.lt (isB_ne hb (b:=⟨#[109,97,116,99,104]⟩) (lit))
  have v8:((t.text i).toList==[119,104,105,108,101])=false:=txt_is h.cl h.lt (isB_ne hb (b:=⟨#[119,104,105,108,101]⟩) (lit))
  have v9:((t.text i).toList==[108,111,111,112])=false:=txt_is h.cl h.lt (isB_ne hb (b:=⟨#[108,111,111,112]⟩) (lit))
  have v10:((t.text i).toList==[109,97,107,101])=false:=txt_is h.cl h.lt (isB_ne hb (b:=⟨#[109,97,107,101]⟩) (lit))
  have v11:((t.text i).toList==[102,110])=false:=txt_is h.cl h.lt (isB_ne hb (b:=⟨#[102,110]⟩) (lit))
  have v12:((t.text i).toList==[115,112,97,119,110])=true:=txt_is h.cl h.lt hb
  obtain rfl:=hc.plain (by decide)
  refine(spawnP hT hB h hN hb).mono fun e w' p=>p.to (fun r hr=>?_) (fun p hw=>?_)
  ·unfold gPrimary gWorded
   exact evt
  ·unfold gPrimary gWorded
   exact wrt
 ·replace hb:isB t i 0 0 ⟨#[40]⟩=true:=hb
  obtain rfl:=hc.plain (by decide)
  refine(tupleE hE h hN hb).mono fun e w' p=>p.to (fun r hr=>?_) (fun p hw=>?_)
  ·replace hr:=Ev.cg (m':=fun n=>bnd (gList t (gG t n 1) ⟨#[41]⟩ n) (fun ks=>ret (gTuple 22 (t.pos i) ks))) (s':=⟨i+1,0,0⟩) hr (fun n=>rfl)
   unfold gPrimary
   exact evt
  ·replace hw:=Wr.cg (m':=fun n=>bnd (gList t (gG t n 1) ⟨#[41]⟩ n) (fun ks=>ret (gTuple 22 (t.pos i) ks))) (s':=⟨i+1,0,0⟩) hw (fun n=>rfl)
   unfold gPrimary
   exact wrt
theorem exprNone {w:World} {rb tb i:Nat} {cap:Cp} {t:Tk} (h:Rd w rb tb cap t i 0 0) (hk1:((t.kind i:Int)==1)=false) (hk2:((t.kind i:Int)==2)=false) (hn:firstB t i (esAlone++esOthers)=none):Wr (fun n=>gPrimary t (gG t n 0) (gG t n 1) (gG t n 3) (gG t n 5) (gG t n 4) n) ⟨i,0,0⟩ (t.pos i):=by
 have n0:isB t i 0 0 ⟨#[105,102]⟩=false:=firstB_none hn _ (List.getElem_mem (n:=0) (by decide))
 have n1:isB t i 0 0 ⟨#[109,97,116,99,104]⟩=false:=firstB_none hn _ (List.getElem_mem (n:=1) (by decide))
 have n2:isB t i 0 0 ⟨#[119,104,105,108,101]⟩=false:=firstB_none hn _ (List.getElem_mem (n:=2) (by decide))
 have n3:isB t i 0 0 ⟨#[108,111,111,112]⟩=false:=firstB_none hn _ (List.getElem_mem (n:=3) (by decide))
 have n4:isB t i 0 0 ⟨#[123]⟩=false:=firstB_none hn _ (List.getElem_mem (n:=4) (by decide))
 have n5:isB t i 0 0 ⟨#[116,114,117,101]⟩=false:=firstB_none hn _ (List.getElem_mem (n:=5) (by decide))
 have n6:isB t i 0 0 ⟨#[102,97,108,115,101]⟩=false:=firstB_none hn _ (List.getElem_mem (n:=6) (by decide))
 have n7:isB t i 0 0 ⟨#[98,114,101,97,107]⟩=false:=firstB_none hn _ (List.getElem_mem (n:=7) (by decide))
 have n8:isB t i 0 0 ⟨#[110,101,120,116]⟩=false:=firstB_none hn _ (List.getElem_mem (n:=8) (by decide))
 have n9:isB t i 0 0 ⟨#[112,97,110,105,99]⟩=false:=firstB_none hn _ (List.getElem_mem (n:=9) (by decide))
 have n10:isB t i 0 0 ⟨#[114,101,116,117,114,110]⟩=false:=firstB_none hn _ (List.getElem_mem (n:=10) (by decide))
 have n11:isB t i 0 0 ⟨#[109,97,107,101]⟩=false:=firstB_none hn _ (List.getElem_mem (n:=11) (by decide))
 have n12:isB t i 0 0 ⟨#[102,110]⟩=false:=firstB_none hn _ (List.getElem_mem (n:=12) (by decide))
 have n13:isB t i 0 0 ⟨#[115,112,97,119,110]⟩=false:=firstB_none hn _ (List.getElem_mem (n:=13) (by decide))
 have n14:isB t i 0 0 ⟨#[40]⟩=false:=firstB_none hn _ (List.getElem_mem (n:=14) (by decide))
 have v0:((t.text i).toList==[116,114,117,101])=false:=txt_is h.cl h.lt n5
 have v1:((t.text i).toList==[102,97,108,115,101])=false:=txt_is h.cl h.lt n6
 have v2:((t.text i).toList==[98,114,101,97,107])=false:=txt_is h.cl h.lt n7
 have v3:((t.text i).toList==[110,101,120,116])=false:=txt_is h.cl h.lt n8
 have v4:((t.text i).toList==[112,97,110,105,99])=false:=txt_is h.cl h.lt n9
 have v5:((t.text i).toList==[114,101,116,117,114,110])=false:=txt_is h.cl h.lt n10
 have v6:((t.text i).toList==[105,102])=false:=txt_is h.cl h.lt n0
 have v7:((t.text i).toList==[109,97,116,99,104])=false:=txt_is h.cl h.lt n1
 have v8:((t.text i).toList==[119,104,105,108,101])=false:=txt_is h.cl h.lt n2
 have v9:((t.text i).toList==[108,111,111,112])=false:=txt_is h.cl h.lt n3
 have v10:((t.text i).toList==[109,97,107,101])=false:=txt_is h.cl h.lt n11
 have v11:((t.text i).toList==[102,110])=false:=txt_is h.cl h.lt n12
 have v12:((t.text i).toList==[115,112,97,119,110])=false:=txt_is h.cl h.lt n13
 cases hk3:((t.kind i:Int)==3)
 ·unfold gPrimary
  exact wrt
 ·unfold gPrimary gWorded
  exact wrt
theorem thingT {N:Nat}{w:World} {rb tb i:Nat} {cap:Cp} {t:Tk} (h:Rd w rb tb cap t i 0 0) (hT:rdP 70 N (fun t n=>gG t n 0)) (hE:rdP 81 N (fun t n=>gG t n 1)) (hQ:rdP 86 N (fun t n=>gG t n 5)) (hB:rdP 75 N (fun t n=>gG t n 3)) (hJ1:rdIf (N+1)) (hB1:rdP 75 (N+1) (fun t n=>gG t n 3)) (hN:t.len - i≤N+1):
 Calls Tryz.prog 239 #[.pointer (some ⟨rb,0,none⟩)] w (NodeP w rb tb cap t i True (fun n=>gPrimary t (gG t n 0) (gG t n 1) (gG t n 3) (gG t n 5) (gG t n 4) n)):=by
 have hl:=h.l
 have hposI:(0:Int)≤(t.pos i:Int)∧(t.pos i:Int)≤7000:=by have:=h.good.posb i;omega
 have hfd:=fld67_0
 cases hk1:kindB t i 0 0 1
 ·have HK1:=Hid_nx hk1
  have hk10:((t.kind i:Int)==1)=false:=(kindB_eq h.lt 1).symm.trans hk1
  clear hk1
  cases hk:kindB t i 0 0 2
  ·have hk0:((t.kind i:Int)==2)=false:=(kindB_eq h.lt 2).symm.trans hk
   have HK:=Hid_nx hk
   clear hk
   go_enter Tryz.func239,Tryz.ntmps239
   have q:=Mf.start h
   go_wp2_with fail
   refine(q.ne' (sz w) (zeroC)).lf (tokP ·) ?_
   clear q
   intro w1 q
   have F:=q.f1
   have r4:=q.st.rd.r4
   have r5:=q.st.rd.r5
   go_wp2_with fail
   go_region_law (replace q:=q.drew;go_simp;refine(q.alloc (.cells #[.slice (some ⟨cap.a3,0,none⟩) 5 5,.slice (some ⟨cap.a4,0,none⟩) 10 10] 72)).nd (fun _=>read2P q.st.rd q.st.rd.t3 ask_esAlone (by decide) rfl ein_esAlone q.st.rd.t4 ask_esOthers (by decide) rfl ein_esOthers (fun e w' ts he hc hr=>exprD hT hE hQ hB hJ1 hB1 hr hN he hc) (fun hn=>exprNone h hk10 hk0 hn)) (fun w' p hk hw=>⟨rfl,.inr (Mf.thr (q.alloc _) hk hw)⟩) ?_;clear q F r4 r5;intro w2 x5 i5 y5 hl5 m5 q;have F:=q.f1)
   all_goals
    go_wp2_with fail
    go_light
    exact Mf.rt (q) Tryz.results239 0 (m5)
  ·have hk0:((t.kind i:Int)==2)=true:=(kindB_eq h.lt 2).symm.trans hk
   have HK:=Hid_nx hk
   clear hk
   go_enter Tryz.func239,Tryz.ntmps239
   have q:=Mf.start h
   go_wp2_with fail
   refine(q.ne' (sz w) (zeroC)).lf (tokP ·) ?_
   clear q
   intro w3 q
   have F:=q.f1
   go_wp2_with fail
   refine q.lf (nodeP · 23) ?_
   clear q F
   intro w4 q
   have F:=q.f1
   go_wp2_with fail
   refine(q.ne' (sz w4) (nk 23 (t.pos i) nl)).nm (pathP2 · 3 (by decide) (by decide)) (fun w' p hk hw=>⟨rfl,.inr ((q.ne' (sz w4) (nk 23 (t.pos i) nl)).thr hk (by unfold gPrimary;exact wrt))⟩) ?_
   clear q F
   intro w5 s3 i3 hs3 hl3 m3 q
   have F:=q.f2
   go_wp2_with fail
   refine(q.p04 s3).ln (fun hr=>typesP hT hr (by have:=hr.lt;have:=q.go trivial;omega)) (fun w' p hk hw=>⟨rfl,.inr ((q.p04 s3).thr hk (by unfold gPrimary;exact wrt))⟩) ?_
   clear q F
   intro w6 ao4 cp4 vs4 i4 V4 hl4 m4 q
   have F:=q.f2
   have hl5:vs4.length≤6001:=by have:=hl4.out.2;have:=q.st.rd.lt;have:=h.good.few;omega
   go_wp2_with fail
   go_light
   exact Mf.rt ((q.p05 (.slice ao4 vs4.length cp4)).fo 23 (t.pos i) 0 0 s3 (by omega) hposI hs3) Tryz.results239 1 (by unfold gPrimary;exact evt)
 ·have hk0:((t.kind i:Int)==1)=true:=(kindB_eq h.lt 1).symm.trans hk1
  have HK:=Hid_nx hk1
  clear hk1
  go_enter Tryz.func239,Tryz.ntmps239
  have q:=Mf.start h
  go_wp2_with fail
  refine(q.ne' (sz w) (zeroC)).lf (tokP ·) ?_
  clear q
  intro w7 q
  have F:=q.f1
  go_wp2_with fail
  refine q.nd (fun hr=>numberP hr 20 HK.out) (fun w' p hk hw=>⟨rfl,.inr (q.thr hk (by
   replace hw:=Wr.cg (m':=fun _=>bnd (gNum t) (fun n=>seq (gAdd 1) (ret (nd 20 (t.pos i) n 0 E0 [])))) (s':=⟨i,0,0⟩) hw (fun n=>rfl)
   unfold gPrimary
   exact wrt))⟩) ?_
  clear q F
  intro w8 x5 i5 y5 hl5 m5 q
  have F:=q.f1
  go_wp2_with fail
  go_light
  exact Mf.rt (q) Tryz.results239 0 (by
   replace m5:=Ev.cg (m':=fun _=>bnd (gNum t) (fun n=>seq (gAdd 1) (ret (nd 20 (t.pos i) n 0 E0 [])))) (s':=⟨i,0,0⟩) m5 (fun n=>rfl)
   unfold gPrimary
   exact evt)
theorem thingP {N:Nat} (hT:rdP 70 N (fun t n=>gG t n 0)) (hE:rdP 81 N (fun t n=>gG t n 1)) (hQ:rdP 86 N (fun t n=>gG t n 5)) (hB:rdP 75 N (fun t n=>gG t n 3)) (hJ1:rdIf (N+1)) (hB1:rdP 75 (N+1) (fun t n=>gG t n 3)):rdP 239 (N+1) (fun t n=>gG t n 6):=fun h hN=>(thingT h hT hE hQ hB hJ1 hB1 hN).mono fun e w' p=>p.to (fun r hr=>hr.up (fun _=>rfl)) (fun p hw=>hw.up (fun _=>rfl))
end Go.Proofs.YtdplogkmkgekdaaGreatDoor.Pj
