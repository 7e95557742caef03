/- Two nodes under one, handed back. -/
import Derived.Test.YtagdihffmjopaaaGreatDoorTree
import Derived.Deep.LoopGhost
import Derived.Deep.Light
import Derived.Deep.RegionWith
import Derived.Deep.RegionLaw
namespace Go.Proofs.YtagdihffmjopaaaGreatDoor
set_option linter.all false
open Go.RowKit
theorem info46:(Tryz.prog.info? 28).map (fun i=>(i.zero,i.size,i.bytes))=some (some (.agg (nodeC 0 0 0 0 ⟨#[]⟩ (.slice none 0 0))),11,160):=by kernel_rfl
theorem all_snoc {C:Int→Prop} {ks:List Int} {y:Int} (h:∀x∈ks,C x) (hy:C y):∀x∈ks++[y],C x:=by
 intro x hx
 rcases List.mem_append.1 hx with hx|hx
 ·exact h x hx
 ·obtain rfl:x=y:=by simpa using hx
  exact hy
end Go.Proofs.YtagdihffmjopaaaGreatDoor
namespace Go.Proofs.YtagdihffmjopaaaGreatDoor
set_option linter.all false
open Go.RowKit
theorem joinP_snoc (ns:List (List UInt8)) (m:List UInt8) (h:ns≠[]):joinP (ns++[m])=joinP ns++58::58::m:=by
 induction ns with
 |nil=>exact absurd rfl h
 |cons a r ih=>
  cases r with
  |nil=>rfl
  |cons b r=>show a++58::58::joinP (b::r++[m])=(a++58::58::joinP (b::r))++_;rw[ih (by simp)];simp
theorem append_list (a b:ByteArray):(a++b).toList=a.toList++b.toList:=by
 rw[Lib.toList_data,Lib.toList_data,Lib.toList_data]
 simp[ByteArray.data_append]
theorem append_size (a b:ByteArray):(a++b).size=a.size+b.size:=by simp
structure PathL (w:World) (rb tb cap:Nat) (t:Tk) (i:Nat) (k:Int) (most:Nat) (wr:World) (s:ByteArray) (n:Nat) (j:Nat) (kj aj:Int):Prop where
 nx:Nx w rb tb cap t i k True wr j kj aj
 le:n≤most
 size:s.size≤6002*n
 ok:kj=0→∃ns,ns≠[]∧ns.length=n∧(∀n∈ns,n≠[]∧(58:UInt8)∉n)∧s.toList=joinP ns
set_option maxRecDepth 100000 in
set_option maxHeartbeats 2000000 in
theorem path80 {w:World} {rb tb cap i:Nat} {t:Tk} {k a:Int} (h:Rd w rb tb cap t i k a) (most:Nat) (hm1:1≤most) (hm:most≤3):
 Calls Tryz.prog 78 #[.pointer (some ⟨rb,0,none⟩),.int .i64 most] w fun e w'=>∃s,e=.returned (.string s)∧s.size≤20000∧∃i' k' a',Nx w rb tb cap t i k True w' i' k' a'∧(k'=0→pathOK most s):=by
 have hfew:(t.len:Int)≤6001:=by have:=h.good.few;omega
 go_enter Tryz.func78,Tryz.ntmps78
 go_wp2_with (go_at_call 20;refine(name40 h).mono ?_;rintro e w1 ⟨s1,rfl,hs1,i1,k1,a1,hx1,ho1⟩)
 go_loopg [5,6] (ml t i1 k1) (fun g v q wr=>∃(s:ByteArray) (n j:Nat) (kj aj:Int),g=ml t j kj∧v=.string s∧q=.int .i64 n∧PathL w rb tb cap t i k most wr s n j kj aj)
 case atStart=>exact⟨s1,1,i1,k1,a1,rfl,rfl,rfl,hx1,hm1,by omega,fun e=>⟨[s1.toList],by simp,rfl,by simpa[nameOK] using ho1 e,rfl⟩⟩
 case round=>
  obtain⟨s,n,j,kj,aj,hgk,rfl,rfl,hR⟩:=hrel
  have HG:Hid (gk=ml t j kj):=hgk
  clear hgk
  have hj:=hR.nx.rd.lt
  have hn:=hR.le
  have hsz:=hR.size
  have out:∀wz,wz=wr→∃s',Ending.returned (.string s)=.returned (.string s')∧s'.size≤20000∧∃i' k' a',Nx w rb tb cap t i k True wr i' k' a'∧(k'=0→pathOK most s'):=fun _ _=>
   ⟨s,rfl,by omega,j,kj,aj,hR.nx,fun e=>by obtain⟨ns,h1,h2,h3,h4⟩:=hR.ok e;exact⟨ns,h1,by omega,h3,h4⟩⟩
  cases hk:(kj==0)
  ·go_wp2_with (go_at_call 9;refine(ok21 hR.nx.rd).mono ?_;rintro e w2 ⟨rfl,rfl⟩)
   go_ret
   exact out _ rfl
  ·have hk0:Hid (kj=0):=by show kj=0;simpa using hk
   cases hb:isB t j kj 0 ⟨#[58,58]⟩
   ·go_wp2_with (first|(go_at_call 9;refine(ok21 hR.nx.rd).mono ?_;rintro e w2 ⟨rfl,rfl⟩)|(go_at_call 21;refine(is41 hR.nx.rd 0 (by omega) _).mono ?_;rintro e w3 ⟨rfl,hb3⟩))
    go_ret
    obtain⟨s',e1,e2,i',k',a',e3,e4⟩:=out _ rfl
    refine⟨s',e1,e2,i',k',a',⟨?_,?_,e3.le,e3.ok,e3.go⟩,e4⟩
    ·exact e3.rd.below hb3
    ·exact e3.kp.trans ((Kp.of_below hb3).mono e3.kp.size)
   ·have hlt:=(isB_lt h.good hj hb).2
    cases hq:kindB t j kj 1 2
    ·go_wp2_with (first|(go_at_call 9;refine(ok21 hR.nx.rd).mono ?_;rintro e w2 ⟨rfl,rfl⟩)|(go_at_call 21;refine(is41 hR.nx.rd 0 (by omega) _).mono ?_;rintro e w3 ⟨rfl,hb3⟩)|(go_at_call 10;refine(kind22 (hR.nx.rd.below hb3) 1 (by omega) 2).mono ?_;rintro e w4 ⟨rfl,hb4⟩))
     go_ret
     obtain⟨s',e1,e2,i',k',a',e3,e4⟩:=out _ rfl
     refine⟨s',e1,e2,i',k',a',⟨?_,?_,e3.le,e3.ok,e3.go⟩,e4⟩
     ·exact(e3.rd.below hb3).below hb4
     ·exact e3.kp.trans ((Kp.of_below (hb3.trans (hb4.mono hb3.size))).mono e3.kp.size)
    ·by_cases hnm:n=most
     ·subst hnm
      go_wp2_with (first|(go_at_call 9;refine(ok21 hR.nx.rd).mono ?_;rintro e w2 ⟨rfl,rfl⟩)|(go_at_call 21;refine(is41 hR.nx.rd 0 (by omega) _).mono ?_;rintro e w3 ⟨rfl,hb3⟩)|(go_at_call 10;refine(kind22 (hR.nx.rd.below hb3) 1 (by omega) 2).mono ?_;rintro e w4 ⟨rfl,hb4⟩;have h4:=(hR.nx.rd.below hb3).below hb4)|(go_at_call 40;refine(bad64 h4).mono ?_;rintro e w5 ⟨rfl,⟨k5,a5,hk5,h5⟩,hk5'⟩))
      go_ret
      refine⟨⟨#[]⟩,rfl,by decide,j,k5,a5,⟨h5,?_,hR.nx.le,fun e=>absurd e hk5,fun _ e=>absurd e hk5⟩,fun e=>absurd e hk5⟩
      have hb34:=hb3.trans (hb4.mono hb3.size)
      exact hR.nx.kp.trans (((Kp.of_below hb34).trans (hk5'.mono hb34.size)).mono hR.nx.kp.size)
     ·have hnm':((n:Int)==(most:Int))=false:=by simp;omega
      go_wp2_with (first|(go_at_call 9;refine(ok21 hR.nx.rd).mono ?_;rintro e w2 ⟨rfl,rfl⟩)|(go_at_call 21;refine(is41 hR.nx.rd 0 (by omega) _).mono ?_;rintro e w3 ⟨rfl,hb3⟩)|(go_at_call 10;refine(kind22 (hR.nx.rd.below hb3) 1 (by omega) 2).mono ?_;rintro e w4 ⟨rfl,hb4⟩;have h4:=(hR.nx.rd.below hb3).below hb4;have r1:=h4.r1;have hl4:=h4.l;have f4:=h4.fz 1)|(go_at_call 20;refine(name40 (h4.setI hlt)).mono ?_;rintro e w5 ⟨s5,rfl,hs5,i5,k5,a5,hx5,ho5⟩))
      have hb34:=hb3.trans (hb4.mono hb3.size)
      have hkp:Kp w.heap.size rb w (w4.setCell ⟨rb,1,none⟩ (.int .i64 (j+1:Nat))):=Kp.setCell (p:=⟨rb,1,none⟩) (hR.nx.kp.trans ((Kp.of_below hb34).mono hR.nx.kp.size)) (.inr rfl) _
      have hP:PathL w rb tb cap t i k most w5 (s++⟨#[58,58]⟩++s5) (n+1) i5 k5 a5:=by
       refine⟨⟨hx5.rd,hkp.trans (hx5.kp.mono hkp.size),?_,fun e=>hR.nx.ok (hx5.ok e),fun _ e=>?_⟩,by omega,?_,fun e=>?_⟩
       ·have:=hR.nx.le;have:=hx5.le;omega
       ·have:=hR.nx.le;have:=hx5.le;omega
       ·rw[append_size,append_size];show s.size+2+s5.size≤_;omega
       ·obtain⟨ns,h1,h2,h3,h4⟩:=hR.ok hk0.out
        refine⟨ns++[s5.toList],by simp,by simp[h2],fun x hx=>?_,?_⟩
        ·rcases List.mem_append.1 hx with hx|hx
         ·exact h3 x hx
         ·obtain rfl:x=s5.toList:=by simpa using hx
          exact ho5 e
        ·rw[append_list,append_list,joinP_snoc ns _ h1,h4]
         rw[show(⟨#[58,58]⟩:ByteArray).toList=[58,58] by rw[Lib.toList_data]]
         simp
      have hms:ml t i5 k5<gk:=by
       rw[HG.out,hk0.out]
       exact ml_lt hj (by have:=hx5.le;omega) (fun e=>by have:=hx5.le;omega)
      go_roundg (ml t i5 k5)
      case measure=>exact hms
      case rel=>exact⟨_,n+1,i5,k5,a5,rfl,rfl,by go_num,hP⟩
def Blk (w:World) (b:Nat) (c:Array Value):Prop:=w.heap[b]? =some (.cells c 28 (0,0))
theorem Blk.cell {w:World} {b:Nat} {c:Array Value} (h:Blk w b c) (o:Nat):w.cell? ⟨b,o,none⟩=c[o]? :=cell_of_row w b o c 28 (0,0) h
theorem Blk.fz {w:World} {b:Nat} {c:Array Value} (h:Blk w b c) (o:Nat):w.frozen? ⟨b,o,none⟩=false:=frozen_of_row w b o c 28 h
theorem Blk.lt {w:World} {b:Nat} {c:Array Value} (h:Blk w b c):b<w.heap.size:=(Array.getElem?_eq_some_iff.1 h).1
theorem Blk.new (w:World) (c:Array Value):Blk (w.alloc (.cells c 28)) w.heap.size c:=heap_alloc_new w _
theorem Blk.alloc {w:World} {b:Nat} {c:Array Value} (h:Blk w b c) (o:Obj):Blk (w.alloc o) b c:=(Below.heap_alloc _ _ _ h.lt).trans h
theorem Blk.below {w w':World} {b:Nat} {c:Array Value} (h:Blk w b c) (hb:Below w.heap.size w w'):Blk w' b c:=(hb.block b h.lt).trans h
theorem Blk.kp {w w':World} {b rb:Nat} {c:Array Value} (h:Blk w b c) (hk:Kp w.heap.size rb w w') (hn:b≠rb):Blk w' b c:=(hk.block b h.lt hn).trans h
theorem Blk.grown {w w':World} {b:Nat} {c:Array Value} {row:Option Nat} (h:Blk w b c) (hg:w.grownBy w' row) (hn:some b≠row):Blk w' b c:=(hg.block b h.lt hn).trans h
theorem Blk.other {w:World} {b:Nat} {c:Array Value} (h:Blk w b c) {p:Addr} (hn:b≠p.block) (u:Value):Blk (w.setCell p u) b c:=(Below.heap_setCell _ _ _ _ hn).trans h
theorem Blk.set {w:World} {b:Nat} {c:Array Value} (h:Blk w b c) (o:Nat) (u:Value):Blk (w.setCell ⟨b,o,none⟩ u) b (c.setIfInBounds o u):=heap_setCell_same w b o c 28 u h
theorem Blk.drew {w:World} {b:Nat} {c:Array Value} (h:Blk w b c):Blk w.drew b c:=h
theorem Same.set11 {S:Nat→Prop} {w:World} {b:Nat} (h:¬S b) (c0 c1 c2 c3 c4 c5 c6 c7 c8 c9 c10:Value):Same S w (set11 w b c0 c1 c2 c3 c4 c5 c6 c7 c8 c9 c10):=
 (((((((((((Same.setCell w ⟨b,0,none⟩ c0 h).trans (Same.setCell _ ⟨b,1,none⟩ c1 h) (by simp)).trans (Same.setCell _ ⟨b,2,none⟩ c2 h) (by simp)).trans (Same.setCell _ ⟨b,3,none⟩ c3 h) (by simp)).trans (Same.setCell _ ⟨b,4,none⟩ c4 h) (by simp)).trans (Same.setCell _ ⟨b,5,none⟩ c5 h) (by simp)).trans (Same.setCell _ ⟨b,6,none⟩ c6 h) (by simp)).trans (Same.setCell _ ⟨b,7,none⟩ c7 h) (by simp)).trans (Same.setCell _ ⟨b,8,none⟩ c8 h) (by simp)).trans (Same.setCell _ ⟨b,9,none⟩ c9 h) (by simp)).trans (Same.setCell _ ⟨b,10,none⟩ c10 h) (by simp))
structure St (w:World) (rb tb cap:Nat) (t:Tk) (W:World) (j:Nat) (kj aj:Int):Prop where
 rd:Rd W rb tb cap t j kj aj
 kp:Kp w.heap.size rb w W
 lb:rb<w.heap.size
 lt:tb<w.heap.size
theorem Rd.st {w:World} {rb tb cap i:Nat} {t:Tk} {k a:Int} (h:Rd w rb tb cap t i k a):St w rb tb cap t w i k a:=⟨h,Kp.refl _ _ _,h.l,h.row.lt⟩
section
variable{w W:World} {rb tb cap j:Nat} {t:Tk} {kj aj:Int}
theorem St.size (h:St w rb tb cap t W j kj aj):w.heap.size≤W.heap.size:=h.kp.size
theorem St.rk (h:St w rb tb cap t W j kj aj) {w':World} {i':Nat} {k' a':Int} (h1:Rd w' rb tb cap t i' k' a') (h2:Kp W.heap.size rb W w'):St w rb tb cap t w' i' k' a':=⟨h1,h.kp.trans (h2.mono h.size),h.lb,h.lt⟩
theorem St.put (h:St w rb tb cap t W j kj aj) {b:Nat} (hb:w.heap.size≤b) (o:Nat) (u:Value):St w rb tb cap t (W.setCell ⟨b,o,none⟩ u) j kj aj:=⟨h.rd.setCell (p:=⟨b,o,none⟩) (by have:=h.lb;show b≠rb;omega) (by have:=h.lt;show b≠tb;omega) u,h.kp.setCell (p:=⟨b,o,none⟩) (.inl hb) u,h.lb,h.lt⟩
theorem St.grown (h:St w rb tb cap t W j kj aj) {w':World} {row:Option Nat} (hg:W.grownBy w' row) (hr:∀b,row=some b→w.heap.size≤b):St w rb tb cap t w' j kj aj:=
 ⟨h.rd.grown hg (fun e=>by have:=hr _ e;have:=h.lb;omega) (fun e=>by have:=hr _ e;have:=h.lt;omega),h.kp.grown hg h.size hr,h.lb,h.lt⟩
end
end Go.Proofs.YtagdihffmjopaaaGreatDoor
namespace Go.Proofs.YtagdihffmjopaaaGreatDoor
set_option linter.all false
open Go.RowKit
abbrev zeroC:Array Value:=nodeC 0 0 0 0 ⟨#[]⟩ (.slice none 0 0)
section
variable{w W w':World} {rb tb cap j:Nat} {t:Tk} {kj aj:Int} {b:Nat} {c:Array Value}
end
set_option maxHeartbeats 1000000 in
theorem eat_no {w:World} {rb tb cap i:Nat} {t:Tk} {k a:Int} (h:Rd w rb tb cap t i k a) (s:ByteArray) (hb:isB t i k 0 s=false):
 Calls Tryz.prog 22 #[.pointer (some ⟨rb,0,none⟩),.string s] w fun e w'=>e=.returned (.bool false)∧Below w.heap.size w w':=by
 go_enter Tryz.func22,Tryz.ntmps22
 go_wp2_with (go_at_call 21;refine(is41 h 0 (by omega) s).mono ?_;rintro e w1 ⟨rfl,hb1⟩)
 go_ret
 exact⟨rfl,hb1⟩
theorem eat_yes {w:World} {rb tb cap i:Nat} {t:Tk} {k a:Int} (h:Rd w rb tb cap t i k a) (s:ByteArray) (hb:isB t i k 0 s=true):
 Calls Tryz.prog 22 #[.pointer (some ⟨rb,0,none⟩),.string s] w fun e w'=>e=.returned (.bool true)∧Nx w rb tb cap t i k True w' (i+1) k a:=by
 refine(eat42 h s).mono ?_
 rintro e w1 ⟨b,i1,rfl,hE,h1,hk1⟩
 obtain rfl:b=true:=by rw[hE.is_];exact hb
 obtain⟨rfl,_⟩:=hE.yes rfl
 exact⟨rfl,h1,hk1,by omega,fun e=>e,fun _ _=>by omega⟩
theorem Kids.first {base:Nat} {g:Prop} {w:World} {ao:Option Addr} {cp:Nat} {v:List Value} (h:Kids base g w (.slice ao 1 cp) [v]):∃gb,ao=some ⟨gb,0,none⟩∧base≤gb∧gb<w.heap.size∧∃kind pos n m name ko kl kc,v=(nodeC kind pos n m name (.slice ko kl kc)).toList∧(∀o,o<11→w.cell? ⟨gb,o,none⟩=(nodeC kind pos n m name (.slice ko kl kc))[o]?)∧NodeIn base g w v:=by
 obtain⟨hr,hh,ha⟩:=h
 have hv:=ha v (by simp)
 rcases hr.2 with⟨h1,h2⟩|⟨gb,cap,cur,h1,hb,hg,hnc,hcm,hcs,htake⟩
 ·simp at h2
 ·simp only[Value.slice.injEq] at h1
  obtain⟨rfl,_,rfl⟩:=h1
  refine⟨gb,rfl,hb,(Array.getElem?_eq_some_iff.1 hg).1,?_⟩
  cases hh with
  |zero=>exact absurd hv (fun x=>x)
  |succ hh=>
   obtain⟨kind,pos,n,m,name,kv,vs,e1,e2,e3,e3',e4,e5,e6,e7⟩:=hv
   have hsh:∃ko kl kc,kv=.slice ko kl kc:=by
    rcases e4.2 with⟨x1,_⟩|⟨x,y,z,x1,_⟩
    ·exact⟨_,_,_,x1⟩
    ·exact⟨_,_,_,x1⟩
   obtain⟨ko,kl,kc,rfl⟩:=hsh
   refine⟨kind,pos,n,m,name,ko,kl,kc,e1,fun o ho=>?_,hh+1,kind,pos,n,m,name,.slice ko kl kc,vs,e1,e2,e3,e3',e4,fun b hb=>(e5 b hb).1,fun x hx=>isNode.weaken (fun b hb=>hb.1) (fun x=>x) _ _ (e6 x hx),e7⟩
   rw[cell_of_row w gb o cur 28 (0,0) hg]
   have e:cur.toList.take 11=(nodeC kind pos n m name (.slice ko kl kc)).toList:=by
    have:=htake
    simp only[List.length_cons,List.length_nil,List.flatten_cons,List.flatten_nil,List.append_nil] at this
    rw[←e1]
    exact this
   have e2:(cur.toList.take 11)[o]? =cur[o]? :=by rw[List.getElem?_take,if_pos ho];simp
   rw[←e2,e]
   simp
theorem Blk.set11 {w:World} {b:Nat} {d0 d1 d2 d3 d4 d5 d6 d7 d8 d9 d10:Value} (h:Blk w b #[d0,d1,d2,d3,d4,d5,d6,d7,d8,d9,d10]) (c0 c1 c2 c3 c4 c5 c6 c7 c8 c9 c10:Value):Blk (Go.Proofs.YtagdihffmjopaaaGreatDoor.set11 w b c0 c1 c2 c3 c4 c5 c6 c7 c8 c9 c10) b #[c0,c1,c2,c3,c4,c5,c6,c7,c8,c9,c10]:=by
 have h0:Blk (w.setCell ⟨b,0,none⟩ c0) b #[c0,d1,d2,d3,d4,d5,d6,d7,d8,d9,d10]:=Blk.set h 0 c0
 have h1:Blk ((w.setCell ⟨b,0,none⟩ c0).setCell ⟨b,1,none⟩ c1) b #[c0,c1,d2,d3,d4,d5,d6,d7,d8,d9,d10]:=Blk.set h0 1 c1
 have h2:Blk (((w.setCell ⟨b,0,none⟩ c0).setCell ⟨b,1,none⟩ c1).setCell ⟨b,2,none⟩ c2) b #[c0,c1,c2,d3,d4,d5,d6,d7,d8,d9,d10]:=Blk.set h1 2 c2
 have h3:Blk ((((w.setCell ⟨b,0,none⟩ c0).setCell ⟨b,1,none⟩ c1).setCell ⟨b,2,none⟩ c2).setCell ⟨b,3,none⟩ c3) b #[c0,c1,c2,c3,d4,d5,d6,d7,d8,d9,d10]:=Blk.set h2 3 c3
 have h4:Blk (((((w.setCell ⟨b,0,none⟩ c0).setCell ⟨b,1,none⟩ c1).setCell ⟨b,2,none⟩ c2).setCell ⟨b,3,none⟩ c3).setCell ⟨b,4,none⟩ c4) b #[c0,c1,c2,c3,c4,d5,d6,d7,d8,d9,d10]:=Blk.set h3 4 c4
 have h5:Blk ((((((w.setCell ⟨b,0,none⟩ c0).setCell ⟨b,1,none⟩ c1).setCell ⟨b,2,none⟩ c2).setCell ⟨b,3,none⟩ c3).setCell ⟨b,4,none⟩ c4).setCell ⟨b,5,none⟩ c5) b #[c0,c1,c2,c3,c4,c5,d6,d7,d8,d9,d10]:=Blk.set h4 5 c5
 have h6:Blk (((((((w.setCell ⟨b,0,none⟩ c0).setCell ⟨b,1,none⟩ c1).setCell ⟨b,2,none⟩ c2).setCell ⟨b,3,none⟩ c3).setCell ⟨b,4,none⟩ c4).setCell ⟨b,5,none⟩ c5).setCell ⟨b,6,none⟩ c6) b #[c0,c1,c2,c3,c4,c5,c6,d7,d8,d9,d10]:=Blk.set h5 6 c6
 have h7:Blk ((((((((w.setCell ⟨b,0,none⟩ c0).setCell ⟨b,1,none⟩ c1).setCell ⟨b,2,none⟩ c2).setCell ⟨b,3,none⟩ c3).setCell ⟨b,4,none⟩ c4).setCell ⟨b,5,none⟩ c5).setCell ⟨b,6,none⟩ c6).setCell ⟨b,7,none⟩ c7) b #[c0,c1,c2,c3,c4,c5,c6,c7,d8,d9,d10]:=Blk.set h6 7 c7
 have h8:Blk (((((((((w.setCell ⟨b,0,none⟩ c0).setCell ⟨b,1,none⟩ c1).setCell ⟨b,2,none⟩ c2).setCell ⟨b,3,none⟩ c3).setCell ⟨b,4,none⟩ c4).setCell ⟨b,5,none⟩ c5).setCell ⟨b,6,none⟩ c6).setCell ⟨b,7,none⟩ c7).setCell ⟨b,8,none⟩ c8) b #[c0,c1,c2,c3,c4,c5,c6,c7,c8,d9,d10]:=Blk.set h7 8 c8
 have h9:Blk ((((((((((w.setCell ⟨b,0,none⟩ c0).setCell ⟨b,1,none⟩ c1).setCell ⟨b,2,none⟩ c2).setCell ⟨b,3,none⟩ c3).setCell ⟨b,4,none⟩ c4).setCell ⟨b,5,none⟩ c5).setCell ⟨b,6,none⟩ c6).setCell ⟨b,7,none⟩ c7).setCell ⟨b,8,none⟩ c8).setCell ⟨b,9,none⟩ c9) b #[c0,c1,c2,c3,c4,c5,c6,c7,c8,c9,d10]:=Blk.set h8 9 c9
 have h10:Blk (((((((((((w.setCell ⟨b,0,none⟩ c0).setCell ⟨b,1,none⟩ c1).setCell ⟨b,2,none⟩ c2).setCell ⟨b,3,none⟩ c3).setCell ⟨b,4,none⟩ c4).setCell ⟨b,5,none⟩ c5).setCell ⟨b,6,none⟩ c6).setCell ⟨b,7,none⟩ c7).setCell ⟨b,8,none⟩ c8).setCell ⟨b,9,none⟩ c9).setCell ⟨b,10,none⟩ c10) b #[c0,c1,c2,c3,c4,c5,c6,c7,c8,c9,c10]:=Blk.set h9 10 c10
 exact h10
set_option maxRecDepth 100000 in
theorem results_node {fn:Func} {r:Nat} (hf:fn.results=#[.cell r 28]) {tmps:Array Value} {b:Nat} (ht:tmps.getD r undef=.pointer (some ⟨b,0,none⟩)) {W:World} {c0 c1 c2 c3 c4 c5 c6 c7 c8 c9 c10:Value} (hB:Blk W b #[c0,c1,c2,c3,c4,c5,c6,c7,c8,c9,c10]):
 (results fn tmps).run Tryz.prog W=.ok (.agg #[c0,c1,c2,c3,c4,c5,c6,c7,c8,c9,c10]) W:=by
 have y:=hB.cell
 have ht':tmps[r]?.getD undef=.pointer (some ⟨b,0,none⟩):=by simpa using ht
 simp[results,hf,ht',go_sem,y]
theorem Kids.put {base:Nat} {g:Prop} {w:World} {kv:Value} {vs:List (List Value)} (h:Kids base g w kv vs) {b:Nat} (hb:b<base) (o:Nat) (u:Value):Kids base g (w.setCell ⟨b,o,none⟩ u) kv vs:=
 h.same (Same.setCell _ ⟨b,o,none⟩ _ (by show ¬base≤b;omega))
theorem NodeIn.name {base:Nat} {g:Prop} {w:World} {kind pos n m:Int} {name:ByteArray} {kv:Value} (h:NodeIn base g w (nodeC kind pos n m name kv).toList):name.size≤20000:=by
 obtain⟨hh,h⟩:=h
 cases hh with
 |zero=>exact absurd h (fun x=>x)
 |succ hh=>
  obtain⟨kind',pos',n',m',name',kv',vs,e1,e2,_⟩:=h
  simp at e1
  rw[e1.2.2.2.2.1]
  exact e2
theorem Gr.of_prog {n m:Int} {name:ByteArray} {ks:List Int} (h:∀x∈ks,x=1):Gr 0 n m name ks:=by
 constructor<;>intro e<;>first|exact absurd e (by decide)|exact h
theorem Gr.of_mod {n m:Int} {name:ByteArray} {ks:List Int} (h:∀x∈ks,x=2∨x=3∨x=6∨x=7∨x=108∨x=208):Gr 1 n m name ks:=by
 constructor<;>intro e<;>first|exact absurd e (by decide)|exact h
theorem Gr.of_use {n m:Int} {name:ByteArray} {ks:List Int} (h:m=0∧pathOK 2 name):Gr 2 n m name ks:=by
 constructor<;>intro e<;>first|exact absurd e (by decide)|exact h
theorem Gr.of_data {n m:Int} {name:ByteArray} {ks:List Int} (h:(0≤m∧m≤3)∧(n=0∧ks=[9,104]∨n=1∧∃vs,ks=9::vs∧∀x∈vs,x=4)):Gr 3 n m name ks:=by
 constructor<;>intro e<;>first|exact absurd e (by decide)|exact h
theorem Gr.of_variant {n m:Int} {name:ByteArray} {ks:List Int} (h:∀x∈ks,x=if name.size=0 then 105 else 5):Gr 4 n m name ks:=by
 constructor<;>intro e<;>first|exact absurd e (by decide)|exact h
theorem Gr.of_field {n m:Int} {name:ByteArray} {ks:List Int} (h:∃x,ks=[x]∧tyK x):Gr 5 n m name ks:=by
 constructor<;>intro e<;>first|exact absurd e (by decide)|exact h
theorem Gr.of_trait {n m:Int} {name:ByteArray} {ks:List Int} (h:(m=0∨m=1)∧∀x∈ks,x=8):Gr 6 n m name ks:=by
 constructor<;>intro e<;>first|exact absurd e (by decide)|exact h
theorem Gr.of_impl {n m:Int} {name:ByteArray} {ks:List Int} (h:pathOK 2 name∧∃x fs,ks=9::x::fs∧tyK x∧∀f∈fs,f=208):Gr 7 n m name ks:=by
 constructor<;>intro e<;>first|exact absurd e (by decide)|exact h
theorem Gr.of_fn {n m:Int} {name:ByteArray} {ks:List Int} (h:(m=0∨m=1)∧∃ps x rest,ks=9::(ps++x::rest)∧(ps.length:Int)=n∧(∀p∈ps,p=12)∧tyK x∧rest.length≤1∧∀y∈rest,noK y):Gr 8 n m name ks:=by
 constructor<;>intro e<;>first|exact absurd e (by decide)|exact h
theorem Gr.of_gens {n m:Int} {name:ByteArray} {ks:List Int} (h:∀x∈ks,x=10∨x=11) (hl:ks.length≤6100:=by simp):Gr 9 n m name ks:=by
 constructor<;>intro e<;>first|exact absurd e (by decide)|exact⟨hl,h⟩
theorem Gr.of_glife {n m:Int} {name:ByteArray} {ks:List Int} (h:∀x∈ks,x=19):Gr 10 n m name ks:=by
 constructor<;>intro e<;>first|exact absurd e (by decide)|exact h
theorem Gr.of_gtype {n m:Int} {name:ByteArray} {ks:List Int} (h:∀x∈ks,x=19∨x=18):Gr 11 n m name ks:=by
 constructor<;>intro e<;>first|exact absurd e (by decide)|exact h
theorem Gr.of_param {n m:Int} {name:ByteArray} {ks:List Int} (h:∃x,ks=[x]∧tyK x):Gr 12 n m name ks:=by
 constructor<;>intro e<;>first|exact absurd e (by decide)|exact h
theorem Gr.of_tuple {n m:Int} {name:ByteArray} {ks:List Int} (h:∀x∈ks,tyK x):Gr 15 n m name ks:=by
 constructor<;>intro e<;>first|exact absurd e (by decide)|exact h
theorem Gr.of_ref {n m:Int} {name:ByteArray} {ks:List Int} (h:(n=0∨n=1)∧∃x,ks=[x]∧tyK x):Gr 16 n m name ks:=by
 constructor<;>intro e<;>first|exact absurd e (by decide)|exact h
theorem Gr.of_fnt {n m:Int} {name:ByteArray} {ks:List Int} (h:ks≠[]∧∀x∈ks,tyK x):Gr 17 n m name ks:=by
 constructor<;>intro e<;>first|exact absurd e (by decide)|exact h
theorem Gr.of_path {n m:Int} {name:ByteArray} {ks:List Int} (h:pathOK 2 name∧∃ls ts,ks=ls++ts∧(∀x∈ls,x=19)∧∀x∈ts,tyK x):Gr 18 n m name ks:=by
 constructor<;>intro e<;>first|exact absurd e (by decide)|exact h
theorem Gr.of_eint {n m:Int} {name:ByteArray} {ks:List Int} (h:0≤n∧n≤9223372036854775807):Gr 20 n m name ks:=by
 constructor<;>intro e<;>first|exact absurd e (by decide)|exact h
theorem Gr.of_ebool {kind n m:Int} {name:ByteArray} {ks:List Int} (hk:kind=21∨kind=52) (h:n=0∨n=1):Gr kind n m name ks:=by
 constructor<;>intro e<;>first|exact h|(exfalso;omega)
theorem Gr.of_all {kind n m:Int} {name:ByteArray} {ks:List Int} (hk:kind=22∨kind=42∨kind=53) (h:∀x∈ks,noK x):Gr kind n m name ks:=by
 constructor<;>intro e<;>first|exact h|(exfalso;omega)
theorem Gr.of_pathed {kind n m:Int} {name:ByteArray} {ks:List Int} (hk:kind=23∨kind=54) (h:pathOK 3 name∧∀x∈ks,noK x):Gr kind n m name ks:=by
 constructor<;>intro e<;>first|exact h|(exfalso;omega)
theorem Gr.of_call {n m:Int} {name:ByteArray} {ks:List Int} (h:ks≠[]∧∀x∈ks,noK x):Gr 24 n m name ks:=by
 constructor<;>intro e<;>first|exact absurd e (by decide)|exact h
theorem Gr.of_part {n m:Int} {name:ByteArray} {ks:List Int} (h:(0≤n∧n≤9223372036854775807)∧∃x,ks=[x]∧noK x):Gr 25 n m name ks:=by
 constructor<;>intro e<;>first|exact absurd e (by decide)|exact h
theorem Gr.of_one {kind n m:Int} {name:ByteArray} {ks:List Int} (hk:kind=26∨kind=28∨kind=37∨kind=45) (h:∃x,ks=[x]∧noK x):Gr kind n m name ks:=by
 constructor<;>intro e<;>first|exact h|(exfalso;omega)
theorem Gr.of_lend {n m:Int} {name:ByteArray} {ks:List Int} (h:(n=0∨n=1)∧∃x,ks=[x]∧noK x):Gr 27 n m name ks:=by
 constructor<;>intro e<;>first|exact absurd e (by decide)|exact h
theorem Gr.of_two {kind n m:Int} {name:ByteArray} {ks:List Int} (hk:(29≤kind∧kind≤32)∨kind=35∨kind=36) (h:∃x y,ks=[x,y]∧noK x∧noK y):Gr kind n m name ks:=by
 constructor<;>intro e<;>first|exact h|(exfalso;omega)
theorem Gr.of_eif {n m:Int} {name:ByteArray} {ks:List Int} (h:∃x y zs,ks=x::y::zs∧zs.length≤1∧noK x∧noK y∧∀z∈zs,noK z):Gr 33 n m name ks:=by
 constructor<;>intro e<;>first|exact absurd e (by decide)|exact h
theorem Gr.of_ematch {n m:Int} {name:ByteArray} {ks:List Int} (h:∃x zs,ks=x::zs∧noK x∧∀z∈zs,z=35):Gr 34 n m name ks:=by
 constructor<;>intro e<;>first|exact absurd e (by decide)|exact h
theorem Gr.of_gives {n m:Int} {name:ByteArray} {ks:List Int} (h:ks.length≤1∧∀x∈ks,noK x):Gr 40 n m name ks:=by
 constructor<;>intro e<;>first|exact absurd e (by decide)|exact h
theorem Gr.of_elet {n m:Int} {name:ByteArray} {ks:List Int} (h:(∀x∈ks,noK x)∧(n=0∧ks.length=0∨(n=1∨n=2)∧ks.length=1∨n=3∧ks.length=2)):Gr 43 n m name ks:=by
 constructor<;>intro e<;>first|exact absurd e (by decide)|exact h
theorem Gr.of_make {n m:Int} {name:ByteArray} {ks:List Int} (h:pathOK 2 name∧∃ts zs,ks=ts++zs∧(ts.length:Int)=m∧(∀x∈ts,noK x)∧∀z∈zs,z=45):Gr 44 n m name ks:=by
 constructor<;>intro e<;>first|exact absurd e (by decide)|exact h
theorem Gr.of_clos {n m:Int} {name:ByteArray} {ks:List Int} (h:∃cs ps x y,ks=cs++(ps++[x,y])∧(cs.length:Int)=m∧(∀c∈cs,c=47)∧(∀p∈ps,p=12)∧noK x∧noK y):Gr 46 n m name ks:=by
 constructor<;>intro e<;>first|exact absurd e (by decide)|exact h
theorem Gr.of_spawn {n m:Int} {name:ByteArray} {ks:List Int} (h:∃cs x y,ks=cs++[x,y]∧(cs.length:Int)=m∧(∀c∈cs,c=47)∧noK x∧noK y):Gr 48 n m name ks:=by
 constructor<;>intro e<;>first|exact absurd e (by decide)|exact h
theorem Gr.of_pint {n m:Int} {name:ByteArray} {ks:List Int} (h: -9223372036854775808≤n∧n≤9223372036854775807):Gr 51 n m name ks:=by
 constructor<;>intro e<;>first|exact absurd e (by decide)|exact h
end Go.Proofs.YtagdihffmjopaaaGreatDoor
namespace Go.Proofs.YtagdihffmjopaaaGreatDoor
set_option linter.all false
open Go.RowKit
def argK (ks:List Int):Prop:=∃ls ts,ks=ls++ts∧(∀x∈ls,x=19)∧∀x∈ts,tyK x
end Go.Proofs.YtagdihffmjopaaaGreatDoor
namespace Go.Proofs.YtagdihffmjopaaaGreatDoor
set_option linter.all false
open Go.RowKit
theorem ok21b {w:World} {rb tb cap i:Nat} {t:Tk} {k a:Int} (h:Rd w rb tb cap t i k a):
 Calls Tryz.prog 9 #[.pointer (some ⟨rb,0,none⟩)] w fun e w'=>e=.returned (.bool (k==0))∧Below w.heap.size w w':=by
 refine(ok21 h).mono ?_
 rintro e w' ⟨rfl,rfl⟩
 exact⟨rfl,Below.refl _ _⟩
theorem Kids.alloc {B:Nat} {g:Prop} {w:World} {kv:Value} {vs:List (List Value)} (h:Kids B g w kv vs) (o:Obj):Kids B g (w.alloc o) kv vs:=h.same (Same.alloc _ _ _)
end Go.Proofs.YtagdihffmjopaaaGreatDoor
namespace Go.Proofs.YtagdihffmjopaaaGreatDoor
set_option linter.all false
open Go.RowKit
end Go.Proofs.YtagdihffmjopaaaGreatDoor
namespace Go.Proofs.YtagdihffmjopaaaGreatDoor
set_option linter.all false
open Go.RowKit
theorem isNode.low {S:Nat→Prop} {g:Prop} {w:World}:(h:Nat)→(cs:List Value)→isNode S g h w cs→isNode (fun b=>S b∧b<w.heap.size) g h w cs
 |0,_,hn=>hn
 |h+1,_,⟨kind,pos,n,m,name,kv,vs,h1,h2,h3,h3',h4,h5,h6,h7⟩=>
  ⟨kind,pos,n,m,name,kv,vs,h1,h2,h3,h3',h4,fun b hb=>⟨h5 b hb,(h4.lt b hb).2⟩,fun x hx=>isNode.low h x (h6 x hx),h7⟩
abbrev nodeC2 (akind apos an am:Int) (aname:ByteArray) (akv:Value) (bkind bpos bn bm:Int) (bname:ByteArray) (bkv:Value):Array Value:=#[.int .i64 akind,.int .i64 apos,.int .i64 an,.int .i64 am,.string aname,akv,.int .i64 0,.int .i64 0,.slice none 0 0,.slice none 0 0,.slice none 0 0,.int .i64 bkind,.int .i64 bpos,.int .i64 bn,.int .i64 bm,.string bname,bkv,.int .i64 0,.int .i64 0,.slice none 0 0,.slice none 0 0,.slice none 0 0]
end Go.Proofs.YtagdihffmjopaaaGreatDoor
namespace Go.Proofs.YtagdihffmjopaaaGreatDoor
set_option linter.all false
open Go.RowKit
set_option maxHeartbeats 1000000 in
theorem sign118 {w:World} {rb tb cap i:Nat} {t:Tk} {k a:Int} (h:Rd w rb tb cap t i k a) {sb:Nat} (L:List ByteArray) (hL:∀(j:Nat) (hj:j<L.length),w.cell? ⟨sb,j,none⟩=some (.string L[j])) (hsb:sb<w.heap.size) (hlen:L.length≤10) (hsz:∀x∈L,x.size≤10):
 Calls Tryz.prog 148 #[.pointer (some ⟨rb,0,none⟩),.slice (some ⟨sb,0,none⟩) L.length L.length] w fun e w'=>∃s:ByteArray,e=.returned (.string s)∧Below w.heap.size w w'∧s.size≤10∧(s.toList.isEmpty=false→isB t i k 0 s=true∧s∈L):=by
 have HL:Hid (∀(j:Nat) (hj:j<L.length),w.cell? ⟨sb,j,none⟩=some (.string L[j])):=hL
 clear hL
 go_enter Tryz.func148,Tryz.ntmps148
 go_wp2_with fail
 go_loopg [9,6] L.length (fun g u9 _ wr=>∃q:Nat,q≤L.length∧g=L.length - q∧u9=.int .i64 q∧Below w.heap.size w wr)
 case atStart=>exact⟨0,Nat.zero_le _,by omega,rfl,Below.refl _ _⟩
 case round=>
  obtain⟨q,hq,hgk,rfl,hb⟩:=hrel
  have HG:Hid (gk=L.length - q):=hgk
  clear hgk
  by_cases hlt:q<L.length
  ·have hlt':(q:Int)<(L.length:Int):=by omega
   have hc:wr.cell? ⟨sb,q,none⟩=some (.string L[q]):=by rw[hb.cell (p:=⟨sb,q,none⟩) hsb];exact HL.out q hlt
   have hr:=h.below hb
   obtain⟨x,hx⟩:∃x,x=L[q]:=⟨_,rfl⟩
   have HX:Hid (x=L[q]):=hx
   rw[←hx] at hc
   clear hx
   cases hs:isB t i k 0 x
   ·go_wp2_with (go_at_call 21;refine(is41 hr 0 (by decide) _).mono ?_;rintro e w2 ⟨rfl,hb2⟩)
    go_roundg (L.length - (q+1))
    case measure=>rw[HG.out];omega
    case rel=>exact⟨q+1,hlt,rfl,by go_num,hb.trans (hb2.mono hb.size)⟩
   ·go_wp2_with (go_at_call 21;refine(is41 hr 0 (by decide) _).mono ?_;rintro e w2 ⟨rfl,hb2⟩)
    go_ret
    exact⟨x,rfl,hb.trans (hb2.mono hb.size),by rw[HX.out];exact hsz _ (List.getElem_mem _),fun _=>⟨hs,by rw[HX.out];exact List.getElem_mem _⟩⟩
  ·go_wp2_with fail
   go_ret
   exact⟨⟨#[]⟩,rfl,hb,by decide,fun e=>by simp[Lib.toList_data] at e⟩
end Go.Proofs.YtagdihffmjopaaaGreatDoor
namespace Go.Proofs.YtagdihffmjopaaaGreatDoor
set_option linter.all false
open Go.RowKit
theorem str_row (w:World) (L:List ByteArray):∀(j:Nat) (hj:j<L.length),(w.alloc (.cells (L.map Value.string).toArray 9)).cell? ⟨w.heap.size,j,none⟩=some (.string L[j]):=by
 intro j hj
 rw[cell_of_row _ w.heap.size j _ 9 (0,0) (heap_alloc_new w _)]
 simp[hj]
end Go.Proofs.YtagdihffmjopaaaGreatDoor
namespace Go.Proofs.YtagdihffmjopaaaGreatDoor
set_option linter.all false
open Go.RowKit
end Go.Proofs.YtagdihffmjopaaaGreatDoor
