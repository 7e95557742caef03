/- The middle of a call that reads: the reader's state, the call's own blocks, one row that may still grow, the trees that it holds. -/
import Derived.Test.YtdplogkmkgekdaaGreatDoorPath
import Derived.Deep.Light
import Derived.Deep.RegionWith
import Derived.Deep.RegionLaw
set_option linter.all false
set_option maxRecDepth 100000
set_option maxHeartbeats 4000000
namespace Go.Proofs.YtdplogkmkgekdaaGreatDoor
open Go.RowKit
abbrev zeroC:Array Value:=nodeC 0 0 0 0 ⟨#[]⟩ (.slice none 0 0)
section
variable {w W w':World} {rb tb cap j:Nat} {t:Tk} {kj aj:Int} {b:Nat} {c:Array Value}
end
theorem eat_no {w:World} {rb tb cap i:Nat} {t:Tk} {k a:Int} (h:Rd w rb tb cap t i k a) (s:ByteArray) (hb:isB t i k 0 s=false):
 Calls Tryz.prog 45 #[.pointer (some ⟨rb,0,none⟩),.string s] w fun e w'=>e=.returned (.bool false)∧Below w.heap.size w w':=by
 go_enter Tryz.func45,Tryz.ntmps45
 go_wp2_with (go_at_call 44;refine(is41 h 0 (by omega) s).mono ?_;rintro e w1 ⟨rfl,hb1⟩)
 go_ret
 exact⟨rfl,hb1⟩
theorem eat_yes {w:World} {rb tb cap i:Nat} {t:Tk} {k a:Int} (h:Rd w rb tb cap t i k a) (s:ByteArray) (hb:isB t i k 0 s=true):
 Calls Tryz.prog 45 #[.pointer (some ⟨rb,0,none⟩),.string s] w fun e w'=>e=.returned (.bool true)∧Nx w rb tb cap t i k True w' (i+1) k a:=by
 refine(eat42 h s).mono ?_
 rintro e w1 ⟨b,i1,rfl,hE,h1,hk1⟩
 obtain rfl:b=true:=by rw[hE.is_];exact hb
 obtain⟨rfl,_⟩:=hE.yes rfl
 exact⟨rfl,h1,hk1,by omega,fun e=>e,fun _ _=>by omega⟩
theorem Kids.first {base:Nat} {g:Prop} {w:World} {ao:Option Addr} {cp:Nat} {v:List Value} (h:Kids base g w (.slice ao 1 cp) [v]):∃gb,ao=some ⟨gb,0,none⟩∧base≤gb∧gb<w.heap.size∧∃kind pos n m name ko kl kc,v=(nodeC kind pos n m name (.slice ko kl kc)).toList∧(∀o,o<11→w.cell? ⟨gb,o,none⟩=(nodeC kind pos n m name (.slice ko kl kc))[o]?)∧NodeIn base g w v:=by
 obtain⟨hr,hh,ha⟩:=h
 have hv:=ha v (by simp)
 rcases hr.2 with⟨h1,h2⟩|⟨gb,cap,cur,h1,hb,hg,hnc,hcm,hcs,htake⟩
 ·simp at h2
 ·simp only[Value.slice.injEq] at h1
  obtain⟨rfl,_,rfl⟩:=h1
  refine⟨gb,rfl,hb,(Array.getElem?_eq_some_iff.1 hg).1,?_⟩
  cases hh with
  |zero=>exact absurd hv (fun x=>x)
  |succ hh=>
   obtain⟨kind,pos,n,m,name,kv,vs,e1,e2,e3,e3',e4,e5,e6,e7⟩:=hv
   have hsh:∃ko kl kc,kv=.slice ko kl kc:=by
    rcases e4.2 with⟨x1,_⟩|⟨x,y,z,x1,_⟩
    ·exact⟨_,_,_,x1⟩
    ·exact⟨_,_,_,x1⟩
   obtain⟨ko,kl,kc,rfl⟩:=hsh
   refine⟨kind,pos,n,m,name,ko,kl,kc,e1,fun o ho=>?_,hh+1,kind,pos,n,m,name,.slice ko kl kc,vs,e1,e2,e3,e3',e4,fun b hb=>(e5 b hb).1,fun x hx=>isNode.weaken (fun b hb=>hb.1) (fun x=>x) _ _ (e6 x hx),e7⟩
   rw[cell_of_row w gb o cur 28 (0,0) hg]
   have e:cur.toList.take 11=(nodeC kind pos n m name (.slice ko kl kc)).toList:=by
    have:=htake
    simp only[List.length_cons,List.length_nil,List.flatten_cons,List.flatten_nil,List.append_nil] at this
    rw[←e1]
    exact this
   have e2:(cur.toList.take 11)[o]? =cur[o]? :=by rw[List.getElem?_take,if_pos ho];simp
   rw[←e2,e]
   simp
theorem Blk.set11 {w:World} {b:Nat} {d0 d1 d2 d3 d4 d5 d6 d7 d8 d9 d10:Value} (h:Blk w b #[d0,d1,d2,d3,d4,d5,d6,d7,d8,d9,d10]) (c0 c1 c2 c3 c4 c5 c6 c7 c8 c9 c10:Value):Blk (Go.Proofs.YtdplogkmkgekdaaGreatDoor.set11 w b c0 c1 c2 c3 c4 c5 c6 c7 c8 c9 c10) b #[c0,c1,c2,c3,c4,c5,c6,c7,c8,c9,c10]:=by
 have h0:Blk (w.setCell ⟨b,0,none⟩ c0) b #[c0,d1,d2,d3,d4,d5,d6,d7,d8,d9,d10]:=Blk.set h 0 c0
 have h1:Blk ((w.setCell ⟨b,0,none⟩ c0).setCell ⟨b,1,none⟩ c1) b #[c0,c1,d2,d3,d4,d5,d6,d7,d8,d9,d10]:=Blk.set h0 1 c1
 have h2:Blk (((w.setCell ⟨b,0,none⟩ c0).setCell ⟨b,1,none⟩ c1).setCell ⟨b,2,none⟩ c2) b #[c0,c1,c2,d3,d4,d5,d6,d7,d8,d9,d10]:=Blk.set h1 2 c2
 have h3:Blk ((((w.setCell ⟨b,0,none⟩ c0).setCell ⟨b,1,none⟩ c1).setCell ⟨b,2,none⟩ c2).setCell ⟨b,3,none⟩ c3) b #[c0,c1,c2,c3,d4,d5,d6,d7,d8,d9,d10]:=Blk.set h2 3 c3
 have h4:Blk (((((w.setCell ⟨b,0,none⟩ c0).setCell ⟨b,1,none⟩ c1).setCell ⟨b,2,none⟩ c2).setCell ⟨b,3,none⟩ c3).setCell ⟨b,4,none⟩ c4) b #[c0,c1,c2,c3,c4,d5,d6,d7,d8,d9,d10]:=Blk.set h3 4 c4
 have h5:Blk ((((((w.setCell ⟨b,0,none⟩ c0).setCell ⟨b,1,none⟩ c1).setCell ⟨b,2,none⟩ c2).setCell ⟨b,3,none⟩ c3).setCell ⟨b,4,none⟩ c4).setCell ⟨b,5,none⟩ c5) b #[c0,c1,c2,c3,c4,c5,d6,d7,d8,d9,d10]:=Blk.set h4 5 c5
 have h6:Blk (((((((w.setCell ⟨b,0,none⟩ c0).setCell ⟨b,1,none⟩ c1).setCell ⟨b,2,none⟩ c2).setCell ⟨b,3,none⟩ c3).setCell ⟨b,4,none⟩ c4).setCell ⟨b,5,none⟩ c5).setCell ⟨b,6,none⟩ c6) b #[c0,c1,c2,c3,c4,c5,c6,d7,d8,d9,d10]:=Blk.set h5 6 c6
 have h7:Blk ((((((((w.setCell ⟨b,0,none⟩ c0).setCell ⟨b,1,none⟩ c1).setCell ⟨b,2,none⟩ c2).setCell ⟨b,3,none⟩ c3).setCell ⟨b,4,none⟩ c4).setCell ⟨b,5,none⟩ c5).setCell ⟨b,6,none⟩ c6).setCell ⟨b,7,none⟩ c7) b #[c0,c1,c2,c3,c4,c5,c6,c7,d8,d9,d10]:=Blk.set h6 7 c7
 have h8:Blk (((((((((w.setCell ⟨b,0,none⟩ c0).setCell ⟨b,1,none⟩ c1).setCell ⟨b,2,none⟩ c2).setCell ⟨b,3,none⟩ c3).setCell ⟨b,4,none⟩ c4).setCell ⟨b,5,none⟩ c5).setCell ⟨b,6,none⟩ c6).setCell ⟨b,7,none⟩ c7).setCell ⟨b,8,none⟩ c8) b #[c0,c1,c2,c3,c4,c5,c6,c7,c8,d9,d10]:=Blk.set h7 8 c8
 have h9:Blk ((((((((((w.setCell ⟨b,0,none⟩ c0).setCell ⟨b,1,none⟩ c1).setCell ⟨b,2,none⟩ c2).setCell ⟨b,3,none⟩ c3).setCell ⟨b,4,none⟩ c4).setCell ⟨b,5,none⟩ c5).setCell ⟨b,6,none⟩ c6).setCell ⟨b,7,none⟩ c7).setCell ⟨b,8,none⟩ c8).setCell ⟨b,9,none⟩ c9) b #[c0,c1,c2,c3,c4,c5,c6,c7,c8,c9,d10]:=Blk.set h8 9 c9
 have h10:Blk (((((((((((w.setCell ⟨b,0,none⟩ c0).setCell ⟨b,1,none⟩ c1).setCell ⟨b,2,none⟩ c2).setCell ⟨b,3,none⟩ c3).setCell ⟨b,4,none⟩ c4).setCell ⟨b,5,none⟩ c5).setCell ⟨b,6,none⟩ c6).setCell ⟨b,7,none⟩ c7).setCell ⟨b,8,none⟩ c8).setCell ⟨b,9,none⟩ c9).setCell ⟨b,10,none⟩ c10) b #[c0,c1,c2,c3,c4,c5,c6,c7,c8,c9,c10]:=Blk.set h9 10 c10
 exact h10
theorem results_node {fn:Func} {r:Nat} (hf:fn.results=#[.cell r 28]) {tmps:Array Value} {b:Nat} (ht:tmps.getD r undef=.pointer (some ⟨b,0,none⟩)) {W:World} {c0 c1 c2 c3 c4 c5 c6 c7 c8 c9 c10:Value} (hB:Blk W b #[c0,c1,c2,c3,c4,c5,c6,c7,c8,c9,c10]):
 (results fn tmps).run Tryz.prog W=.ok (.agg #[c0,c1,c2,c3,c4,c5,c6,c7,c8,c9,c10]) W:=by
 have y:=hB.cell
 have ht':tmps[r]?.getD undef=.pointer (some ⟨b,0,none⟩):=by simpa using ht
 simp[results,hf,ht',go_sem,y]
theorem Kids.put {base:Nat} {g:Prop} {w:World} {kv:Value} {vs:List (List Value)} (h:Kids base g w kv vs) {b:Nat} (hb:b<base) (o:Nat) (u:Value):Kids base g (w.setCell ⟨b,o,none⟩ u) kv vs:=
 h.same (Same.setCell _ ⟨b,o,none⟩ _ (by show ¬base≤b;omega))
theorem NodeIn.name {base:Nat} {g:Prop} {w:World} {kind pos n m:Int} {name:ByteArray} {kv:Value} (h:NodeIn base g w (nodeC kind pos n m name kv).toList):name.size≤20000:=by
 obtain⟨hh,h⟩:=h
 cases hh with
 |zero=>exact absurd h (fun x=>x)
 |succ hh=>
  obtain⟨kind',pos',n',m',name',kv',vs,e1,e2,_⟩:=h
  simp at e1
  rw[e1.2.2.2.2.1]
  exact e2
theorem Gr.of_prog {n m:Int} {name:ByteArray} {ks:List Int} (h:∀x∈ks,x=1):Gr 0 n m name ks:=by
 constructor<;>intro e<;>first|exact absurd e (by decide)|exact h
theorem Gr.of_mod {n m:Int} {name:ByteArray} {ks:List Int} (h:∀x∈ks,x=2∨x=3∨x=6∨x=7∨x=108∨x=208):Gr 1 n m name ks:=by
 constructor<;>intro e<;>first|exact absurd e (by decide)|exact h
theorem Gr.of_use {n m:Int} {name:ByteArray} {ks:List Int} (h:m=0∧pathOK 2 name):Gr 2 n m name ks:=by
 constructor<;>intro e<;>first|exact absurd e (by decide)|exact h
theorem Gr.of_data {n m:Int} {name:ByteArray} {ks:List Int} (h:(0≤m∧m≤3)∧(n=0∧ks=[9,104]∨n=1∧∃vs,ks=9::vs∧∀x∈vs,x=4)):Gr 3 n m name ks:=by
 constructor<;>intro e<;>first|exact absurd e (by decide)|exact h
theorem Gr.of_variant {n m:Int} {name:ByteArray} {ks:List Int} (h:∀x∈ks,x=if name.size=0 then 105 else 5):Gr 4 n m name ks:=by
 constructor<;>intro e<;>first|exact absurd e (by decide)|exact h
theorem Gr.of_field {n m:Int} {name:ByteArray} {ks:List Int} (h:∃x,ks=[x]∧tyK x):Gr 5 n m name ks:=by
 constructor<;>intro e<;>first|exact absurd e (by decide)|exact h
theorem Gr.of_trait {n m:Int} {name:ByteArray} {ks:List Int} (h:(m=0∨m=1)∧∀x∈ks,x=8):Gr 6 n m name ks:=by
 constructor<;>intro e<;>first|exact absurd e (by decide)|exact h
theorem Gr.of_impl {n m:Int} {name:ByteArray} {ks:List Int} (h:pathOK 2 name∧∃x fs,ks=9::x::fs∧tyK x∧∀f∈fs,f=208):Gr 7 n m name ks:=by
 constructor<;>intro e<;>first|exact absurd e (by decide)|exact h
theorem Gr.of_fn {n m:Int} {name:ByteArray} {ks:List Int} (h:(m=0∨m=1)∧∃ps x rest,ks=9::(ps++x::rest)∧(ps.length:Int)=n∧(∀p∈ps,p=12)∧tyK x∧rest.length≤1∧∀y∈rest,noK y):Gr 8 n m name ks:=by
 constructor<;>intro e<;>first|exact absurd e (by decide)|exact h
theorem Gr.of_gens {n m:Int} {name:ByteArray} {ks:List Int} (h:∀x∈ks,x=10∨x=11) (hl:ks.length≤6100:=by simp):Gr 9 n m name ks:=by
 constructor<;>intro e<;>first|exact absurd e (by decide)|exact⟨hl,h⟩
theorem Gr.of_glife {n m:Int} {name:ByteArray} {ks:List Int} (h:∀x∈ks,x=19):Gr 10 n m name ks:=by
 constructor<;>intro e<;>first|exact absurd e (by decide)|exact h
theorem Gr.of_gtype {n m:Int} {name:ByteArray} {ks:List Int} (h:∀x∈ks,x=19∨x=18):Gr 11 n m name ks:=by
 constructor<;>intro e<;>first|exact absurd e (by decide)|exact h
theorem Gr.of_param {n m:Int} {name:ByteArray} {ks:List Int} (h:∃x,ks=[x]∧tyK x):Gr 12 n m name ks:=by
 constructor<;>intro e<;>first|exact absurd e (by decide)|exact h
theorem Gr.of_tuple {n m:Int} {name:ByteArray} {ks:List Int} (h:∀x∈ks,tyK x):Gr 15 n m name ks:=by
 constructor<;>intro e<;>first|exact absurd e (by decide)|exact h
theorem Gr.of_ref {n m:Int} {name:ByteArray} {ks:List Int} (h:(n=0∨n=1)∧∃x,ks=[x]∧tyK x):Gr 16 n m name ks:=by
 constructor<;>intro e<;>first|exact absurd e (by decide)|exact h
theorem Gr.of_fnt {n m:Int} {name:ByteArray} {ks:List Int} (h:ks≠[]∧∀x∈ks,tyK x):Gr 17 n m name ks:=by
 constructor<;>intro e<;>first|exact absurd e (by decide)|exact h
theorem Gr.of_path {n m:Int} {name:ByteArray} {ks:List Int} (h:pathOK 2 name∧∃ls ts,ks=ls++ts∧(∀x∈ls,x=19)∧∀x∈ts,tyK x):Gr 18 n m name ks:=by
 constructor<;>intro e<;>first|exact absurd e (by decide)|exact h
theorem Gr.of_eint {n m:Int} {name:ByteArray} {ks:List Int} (h:0≤n∧n≤9223372036854775807):Gr 20 n m name ks:=by
 constructor<;>intro e<;>first|exact absurd e (by decide)|exact h
theorem Gr.of_ebool {kind n m:Int} {name:ByteArray} {ks:List Int} (hk:kind=21∨kind=52) (h:n=0∨n=1):Gr kind n m name ks:=by
 constructor<;>intro e<;>first|exact h|(exfalso;omega)
theorem Gr.of_all {kind n m:Int} {name:ByteArray} {ks:List Int} (hk:kind=22∨kind=42∨kind=53) (h:∀x∈ks,noK x):Gr kind n m name ks:=by
 constructor<;>intro e<;>first|exact h|(exfalso;omega)
theorem Gr.of_pathed {kind n m:Int} {name:ByteArray} {ks:List Int} (hk:kind=23∨kind=54) (h:pathOK 3 name∧∀x∈ks,noK x):Gr kind n m name ks:=by
 constructor<;>intro e<;>first|exact h|(exfalso;omega)
theorem Gr.of_call {n m:Int} {name:ByteArray} {ks:List Int} (h:ks≠[]∧∀x∈ks,noK x):Gr 24 n m name ks:=by
 constructor<;>intro e<;>first|exact absurd e (by decide)|exact h
theorem Gr.of_part {n m:Int} {name:ByteArray} {ks:List Int} (h:(0≤n∧n≤9223372036854775807)∧∃x,ks=[x]∧noK x):Gr 25 n m name ks:=by
 constructor<;>intro e<;>first|exact absurd e (by decide)|exact h
theorem Gr.of_one {kind n m:Int} {name:ByteArray} {ks:List Int} (hk:kind=26∨kind=28∨kind=37∨kind=45) (h:∃x,ks=[x]∧noK x):Gr kind n m name ks:=by
 constructor<;>intro e<;>first|exact h|(exfalso;omega)
theorem Gr.of_lend {n m:Int} {name:ByteArray} {ks:List Int} (h:(n=0∨n=1)∧∃x,ks=[x]∧noK x):Gr 27 n m name ks:=by
 constructor<;>intro e<;>first|exact absurd e (by decide)|exact h
theorem Gr.of_two {kind n m:Int} {name:ByteArray} {ks:List Int} (hk:(29≤kind∧kind≤32)∨kind=35∨kind=36) (h:∃x y,ks=[x,y]∧noK x∧noK y):Gr kind n m name ks:=by
 constructor<;>intro e<;>first|exact h|(exfalso;omega)
theorem Gr.of_eif {n m:Int} {name:ByteArray} {ks:List Int} (h:∃x y zs,ks=x::y::zs∧zs.length≤1∧noK x∧noK y∧∀z∈zs,noK z):Gr 33 n m name ks:=by
 constructor<;>intro e<;>first|exact absurd e (by decide)|exact h
theorem Gr.of_ematch {n m:Int} {name:ByteArray} {ks:List Int} (h:∃x zs,ks=x::zs∧noK x∧∀z∈zs,z=35):Gr 34 n m name ks:=by
 constructor<;>intro e<;>first|exact absurd e (by decide)|exact h
theorem Gr.of_gives {n m:Int} {name:ByteArray} {ks:List Int} (h:ks.length≤1∧∀x∈ks,noK x):Gr 40 n m name ks:=by
 constructor<;>intro e<;>first|exact absurd e (by decide)|exact h
theorem Gr.of_elet {n m:Int} {name:ByteArray} {ks:List Int} (h:(∀x∈ks,noK x)∧(n=0∧ks.length=0∨(n=1∨n=2)∧ks.length=1∨n=3∧ks.length=2)):Gr 43 n m name ks:=by
 constructor<;>intro e<;>first|exact absurd e (by decide)|exact h
theorem Gr.of_make {n m:Int} {name:ByteArray} {ks:List Int} (h:pathOK 2 name∧∃ts zs,ks=ts++zs∧(ts.length:Int)=m∧(∀x∈ts,noK x)∧∀z∈zs,z=45):Gr 44 n m name ks:=by
 constructor<;>intro e<;>first|exact absurd e (by decide)|exact h
theorem Gr.of_clos {n m:Int} {name:ByteArray} {ks:List Int} (h:∃cs ps x y,ks=cs++(ps++[x,y])∧(cs.length:Int)=m∧(∀c∈cs,c=47)∧(∀p∈ps,p=12)∧noK x∧noK y):Gr 46 n m name ks:=by
 constructor<;>intro e<;>first|exact absurd e (by decide)|exact h
theorem Gr.of_spawn {n m:Int} {name:ByteArray} {ks:List Int} (h:∃cs x y,ks=cs++[x,y]∧(cs.length:Int)=m∧(∀c∈cs,c=47)∧noK x∧noK y):Gr 48 n m name ks:=by
 constructor<;>intro e<;>first|exact absurd e (by decide)|exact h
theorem Gr.of_pint {n m:Int} {name:ByteArray} {ks:List Int} (h: -9223372036854775808≤n∧n≤9223372036854775807):Gr 51 n m name ks:=by
 constructor<;>intro e<;>first|exact absurd e (by decide)|exact h
end Go.Proofs.YtdplogkmkgekdaaGreatDoor
namespace Go.Proofs.YtdplogkmkgekdaaGreatDoor
open Go.RowKit
def argK (ks:List Int):Prop:=∃ls ts,ks=ls++ts∧(∀x∈ls,x=19)∧∀x∈ts,tyK x
end Go.Proofs.YtdplogkmkgekdaaGreatDoor
namespace Go.Proofs.YtdplogkmkgekdaaGreatDoor
open Go.RowKit
theorem ok21b {w:World} {rb tb cap i:Nat} {t:Tk} {k a:Int} (h:Rd w rb tb cap t i k a):
 Calls Tryz.prog 18 #[.pointer (some ⟨rb,0,none⟩)] w fun e w'=>e=.returned (.bool (k==0))∧Below w.heap.size w w':=by
 refine(ok21 h).mono ?_
 rintro e w' ⟨rfl,rfl⟩
 exact⟨rfl,Below.refl _ _⟩
theorem Kids.alloc {B:Nat} {g:Prop} {w:World} {kv:Value} {vs:List (List Value)} (h:Kids B g w kv vs) (o:Obj):Kids B g (w.alloc o) kv vs:=h.same (Same.alloc _ _ _)
end Go.Proofs.YtdplogkmkgekdaaGreatDoor
namespace Go.Proofs.YtdplogkmkgekdaaGreatDoor
open Go.RowKit
end Go.Proofs.YtdplogkmkgekdaaGreatDoor
namespace Go.Proofs.YtdplogkmkgekdaaGreatDoor
open Go.RowKit
theorem isNode.low {S:Nat→Prop} {g:Prop} {w:World}:(h:Nat)→(cs:List Value)→isNode S g h w cs→isNode (fun b=>S b∧b<w.heap.size) g h w cs
 |0,_,hn=>hn
 |h+1,_,⟨kind,pos,n,m,name,kv,vs,h1,h2,h3,h3',h4,h5,h6,h7⟩=>
  ⟨kind,pos,n,m,name,kv,vs,h1,h2,h3,h3',h4,fun b hb=>⟨h5 b hb,(h4.lt b hb).2⟩,fun x hx=>isNode.low h x (h6 x hx),h7⟩
abbrev nodeC2 (akind apos an am:Int) (aname:ByteArray) (akv:Value) (bkind bpos bn bm:Int) (bname:ByteArray) (bkv:Value):Array Value:=#[.int .i64 akind,.int .i64 apos,.int .i64 an,.int .i64 am,.string aname,akv,.int .i64 0,.int .i64 0,.slice none 0 0,.slice none 0 0,.slice none 0 0,.int .i64 bkind,.int .i64 bpos,.int .i64 bn,.int .i64 bm,.string bname,bkv,.int .i64 0,.int .i64 0,.slice none 0 0,.slice none 0 0,.slice none 0 0]
end Go.Proofs.YtdplogkmkgekdaaGreatDoor
namespace Go.Proofs.YtdplogkmkgekdaaGreatDoor
open Go.RowKit
end Go.Proofs.YtdplogkmkgekdaaGreatDoor
namespace Go.Proofs.YtdplogkmkgekdaaGreatDoor
open Go.RowKit
theorem str_row (w:World) (L:List ByteArray):∀(j:Nat) (hj:j<L.length),(w.alloc (.cells (L.map Value.string).toArray 9)).cell? ⟨w.heap.size,j,none⟩=some (.string L[j]):=by
 intro j hj
 rw[cell_of_row _ w.heap.size j _ 9 (0,0) (heap_alloc_new w _)]
 simp[hj]
end Go.Proofs.YtdplogkmkgekdaaGreatDoor
namespace Go.Proofs.YtdplogkmkgekdaaGreatDoor
open Go.RowKit
end Go.Proofs.YtdplogkmkgekdaaGreatDoor
namespace Go.Proofs.YtdplogkmkgekdaaGreatDoor
open Go.RowKit
def Out (w:World) (A:List Nat) (kv:Value) (b:Nat):Prop:=w.heap.size≤b∧b∉A∧kv.ownBlock≠some b
def adr (p:Nat × Array Value):Nat:=p.1
structure Mid (w:World) (rb tb cap:Nat) (t:Tk) (i:Nat) (k:Int) (g:Prop) (W:World) (j:Nat) (kj aj:Int) (L:List (Nat × Array Value)) (T:List (List Value)) (kv:Value) (vs:List (List Value)):Prop where
 st:St w rb tb cap t W j kj aj
 le:i≤j
 ok:kj=0→k=0
 go:g→kj=0→i<j
 blk:∀(n:Nat) (p:Nat × Array Value),L[n]? =some p→w.heap.size≤adr p∧Blk W (adr p) p.2
 nd:(L.map adr).Nodup
 row:W.ownsRow w.heap.size 28 11 kv vs.length vs.flatten
 rown:∀b,kv.ownBlock=some b→b∉L.map adr
 all:∃h,∀x,x∈vs∨x∈T→isNode (Out w (L.map adr) kv) (kj=0) h W x
section
variable {w W w':World} {rb tb cap i j:Nat} {t:Tk} {k kj aj:Int} {g:Prop} {L:List (Nat × Array Value)} {T:List (List Value)} {kv:Value} {vs:List (List Value)}
theorem Mid.start {a:Int} (h:Rd w rb tb cap t i k a):Mid w rb tb cap t i k False w i k a [] [] (.slice none 0 0) []:=
 ⟨h.st,Nat.le_refl _,fun e=>e,fun e=>absurd e (fun x=>x),fun n p e=>by simp at e,by simp,World.ownsRow_nil _ _ _ _,fun b e=>by simp,0,fun x hx=>by simp at hx⟩
theorem Mid.lt (q:Mid w rb tb cap t i k g W j kj aj L T kv vs):∀b∈L.map adr,b<W.heap.size:=by
 intro b hb
 obtain⟨p,hp,rfl⟩:=List.mem_map.1 hb
 obtain⟨n,hn⟩:=List.getElem?_of_mem hp
 exact(q.blk n p hn).2.lt
theorem Mid.klt (q:Mid w rb tb cap t i k g W j kj aj L T kv vs):∀b,kv.ownBlock=some b→b<W.heap.size:=fun b hb=>(q.row.lt b hb).2
theorem Mid.rk (q:Mid w rb tb cap t i k g W j kj aj L T kv vs) {i':Nat} {k' a':Int} (h1:Rd w' rb tb cap t i' k' a') (h2:Kp W.heap.size rb W w') (hle:j≤i') (hok:k'=0→kj=0):Mid w rb tb cap t i k g w' i' k' a' L T kv vs:=by
 have hlb:=q.st.lb
 refine⟨q.st.rk h1 h2,Nat.le_trans q.le hle,fun e=>q.ok (hok e),fun x e=>Nat.lt_of_lt_of_le (q.go x (hok e)) hle,fun n p e=>⟨(q.blk n p e).1,(q.blk n p e).2.kp h2 (by have:=(q.blk n p e).1;omega)⟩,q.nd,ownsRow_same q.row (fun b hb hl=>h2.block b hl (by have:=(q.row.lt b hb).1;omega)),q.rown,?_⟩
 obtain⟨h,ha⟩:=q.all
 exact⟨h,fun x hx=>isNode.weaken (fun b hb=>hb) hok _ _ (isNode.frame (Same.kp h2 (fun e=>by have:=e.1;omega)) _ _ (ha x hx))⟩
theorem Mid.nx (q:Mid w rb tb cap t i k g W j kj aj L T kv vs) {must:Prop} {i':Nat} {k' a':Int} (hx:Nx W rb tb cap t j kj must w' i' k' a'):Mid w rb tb cap t i k g w' i' k' a' L T kv vs:=q.rk hx.rd hx.kp hx.le hx.ok
theorem Mid.up (q:Mid w rb tb cap t i k g W j kj aj L T kv vs) {g':Prop} (hg:g'→kj=0→i<j):Mid w rb tb cap t i k g' W j kj aj L T kv vs:=⟨q.st,q.le,q.ok,hg,q.blk,q.nd,q.row,q.rown,q.all⟩
theorem Mid.nxm (q:Mid w rb tb cap t i k g W j kj aj L T kv vs) {i':Nat} {k' a':Int} (hx:Nx W rb tb cap t j kj True w' i' k' a'):Mid w rb tb cap t i k True w' i' k' a' L T kv vs:=(q.nx hx).up (fun _ e=>Nat.lt_of_le_of_lt q.le (hx.go trivial e))
theorem Mid.below (q:Mid w rb tb cap t i k g W j kj aj L T kv vs) (hb:Below W.heap.size W w'):Mid w rb tb cap t i k g w' j kj aj L T kv vs:=q.nx (Nx.below q.st.rd hb)
theorem Mid.alloc (q:Mid w rb tb cap t i k g W j kj aj L T kv vs) (o:Obj):Mid w rb tb cap t i k g (W.alloc o) j kj aj L T kv vs:=q.below ((Below.refl _ _).alloc (Nat.le_refl _) o)
theorem Mid.new (q:Mid w rb tb cap t i k g W j kj aj L T kv vs) (c:Array Value):Mid w rb tb cap t i k g (W.alloc (.cells c 28)) j kj aj ((W.heap.size,c)::L) T kv vs:=by
 have q1:=q.alloc (.cells c 28)
 refine⟨q1.st,q1.le,q1.ok,q1.go,?_,?_,q1.row,?_,?_⟩
 ·intro n p e
  cases n with
  |zero=>
   obtain rfl:(W.heap.size,c)=p:=by simpa using e
   exact⟨q.st.size,Blk.new W c⟩
  |succ n=>exact q1.blk n p (by simpa using e)
 ·rw[List.map_cons,List.nodup_cons]
  exact⟨fun e=>absurd (q.lt _ e) (Nat.lt_irrefl _),q.nd⟩
 ·intro b hb e
  rw[List.map_cons,List.mem_cons] at e
  rcases e with e|e
  ·have:=q.klt b hb
   simp[adr] at e
   omega
  ·exact q.rown b hb e
 ·obtain⟨h,ha⟩:=q.all
  refine⟨h,fun x hx=>isNode.frame (Same.alloc _ _ _) _ _ (isNode.weaken ?_ (fun x=>x) _ _ (isNode.low _ _ (ha x hx)))⟩
  rintro b ⟨⟨h1,h2,h3⟩,h4⟩
  refine⟨h1,?_,h3⟩
  rw[List.map_cons,List.mem_cons]
  rintro(e|e)
  ·simp[adr] at e;omega
  ·exact h2 e
theorem map_set_adr {n b:Nat} {c c':Array Value} (hn:L[n]? =some (b,c)):(L.set n (b,c')).map adr=L.map adr:=by
 apply List.ext_getElem?
 intro m
 rw[List.getElem?_map,List.getElem?_map,List.getElem?_set]
 by_cases e:n=m
 ·subst e
  rw[if_pos rfl,hn]
  have:n<L.length:=(List.getElem?_eq_some_iff.1 hn).1
  simp[this,adr]
 ·rw[if_neg e]
theorem Mid.put (q:Mid w rb tb cap t i k g W j kj aj L T kv vs) (n:Nat) {b:Nat} {c:Array Value} (hn:L[n]? =some (b,c)) (o:Nat) (u:Value):Mid w rb tb cap t i k g (W.setCell ⟨b,o,none⟩ u) j kj aj (L.set n (b,c.setIfInBounds o u)) T kv vs:=by
 have hb:=(q.blk n _ hn).1
 have hB:=(q.blk n _ hn).2
 have hmem:b∈L.map adr:=List.mem_map.2 ⟨_,List.mem_of_getElem? hn,rfl⟩
 have hmap:(L.set n (b,c.setIfInBounds o u)).map adr=L.map adr:=map_set_adr hn
 refine⟨q.st.put hb o u,q.le,q.ok,q.go,?_,by rw[hmap];exact q.nd,?_,by rw[hmap];exact q.rown,?_⟩
 ·intro m p e
  rw[List.getElem?_set] at e
  by_cases hm:n=m
  ·subst hm
   rw[if_pos rfl] at e
   have hl:n<L.length:=(List.getElem?_eq_some_iff.1 hn).1
   rw[if_pos hl] at e
   obtain rfl:(b,c.setIfInBounds o u)=p:=by simpa using e
   exact⟨hb,hB.set o u⟩
  ·rw[if_neg hm] at e
   refine⟨(q.blk m p e).1,(q.blk m p e).2.other (p:=⟨b,o,none⟩) (fun e2=>hm ?_) u⟩
   have hl:n<(L.map adr).length:=by rw[List.length_map];exact(List.getElem?_eq_some_iff.1 hn).1
   refine(List.getElem?_inj hl q.nd).1 ?_
   rw[List.getElem?_map,List.getElem?_map,hn,e]
   show some b=some (adr p)
   rw[e2]
 ·exact ownsRow_same q.row (fun x hx _=>Below.heap_setCell _ _ _ _ (fun e=>q.rown x hx (by rw[e];exact hmem)))
 ·obtain⟨h,ha⟩:=q.all
  rw[hmap]
  exact⟨h,fun x hx=>isNode.frame (Same.setCell _ ⟨b,o,none⟩ _ (fun e=>e.2.1 hmem)) _ _ (ha x hx)⟩
theorem Mid.goI (q:Mid w rb tb cap t i k g W j kj aj L T kv vs) {j':Nat} (hj:j'<t.len) (hle:j<j'):Mid w rb tb cap t i k True (W.setCell ⟨rb,1,none⟩ (.int .i64 j')) j' kj aj L T kv vs:=
 (q.rk (q.st.rd.setI hj) (Kp.setCell (p:=⟨rb,1,none⟩) (Kp.refl _ _ _) (.inr rfl) _) (Nat.le_of_lt hle) (fun e=>e)).up (fun _ _=>Nat.lt_of_le_of_lt q.le hle)
theorem Mid.hold (q:Mid w rb tb cap t i k g W j kj aj L T kv vs) {B:Nat} (h0:w.heap.size≤B) (h1:∀b∈L.map adr,b<B) (h2:∀b,kv.ownBlock=some b→b<B) {c:List Value} (hn:NodeIn B (kj=0) W c):Mid w rb tb cap t i k g W j kj aj L (c::T) kv vs:=by
 obtain⟨h,ha⟩:=q.all
 obtain⟨h',hc⟩:=hn
 refine⟨q.st,q.le,q.ok,q.go,q.blk,q.nd,q.row,q.rown,max h h',fun x hx=>?_⟩
 have hx':(x∈vs∨x∈T)∨x=c:=by
  rcases hx with hx|hx
  ·exact .inl (.inl hx)
  ·rcases List.mem_cons.1 hx with hx|hx
   ·exact .inr hx
   ·exact .inl (.inr hx)
 rcases hx' with hx|rfl
 ·exact isNode.le (ha x hx) _ (Nat.le_max_left _ _)
 ·exact isNode.le (isNode.weaken (fun b hb=>⟨Nat.le_trans h0 hb,fun e=>absurd (h1 b e) (Nat.not_lt.2 hb),fun e=>absurd (h2 b e) (Nat.not_lt.2 hb)⟩) (fun x=>x) _ _ hc) _ (Nat.le_max_right _ _)
theorem Mid.node (q:Mid w rb tb cap t i k g W j kj aj L T kv vs) {must:Prop} {i':Nat} {k' a':Int} (hx:Nx W rb tb cap t j kj must w' i' k' a') {c:List Value} (hn:NodeIn W.heap.size (k'=0) w' c):Mid w rb tb cap t i k g w' i' k' a' L (c::T) kv vs:=
 (q.nx hx).hold q.st.size q.lt q.klt hn
theorem Mid.nodem (q:Mid w rb tb cap t i k g W j kj aj L T kv vs) {i':Nat} {k' a':Int} (hx:Nx W rb tb cap t j kj True w' i' k' a') {c:List Value} (hn:NodeIn W.heap.size (k'=0) w' c):Mid w rb tb cap t i k True w' i' k' a' L (c::T) kv vs:=
 (q.nxm hx).hold q.st.size q.lt q.klt hn
theorem Mid.holds (q:Mid w rb tb cap t i k g W j kj aj L T kv vs) {must:Prop} {i':Nat} {k' a':Int} (hx:Nx W rb tb cap t j kj must w' i' k' a') {kv':Value} {vs':List (List Value)} (hK:Kids W.heap.size (k'=0) w' kv' vs'):Mid w rb tb cap t i k g w' i' k' a' L (vs'++T) kv vs:=by
 have q1:=q.nx hx
 obtain⟨h,ha⟩:=q1.all
 obtain⟨h',hc⟩:=hK.all
 refine⟨q1.st,q1.le,q1.ok,q1.go,q1.blk,q1.nd,q1.row,q1.rown,max h h',fun x hx=>?_⟩
 have hx':(x∈vs∨x∈T)∨x∈vs':=by
  rcases hx with hx|hx
  ·exact .inl (.inl hx)
  ·rcases List.mem_append.1 hx with hx|hx
   ·exact .inr hx
   ·exact .inl (.inr hx)
 rcases hx' with hx|hx
 ·exact isNode.le (ha x hx) _ (Nat.le_max_left _ _)
 ·exact isNode.le (isNode.weaken (fun b hb=>⟨Nat.le_trans q.st.size hb.1,fun e=>absurd (q.lt b e) (Nat.not_lt.2 hb.1),fun e=>absurd (q.klt b e) (Nat.not_lt.2 hb.1)⟩) (fun x=>x) _ _ (hc x hx)) _ (Nat.le_max_right _ _)
theorem Mid.list (q:Mid w rb tb cap t i k g W j kj aj L T (.slice none 0 0) []) {must:Prop} {i':Nat} {k' a':Int} (hx:Nx W rb tb cap t j kj must w' i' k' a') {kv':Value} {vs':List (List Value)} (hK:Kids W.heap.size (k'=0) w' kv' vs'):Mid w rb tb cap t i k g w' i' k' a' L T kv' vs':=by
 have q1:=q.nx hx
 obtain⟨h,ha⟩:=q.all
 obtain⟨h',hc⟩:=hK.all
 refine⟨q1.st,q1.le,q1.ok,q1.go,q1.blk,q1.nd,ownsRow_mono hK.row q.st.size,fun b hb e=>absurd (q.lt b e) (Nat.not_lt.2 (hK.row.lt b hb).1),max h h',fun x hx'=>?_⟩
 rcases hx' with hx'|hx'
 ·exact isNode.le (isNode.weaken (fun b hb=>⟨Nat.le_trans q.st.size hb.1,fun e=>absurd (q.lt b e) (Nat.not_lt.2 hb.1),hb.2⟩) (fun x=>x) _ _ (hc x hx')) _ (Nat.le_max_right _ _)
 ·have a1:=isNode.frame (Same.kp hx.kp (fun e=>by have:=e.1.1;have:=q.st.lb;omega)) _ _ (isNode.low _ _ (ha x (.inr hx')))
  refine isNode.le (isNode.weaken ?_ hx.ok _ _ a1) _ (Nat.le_max_left _ _)
  rintro b ⟨⟨h1,h2,_⟩,h4⟩
  exact⟨h1,h2,fun e=>absurd (hK.row.lt b e).1 (Nat.not_le.2 h4)⟩
theorem Mid.sub (q:Mid w rb tb cap t i k g W j kj aj L T kv vs) {T':List (List Value)} (hT:∀x∈T',x∈T):Mid w rb tb cap t i k g W j kj aj L T' kv vs:=by
 obtain⟨h,ha⟩:=q.all
 exact⟨q.st,q.le,q.ok,q.go,q.blk,q.nd,q.row,q.rown,h,fun x hx=>ha x (hx.imp (fun x=>x) (hT x))⟩
theorem Mid.app {us:List (List Value)} (q:Mid w rb tb cap t i k g W j kj aj L (us++T) kv vs) {v':Value} (hown:w'.ownsRow w.heap.size 28 11 v' (vs.length+us.length) (vs.flatten++us.flatten)) (hg:W.grownBy w' kv.ownBlock) (hv:v'.ownBlock=kv.ownBlock∨v'.ownBlock=some W.heap.size):Mid w rb tb cap t i k g w' j kj aj L T v' (vs++us):=by
 obtain⟨h,ha⟩:=q.all
 refine⟨q.st.grown hg (fun b hb=>(q.row.lt b hb).1),q.le,q.ok,q.go,fun n p e=>⟨(q.blk n p e).1,(q.blk n p e).2.grown hg (fun e2=>q.rown _ e2.symm (List.mem_map.2 ⟨p,List.mem_of_getElem? e,rfl⟩))⟩,q.nd,by simpa using hown,?_,h,fun x hx=>?_⟩
 ·intro b hb e
  rcases hv with hv|hv
  ·exact q.rown b (by rw[←hv];exact hb) e
  ·rw[hv] at hb
   have:=q.lt b e
   simp at hb
   omega
 ·have hx':x∈vs∨x∈us++T:=by
   rcases hx with hx|hx
   ·rcases List.mem_append.1 hx with hx|hx
    ·exact .inl hx
    ·exact .inr (List.mem_append.2 (.inl hx))
   ·exact .inr (List.mem_append.2 (.inr hx))
  refine isNode.weaken ?_ (fun x=>x) _ _ (isNode.frame (Same.grown hg (fun b e hb=>hb.1.2.2 e)) _ _ (isNode.low _ _ (ha x hx')))
  rintro b ⟨⟨h1,h2,h3⟩,h4⟩
  refine⟨h1,h2,?_⟩
  rcases hv with hv|hv
  ·rw[hv];exact h3
  ·rw[hv];intro e;simp at e;omega
theorem Mid.made {us:List (List Value)} (q:Mid w rb tb cap t i k g W j kj aj L (us++T) (.slice none 0 0) []) (cs:Array Value) (hcs:cs.toList=us.flatten) (hl:us.length≤20000) (h11:∀x∈us,x.length=11) {ad n:Nat} (had:ad=W.heap.size) (hn:n=us.length):
 Mid w rb tb cap t i k g (W.alloc (.cells cs 28)) j kj aj L T (.slice (some ⟨ad,0,none⟩) n n) us:=by
 subst had hn
 have q1:=q.alloc (.cells cs 28)
 have hsz:us.flatten.length=us.length*11:=by
  clear hcs hl q q1
  induction us with
  |nil=>rfl
  |cons x r ih=>simp only[List.flatten_cons,List.length_append,List.length_cons];rw[ih (fun y hy=>h11 y (List.mem_cons_of_mem _ hy)),h11 x (List.mem_cons_self ..)];omega
 have hrow:=World.ownsRow_lit (base:=w.heap.size) (e:=28) (size:=11) W cs us.length q.st.size (by unfold maxLen;omega) (by rw[←Array.length_toList,hcs,hsz])
 rw[hcs] at hrow
 obtain⟨h,ha⟩:=q.all
 refine⟨q1.st,q1.le,q1.ok,q1.go,q1.blk,q1.nd,hrow,?_,h,fun x hx=>isNode.frame (Same.alloc _ _ _) _ _ (isNode.weaken ?_ (fun x=>x) _ _ (isNode.low _ _ (ha x (.inr (List.mem_append.2 hx)))))⟩
 ·intro b hb e
  have:=q.lt b e
  simp[Value.ownBlock] at hb
  omega
 ·rintro b ⟨⟨h1,h2,_⟩,h4⟩
  refine⟨h1,h2,fun e=>?_⟩
  simp[Value.ownBlock] at e
  omega
theorem Mid.fold (q:Mid w rb tb cap t i k g W j kj aj L T kv vs) (hl:vs.length≤20000) {kind pos n m:Int} {name:ByteArray} (hn:name.size≤20000) (hp:0≤pos∧pos≤7000) (hG:kj=0→Gr kind n m name (vs.map labOf)):Mid w rb tb cap t i k g W j kj aj L ((nodeC kind pos n m name kv).toList::T) (.slice none 0 0) []:=by
 obtain⟨h,ha⟩:=q.all
 have wk:∀x,x∈vs∨x∈T→isNode (Out w (L.map adr) (.slice none 0 0)) (kj=0) h W x:=fun x hx=>isNode.weaken (fun b hb=>⟨hb.1,hb.2.1,by simp[Value.ownBlock]⟩) (fun x=>x) _ _ (ha x hx)
 refine⟨q.st,q.le,q.ok,q.go,q.blk,q.nd,World.ownsRow_nil _ _ _ _,fun b e=>by simp[Value.ownBlock] at e,h+1,fun x hx=>?_⟩
 have hx':x=(nodeC kind pos n m name kv).toList∨x∈T:=by
  rcases hx with hx|hx
  ·simp at hx
  ·exact List.mem_cons.1 hx
 rcases hx' with rfl|hx
 ·exact⟨kind,pos,n,m,name,kv,vs,rfl,hn,hp,hl,ownsRow_mono q.row (Nat.zero_le _),fun b hb=>⟨(q.row.lt b hb).1,q.rown b hb,by simp[Value.ownBlock]⟩,fun x hx=>wk x (.inl hx),hG⟩
 ·exact isNode.up _ _ (wk x (.inr hx))
theorem Mid.bd {N r:Nat} (q:Mid w rb tb cap t i k True W j kj aj L T kv vs) (HB:∀i' k' r',(k'=0→i<i')→r'<64→Bd N t i' k' r') (hr:r<64):Bd N t j kj r:=HB _ _ _ (q.go trivial) hr
theorem Mid.at (q:Mid w rb tb cap t i k g W j kj aj L T kv vs) (n:Nat) {b:Nat} {c:Array Value} (hn:L[n]? =some (b,c)):(∀o,W.cell? ⟨b,o,none⟩=c[o]?)∧(∀o,W.frozen? ⟨b,o,none⟩=false)∧b<W.heap.size∧b≠rb:=by
 have h1:=q.blk n _ hn
 have h2:=q.st.lb
 exact⟨h1.2.cell,h1.2.fz,h1.2.lt,by have:=h1.1;simp only[adr] at this;omega⟩
theorem Mid.ne (q:Mid w rb tb cap t i k g W j kj aj L T kv vs) (n m:Nat) {b b':Nat} {c c':Array Value} (hn:L[n]? =some (b,c)) (hm:L[m]? =some (b',c')) (h:n≠m):b≠b'∧b'≠b:=by
 have:b≠b':=by
  intro e
  have hl:n<(L.map adr).length:=by rw[List.length_map];exact(List.getElem?_eq_some_iff.1 hn).1
  refine h ((List.getElem?_inj hl q.nd).1 ?_)
  rw[List.getElem?_map,List.getElem?_map,hn,hm]
  show some b=some b'
  rw[e]
 exact⟨this,fun e=>this e.symm⟩
theorem Mid.shape (q:Mid w rb tb cap t i k g W j kj aj L T kv vs):∃ao cp,kv=.slice ao vs.length cp:=by
 rcases q.row.2 with⟨h1,h2⟩|⟨b,cap,cur,h1,_⟩
 ·exact⟨none,0,by rw[h1,h2]⟩
 ·exact⟨_,_,h1⟩
end
def Few (c:Nat) (vs:List (List Value)) (j:Nat) (kj:Int):Prop:=(kj=0→vs.length≤j+c)∧vs.length≤6002+c
end Go.Proofs.YtdplogkmkgekdaaGreatDoor
