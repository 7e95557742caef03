/- The tree of a text, counted. -/
import Derived.Test.YtdplogkmkgekdaaGreatDoorFDeep
import Derived.Test.YtdplogkmkgekdaaGreatDoorFParseA
set_option linter.all false
set_option maxRecDepth 100000
set_option maxHeartbeats 4000000
namespace Go.Proofs.YtdplogkmkgekdaaGreatDoor
open Go.RowKit
def TreeF:Nat→List Nr→Prop
 |0,_=>False
 |h+1,y=>∃k p n m s,∃F:List (List Nr),y=nd k p n m s F∧∀z∈F,TreeF h z
theorem isNode.treeF {S:Nat→Prop} {g:Prop} {w:World}:(h:Nat)→(cs:List Value)→isNode S g h w cs→TreeF h (flat h w cs)
 |0,_,hn=>absurd hn (fun x=>x)
 |h+1,_,⟨kind,pos,n,m,name,kv,vs,h1,h2,h3,h3',h4,h5,h6,h7⟩=>by
  subst h1
  rw[flat_eq h4 h6]
  refine⟨kind,pos,n,m,name,vs.map (flat h w),rfl,fun z hz=>?_⟩
  obtain⟨x,hx,rfl⟩:=List.mem_map.1 hz
  exact isNode.treeF h x (h6 x hx)
theorem treeF_list {h h':Nat} (ih:∀y y' r r',TreeF h y→TreeF h' y'→y++r=y'++r'→y=y'∧r=r'):∀(F F':List (List Nr)) (r r':List Nr),(∀z∈F,TreeF h z)→(∀z∈F',TreeF h' z)→F.length=F'.length→F.flatten++r=F'.flatten++r'→F=F'∧r=r'
 |[],[],r,r',_,_,_,e=>⟨rfl,by simpa using e⟩
 |[],_::_,_,_,_,_,hl,_=>absurd hl (by simp)
 |_::_,[],_,_,_,_,hl,_=>absurd hl (by simp)
 |x::F,y::F',r,r',hx,hy,hl,e=>by
  simp only[List.flatten_cons,List.append_assoc] at e
  obtain⟨e1,e2⟩:=ih x y _ _ (hx x (List.mem_cons_self ..)) (hy y (List.mem_cons_self ..)) e
  obtain⟨e3,e4⟩:=treeF_list ih F F' r r' (fun z hz=>hx z (List.mem_cons_of_mem _ hz)) (fun z hz=>hy z (List.mem_cons_of_mem _ hz)) (by simpa using hl) e2
  exact⟨by rw[e1,e3],e4⟩
theorem treeF_one:(h h':Nat)→∀y y' r r',TreeF h y→TreeF h' y'→y++r=y'++r'→y=y'∧r=r'
 |0,_,_,_,_,_,hy,_,_=>absurd hy (fun x=>x)
 |_+1,0,_,_,_,_,_,hy,_=>absurd hy (fun x=>x)
 |h+1,h'+1,_,_,r,r',⟨k,p,n,m,s,F,e1,hF⟩,⟨k2,p2,n2,m2,s2,F2,e2,hF2⟩,e=>by
  subst e1 e2
  unfold nd at e⊢
  simp only[List.cons_append] at e
  have e3:=List.cons.inj e
  obtain⟨e4,e5⟩:=e3
  have hl:F.length=F2.length:=by injection e4
  obtain⟨e6,e7⟩:=treeF_list (treeF_one h h') F F2 r r' hF hF2 hl e5
  exact⟨by rw[e4,e6],e7⟩
theorem nd_inj {h h':Nat} {k p n m k2 p2 n2 m2:Int} {s s2:ByteArray} {F F2:List (List Nr)} (hF:∀z∈F,TreeF h z) (hF2:∀z∈F2,TreeF h' z) (e:nd k p n m s F=nd k2 p2 n2 m2 s2 F2):(k=k2∧p=p2∧n=n2∧m=m2∧s=s2)∧F=F2:=by
 unfold nd at e
 have e3:=List.cons.inj e
 obtain⟨e4,e5⟩:=e3
 injection e4 with a1 a2 a3 a4 a5 a6
 exact⟨⟨a1,a2,a3,a4,a5⟩,(treeF_list (treeF_one h h') F F2 [] [] hF hF2 a6 (by simpa using e5)).1⟩
theorem kids_two {S S2:Nat→Prop} {g g2:Prop} {h h2:Nat} {w:World} {kind pos n m kind2 pos2 n2 m2:Int} {name name2:ByteArray} {ko ko2:Option Addr} {kl kc kl2 kc2:Nat} (hn:isNode S g (h+1) w (nodeC kind pos n m name (.slice ko kl kc)).toList) (hn2:isNode S2 g2 (h2+1) w (nodeC kind2 pos2 n2 m2 name2 (.slice ko2 kl2 kc2)).toList) {y:List Nr} (hy:Fl w [(nodeC kind pos n m name (.slice ko kl kc)).toList] [y]) (hy2:Fl w [(nodeC kind2 pos2 n2 m2 name2 (.slice ko2 kl2 kc2)).toList] [y]):
 (kind=kind2∧pos=pos2∧n=n2∧m=m2∧name=name2∧kl=kl2∧kl≤20000)∧∀idx,idx<kl→∃gb gb2,(ko=some ⟨gb,0,none⟩∧S gb∧gb<w.heap.size)∧(ko2=some ⟨gb2,0,none⟩∧S2 gb2∧gb2<w.heap.size)∧∃y2,(∃kind pos n m name ko kl kc,isNode S g h w (nodeC kind pos n m name (.slice ko kl kc)).toList∧(∀o,o<11→w.cell? ⟨gb,idx*11+o,none⟩=(nodeC kind pos n m name (.slice ko kl kc))[o]?)∧Fl w [(nodeC kind pos n m name (.slice ko kl kc)).toList] [y2])∧(∃kind pos n m name ko kl kc,isNode S2 g2 h2 w (nodeC kind pos n m name (.slice ko kl kc)).toList∧(∀o,o<11→w.cell? ⟨gb2,idx*11+o,none⟩=(nodeC kind pos n m name (.slice ko kl kc))[o]?)∧Fl w [(nodeC kind pos n m name (.slice ko kl kc)).toList] [y2]):=by
 obtain⟨F,e,hl,hp,hk,hkid⟩:=hn.kidF hy
 obtain⟨F2,e2,hl2,hp2,hk2,hkid2⟩:=hn2.kidF hy2
 have hF:∀z∈F,TreeF h z:=by
  intro z hz
  obtain⟨i,hi,rfl⟩:=List.getElem_of_mem hz
  obtain⟨gb,_,_,_,k1,p1,n1,m1,s1,o1,l1,c1,a1,a2,y2,a3,a4⟩:=hkid i (by omega)
  rw[List.getElem?_eq_getElem hi] at a3
  have a5:=Option.some.inj a3
  rw[a5,Fl.one1 a4 a1.fl]
  exact isNode.treeF h _ a1
 have hF2:∀z∈F2,TreeF h2 z:=by
  intro z hz
  obtain⟨i,hi,rfl⟩:=List.getElem_of_mem hz
  obtain⟨gb,_,_,_,k1,p1,n1,m1,s1,o1,l1,c1,a1,a2,y2,a3,a4⟩:=hkid2 i (by omega)
  rw[List.getElem?_eq_getElem hi] at a3
  have a5:=Option.some.inj a3
  rw[a5,Fl.one1 a4 a1.fl]
  exact isNode.treeF h2 _ a1
 obtain⟨⟨b1,b2,b3,b4,b5⟩,b6⟩:=nd_inj hF hF2 (e.symm.trans e2)
 subst b6
 refine⟨⟨b1,b2,b3,b4,b5,by omega,hk⟩,fun idx hi=>?_⟩
 obtain⟨gb,c1,c2,c3,k1,p1,n1,m1,s1,o1,l1,r1,a1,a2,y2,a3,a4⟩:=hkid idx hi
 obtain⟨gb2,d1,d2,d3,k2,p2',n2',m2',s2,o2,l2,r2,f1,f2,y3,f3,f4⟩:=hkid2 idx (by omega)
 rw[a3] at f3
 obtain rfl:=Option.some.inj f3
 exact⟨gb,gb2,⟨c1,c2,c3⟩,⟨d1,d2,d3⟩,y2,⟨k1,p1,n1,m1,s1,o1,l1,r1,a1,a2,a4⟩,⟨k2,p2',n2',m2',s2,o2,l2,r2,f1,f2,f4⟩⟩
theorem fl_low {S:Nat→Prop} {g:Prop} {w wr:World} {h:Nat} {cs:List Value} {x:List Nr} (hb:Below w.heap.size w wr) (hn:isNode S g h w cs) (hx:Fl w [cs] [x]):isNode (fun b=>S b∧b<w.heap.size) g h wr cs∧Fl wr [cs] [x]:=
 ⟨isNode.frame (fun b hb' _=>hb.block b hb'.2) _ _ (isNode.low _ _ hn),hx.cong (fun f=>by simp only[List.map_cons,List.map_nil];rw[flat_frame (S:=fun b=>S b∧b<w.heap.size) (fun b hb' _=>hb.block b hb'.2) h _ (isNode.low _ _ hn) f])⟩
theorem sameP {g g2:Prop}:(h h2:Nat)→∀{S S2:Nat→Prop} {w:World} {kind pos n m kind2 pos2 n2 m2:Int} {name name2:ByteArray} {ko ko2:Option Addr} {kl kc kl2 kc2:Nat} {y:List Nr},isNode S g h w (nodeC kind pos n m name (.slice ko kl kc)).toList→isNode S2 g2 h2 w (nodeC kind2 pos2 n2 m2 name2 (.slice ko2 kl2 kc2)).toList→Fl w [(nodeC kind pos n m name (.slice ko kl kc)).toList] [y]→Fl w [(nodeC kind2 pos2 n2 m2 name2 (.slice ko2 kl2 kc2)).toList] [y]→Calls Tryz.prog 8 #[.agg (nodeC kind pos n m name (.slice ko kl kc)),.agg (nodeC kind2 pos2 n2 m2 name2 (.slice ko2 kl2 kc2)),.bool false] w (fun e w'=>e=.returned (.bool true)∧Below w.heap.size w w')
 |0,_,_,_,_,_,_,_,_,_,_,_,_,_,_,_,_,_,_,_,_,_,hn,_,_,_=>absurd hn (fun x=>x)
 |_+1,0,_,_,_,_,_,_,_,_,_,_,_,_,_,_,_,_,_,_,_,_,_,hn,_,_=>absurd hn (fun x=>x)
 |h+1,h2+1,S,S2,w,kind,pos,n,m,kind2,pos2,n2,m2,name,name2,ko,ko2,kl,kc,kl2,kc2,y,hn,hn2,hy,hy2=>by
  obtain⟨⟨rfl,rfl,rfl,rfl,rfl,rfl,hkl⟩,hkid⟩:=kids_two hn hn2 hy hy2
  have IH:Hid (∀{S S2:Nat→Prop} {w:World} {kind pos n m kind2 pos2 n2 m2:Int} {name name2:ByteArray} {ko ko2:Option Addr} {kl kc kl2 kc2:Nat} {y:List Nr},isNode S g h w (nodeC kind pos n m name (.slice ko kl kc)).toList→isNode S2 g2 h2 w (nodeC kind2 pos2 n2 m2 name2 (.slice ko2 kl2 kc2)).toList→Fl w [(nodeC kind pos n m name (.slice ko kl kc)).toList] [y]→Fl w [(nodeC kind2 pos2 n2 m2 name2 (.slice ko2 kl2 kc2)).toList] [y]→Calls Tryz.prog 8 #[.agg (nodeC kind pos n m name (.slice ko kl kc)),.agg (nodeC kind2 pos2 n2 m2 name2 (.slice ko2 kl2 kc2)),.bool false] w (fun e w'=>e=.returned (.bool true)∧Below w.heap.size w w')):=sameP h h2
  have HK:Hid (∀idx,idx<kl→∃gb gb2,(ko=some ⟨gb,0,none⟩∧S gb∧gb<w.heap.size)∧(ko2=some ⟨gb2,0,none⟩∧S2 gb2∧gb2<w.heap.size)∧∃y2,(∃kind pos n m name ko kl kc,isNode S g h w (nodeC kind pos n m name (.slice ko kl kc)).toList∧(∀o,o<11→w.cell? ⟨gb,idx*11+o,none⟩=(nodeC kind pos n m name (.slice ko kl kc))[o]?)∧Fl w [(nodeC kind pos n m name (.slice ko kl kc)).toList] [y2])∧(∃kind pos n m name ko kl kc,isNode S2 g2 h2 w (nodeC kind pos n m name (.slice ko kl kc)).toList∧(∀o,o<11→w.cell? ⟨gb2,idx*11+o,none⟩=(nodeC kind pos n m name (.slice ko kl kc))[o]?)∧Fl w [(nodeC kind pos n m name (.slice ko kl kc)).toList] [y2])):=hkid
  clear hkid hn hn2 hy hy2
  obtain⟨W2,hW2⟩:∃W2,W2=(w.alloc (.cells (nodeC kind pos n m name (.slice ko kl kc)) 28)).alloc (.cells (nodeC kind pos n m name (.slice ko2 kl kc2)) 28):=⟨_,rfl⟩
  have hbW:Below w.heap.size w W2:=by rw[hW2];exact((Below.refl _ _).alloc (Nat.le_refl _) _).alloc (by simp) _
  have hsW:W2.heap.size=w.heap.size+2:=by rw[hW2];simp
  have x1:W2.heap[w.heap.size]? =some (.cells (nodeC kind pos n m name (.slice ko kl kc)) 28 (0,0)):=by rw[hW2];exact(Below.heap_alloc _ _ _ (by simp)).trans (heap_alloc_new w _)
  have x2:W2.heap[w.heap.size+1]? =some (.cells (nodeC kind pos n m name (.slice ko2 kl kc2)) 28 (0,0)):=by
   rw[hW2]
   have:=heap_alloc_new (w.alloc (.cells (nodeC kind pos n m name (.slice ko kl kc)) 28)) (.cells (nodeC kind pos n m name (.slice ko2 kl kc2)) 28)
   simpa using this
  have HW:Hid (Below w.heap.size w W2∧W2.heap.size=w.heap.size+2∧W2.heap[w.heap.size]? =some (.cells (nodeC kind pos n m name (.slice ko kl kc)) 28 (0,0))∧W2.heap[w.heap.size+1]? =some (.cells (nodeC kind pos n m name (.slice ko2 kl kc2)) 28 (0,0))):=⟨hbW,hsW,x1,x2⟩
  have HE:Hid (W2=(w.alloc (.cells (nodeC kind pos n m name (.slice ko kl kc)) 28)).alloc (.cells (nodeC kind pos n m name (.slice ko2 kl kc2)) 28)):=hW2
  clear hbW hsW x1 x2 hW2
  go_enter Tryz.func8,Tryz.ntmps8
  go_wp2_with fail
  rw[←HE.out]
  go_loopg [7,70] kl (fun gg _ u wr=>∃idx:Nat,gg=kl - idx∧u=.int .i64 idx∧idx≤kl∧Below W2.heap.size W2 wr)
  case atStart=>exact⟨0,rfl,rfl,Nat.zero_le _,Below.refl _ _⟩
  case round=>
   obtain⟨idx,hgk,rfl,hidx,hb⟩:=hrel
   have HG:Hid (gk=kl - idx):=hgk
   clear hgk
   have hbw:Below w.heap.size w wr:=HW.out.1.trans (hb.mono HW.out.1.size)
   have HBW:Hid (Below w.heap.size w wr∧Below W2.heap.size W2 wr):=⟨hbw,hb⟩
   by_cases hlt:idx<kl
   ·obtain⟨gb,gb2,⟨rfl,hS,hgb⟩,⟨rfl,hS2,hgb2⟩,y2,⟨kindA,posA,nA,mA,nameA,koA,klA,kcA,hkA,hcA,hfA⟩,⟨kindB,posB,nB,mB,nameB,koB,klB,kcB,hkB,hcB,hfB⟩⟩:=HK.out idx hlt
    have hltI:(idx:Int)<(kl:Int):=by omega
    have hbs:=hbw.size
    have hgr:gb<wr.heap.size:=by omega
    have hgr2:gb2<wr.heap.size:=by omega
    have ea:∀o,o<11→wr.cell? ⟨gb,idx*11+o,none⟩=(nodeC kindA posA nA mA nameA (.slice koA klA kcA))[o]? :=fun o ho=>(hbw.cell (p:=⟨gb,idx*11+o,none⟩) hgb).trans (hcA o ho)
    have eb:∀o,o<11→wr.cell? ⟨gb2,idx*11+o,none⟩=(nodeC kindB posB nB mB nameB (.slice koB klB kcB))[o]? :=fun o ho=>(hbw.cell (p:=⟨gb2,idx*11+o,none⟩) hgb2).trans (hcB o ho)
    clear hcA hcB
    have a0:=ea 0 (by decide)
    have a1:=ea 1 (by decide)
    have a2:=ea 2 (by decide)
    have a3:=ea 3 (by decide)
    have a4:=ea 4 (by decide)
    have a5:=ea 5 (by decide)
    have a6:=ea 6 (by decide)
    have a7:=ea 7 (by decide)
    have a8:=ea 8 (by decide)
    have a9:=ea 9 (by decide)
    have a10:=ea 10 (by decide)
    have b0:=eb 0 (by decide)
    have b1:=eb 1 (by decide)
    have b2:=eb 2 (by decide)
    have b3:=eb 3 (by decide)
    have b4:=eb 4 (by decide)
    have b5:=eb 5 (by decide)
    have b6:=eb 6 (by decide)
    have b7:=eb 7 (by decide)
    have b8:=eb 8 (by decide)
    have b9:=eb 9 (by decide)
    have b10:=eb 10 (by decide)
    clear ea eb
    simp only[Nat.add_zero] at a0 b0
    have v1:wr.cell? ⟨w.heap.size,5,none⟩=some (.slice (some ⟨gb,0,none⟩) kl kc):=cell_of_row wr w.heap.size 5 _ 28 (0,0) ((hb.block _ (by have:=HW.out.2.1;omega)).trans HW.out.2.2.1)
    have v2:wr.cell? ⟨w.heap.size+1,5,none⟩=some (.slice (some ⟨gb2,0,none⟩) kl kc2):=cell_of_row wr (w.heap.size+1) 5 _ 28 (0,0) ((hb.block _ (by have:=HW.out.2.1;omega)).trans HW.out.2.2.2)
    have hA:=fl_low hbw hkA hfA
    have hB:=fl_low hbw hkB hfB
    have hA2:=fl_low hbw.drew hkA hfA
    have hB2:=fl_low hbw.drew hkB hfB
    have HCD:Hid (Calls Tryz.prog 8 #[.agg (nodeC kindA posA nA mA nameA (.slice koA klA kcA)),.agg (nodeC kindB posB nB mB nameB (.slice koB klB kcB)),.bool false] wr.drew (fun e w'=>e=.returned (.bool true)∧Below wr.heap.size wr.drew w')):=IH.out hA2.1 hB2.1 hA2.2 hB2.2
    have HC:Hid (Calls Tryz.prog 8 #[.agg (nodeC kindA posA nA mA nameA (.slice koA klA kcA)),.agg (nodeC kindB posB nB mB nameB (.slice koB klB kcB)),.bool false] wr (fun e w'=>e=.returned (.bool true)∧Below wr.heap.size wr w')):=IH.out hA.1 hB.1 hA.2 hB.2
    clear hA hB hA2 hB2 hkA hkB hfA hfB hbw hb hbs
    go_wp2_with fail
    go_region_law (first|(go_simp;refine HCD.out.mono ?_;rintro e w2 ⟨rfl,hb2⟩;have HB2:Hid (Below W2.heap.size W2 w2):=HBW.out.2.drew.trans (hb2.mono HBW.out.2.size);clear hb2))
    all_goals
     clear a0 a1 a2 a3 a4 a5 a6 a7 a8 a9 a10 b0 b1 b2 b3 b4 b5 b6 b7 b8 b9 b10 v1 v2
     go_wp2_with fail
     go_roundg (kl - (idx+1))
     case measure=>rw[HG.out];omega
     case rel=>exact⟨idx+1,rfl,by go_num,hlt,by first|exact HB2.out|exact HB2.out.drew⟩
   ·have hltI:¬(idx:Int)<(kl:Int):=by omega
    have hltD:decide ((idx:Int)<(kl:Int))=false:=by simpa using hltI
    go_wp2_with fail
    go_ret
    exact⟨rfl,HBW.out.1⟩
end Go.Proofs.YtdplogkmkgekdaaGreatDoor
namespace Go.Proofs.YtdplogkmkgekdaaGreatDoor
open Go.RowKit
theorem tree_kept {w0 w W:World} {rb tb cap:Nat} {t:Tk} (hP:PF w0 w rb tb cap t) (hl:rb<w.heap.size) {A:List Nat} {kv:Value} {g:Prop} {h:Nat} {cs:List Value} (hn:isNode (Out w A kv) g h W cs) {x:List Nr} (hx:Fl W [cs] [x]) (hc:∀f,nsz f W cs≤96100) (hg:g) (c0 c1 c2 c3 c4 c5 c6 c7 c8 c9 c10 d e:Value):
 NodeIn w0.heap.size True (((set11 W w0.heap.size c0 c1 c2 c3 c4 c5 c6 c7 c8 c9 c10).setCell ⟨w0.heap.size+1,0,none⟩ d).setCell ⟨w0.heap.size+1,1,none⟩ e) cs∧(∀f,nsz f (((set11 W w0.heap.size c0 c1 c2 c3 c4 c5 c6 c7 c8 c9 c10).setCell ⟨w0.heap.size+1,0,none⟩ d).setCell ⟨w0.heap.size+1,1,none⟩ e) cs≤96100)∧Fl (((set11 W w0.heap.size c0 c1 c2 c3 c4 c5 c6 c7 c8 c9 c10).setCell ⟨w0.heap.size+1,0,none⟩ d).setCell ⟨w0.heap.size+1,1,none⟩ e) [cs] [x]:=by
 have h1:=hP.lt
 have s1:Same (Out w A kv) W (((set11 W w0.heap.size c0 c1 c2 c3 c4 c5 c6 c7 c8 c9 c10).setCell ⟨w0.heap.size+1,0,none⟩ d).setCell ⟨w0.heap.size+1,1,none⟩ e):=
  ((Same.set11 (fun x=>by have:=x.1;omega) c0 c1 c2 c3 c4 c5 c6 c7 c8 c9 c10).trans (Same.setCell _ ⟨w0.heap.size+1,0,none⟩ d (fun x=>by have:=x.1;simp only at this;omega)) (by simp)).trans (Same.setCell _ ⟨w0.heap.size+1,1,none⟩ e (fun x=>by have:=x.1;simp only at this;omega)) (by simp)
 exact⟨⟨h,isNode.weaken (fun b hb=>by have:=hb.1;omega) (fun _=>hg) _ _ (isNode.frame s1 _ _ hn)⟩,fun f=>by rw[nsz_frame s1 _ _ hn f];exact hc f,hx.cong (fun f=>by simp only[List.map_cons,List.map_nil];rw[flat_frame s1 _ _ hn f])⟩
theorem parse_inr (s:ByteArray) (w0:World) (hm:s.size≤maxLen) {ts:List (List Value)} (hL:lexAll s=.inr ts):Calls Tryz.prog 6 #[.string s] w0 (ParseF s w0):=by
 have hs:s.size≤6000:=by
  unfold lexAll at hL
  split at hL
  ·exact absurd hL (by simp)
  ·omega
 obtain⟨n1,n2,n3⟩:=two_new w0
 go_enter Tryz.func6,Tryz.ntmps6
 go_wp2_with fail
 refine(tokens7_any s _ hm).mono ?_
 rintro e w1 ⟨hT,hb1⟩
 unfold TokPost at hT
 rw[hL] at hT
 obtain⟨v,rfl,hown⟩:=hT
 obtain⟨t,tb,cap,ht,rfl,htb,hgood,hrow⟩:=tok_reader hs hL hown
 have HPM:Hid (∀(k a:Int) (x:List Nr) (r:List Nr × Rs),Ev (fun n=>gProg t n) ⟨0,0,0⟩ r→(r.2.k≠0→k=r.2.k∧a=r.2.a)→(r.2.k=0→((∃p,Dp [r.1] 1 (some p)∧k=5∧a=p)∨(Dp [r.1] 1 none∧k=0∧a=0∧x=r.1)))→ParseM s k a x):=by
  intro k a x r h1 h2 h3
  unfold ParseM
  rw[hL]
  exact⟨r,ht▸h1,h2,h3⟩
 clear ht
 have z1:Blk w1 w0.heap.size zeroC:=n1.below hb1
 have z2:w1.heap[w0.heap.size+1]? =some (.cells #[.int .i64 0,.int .i64 0] 31 (0,0)):=(hb1.block _ (by simp)).trans n2
 have hb:Below w0.heap.size w0 w1:=n3.trans (hb1.mono n3.size)
 have HB:Hid (Below w0.heap.size w0 w1):=hb
 have HS:Hid (w0.heap.size+1<w1.heap.size):=(Array.getElem?_eq_some_iff.1 z2).1
 clear n1 n2 n3 hb1 hb hown
 go_upto_region 4 with fail
 go_cut [6] (fun s6 wx=>∃rb,s6=.pointer (some ⟨rb,0,none⟩)∧PF w0 wx rb tb cap t)
 case first=>
  go_wp2_with fail
  go_meet
  refine⟨w1.heap.size+1,rfl,⟨?_,hrow.of_cells ?_,?_,hgood,hgood.some_⟩,(z1.alloc _).alloc _,?_,?_,?_⟩
  ·have:=heap_alloc_new (w1.alloc (.cells #[.int .i64 0,.int .i64 0] 31)) (.cells #[.slice (some ⟨tb,0,none⟩) t.len cap,.int .i64 0,.int .i64 0,.int .i64 0] 51)
   simpa using this
  ·have h1:=hrow.lt
   exact(Below.heap_alloc _ _ _ (by simp;omega)).trans (Below.heap_alloc _ _ _ h1)
  ·have h1:=hrow.lt
   omega
  ·have h1:=HS.out
   exact((Below.heap_alloc _ _ _ (by simp;omega)).trans (Below.heap_alloc _ _ _ h1)).trans z2
  ·exact(HB.out.alloc HB.out.size _).alloc (by have:=HB.out.size;simp;omega) _
  ·have h1:=HS.out
   omega
 case rest=>
  obtain⟨rb,rfl,hP⟩:=hcut
  clear z1 z2 HB HS hrow
  obtain⟨w,hw⟩:∃x,x=wc:=⟨_,rfl⟩
  subst hw
  have hl:=hP.rd.l
  have h:=hP.rd
  have q:=Mf.start (wt:=1) h
  have hposI:(0:Int)≤(t.pos 0:Int)∧(t.pos 0:Int)≤7000:=by have:=h.good.posb 0;omega
  go_wp2_with fail
  refine q.lf (node20 · 0) ?_
  clear q
  intro w1 q
  go_wp2_with fail
  go_loopg [] (ml t 0 0) (fun g wr=>∃(v:Value) (vs:List (List Value)) (j:Nat) (kj aj:Int),g=ml t j kj∧Few 4 vs j kj∧(kj=0→∀x∈vs.map labOf,x=1)∧∃(V:List (List Nr)),Hid (∀r,EvL (fun n=>gProgB t n) V ⟨j,kj,aj⟩ r→Ev (fun n=>gProg t n) ⟨0,0,0⟩ (nd 0 (t.pos 0:Int) 0 0 E0 r.1,r.2))∧Mf 1 w rb tb cap t 0 0 False (0) wr j kj aj [(w1.heap.size,nk 0 (t.pos 0) v)] [] v vs [] V)
  case atStart=>exact⟨nl,[],0,0,0,rfl,⟨fun _=>by simp,by simp⟩,(fun _ x hx=>by cases hx),_,(fun r hr=>(by unfold gProg;exact evt)),((q.ne' w1.heap.size (nk 0 (t.pos 0) nl)).less (by omega))⟩
  case round=>
   clear q
   obtain⟨v,vs,j,kj,aj,hgk,hF,hE,V,HM,q⟩:=hrel
   have hj:=q.st.rd.lt
   have hposJ:(0:Int)≤(t.pos j:Int)∧(t.pos j:Int)≤7000:=by have:=h.good.posb j;omega
   have HG:Hid (gk=ml t j kj):=hgk
   clear hgk
   obtain⟨ao2,cp2,rfl⟩:=q.shape
   have F:=q.f1
   cases hk0:(kj==0)
   ·go_wp2_with fail
    refine q.lf ok21b ?_
    clear q F
    intro w3 q
    have F:=q.f1
    have hkn:kj≠0:=by simpa using hk0
    go_wp2_with fail
    refine q.lf ok21b ?_
    clear q F
    intro w4 q
    have F:=q.f1
    obtain⟨hz1,hz2,nz1,nz2,nz12⟩:=hP.keep q.st
    have cz1:=hz1.cell;have fz1:=hz1.fz;have lz1:=hz1.lt
    have cz2:∀o,w4.cell? ⟨w0.heap.size+1,o,none⟩=(#[.int .i64 0,.int .i64 0]:Array Value)[o]? :=fun o=>cell_of_row _ _ o _ 31 (0,0) hz2
    have fz2:∀o,w4.frozen? ⟨w0.heap.size+1,o,none⟩=false:=fun o=>frozen_of_row _ _ o _ 31 hz2
    have lz2:=(Array.getElem?_eq_some_iff.1 hz2).1
    have nz21:w0.heap.size+1≠w0.heap.size:=fun e=>nz12 e.symm
    obtain⟨nn1,nn2⟩:w1.heap.size≠w0.heap.size∧w1.heap.size≠w0.heap.size+1:=by have h1:=hP.lt;have h2:=h.l;have h3:=(q.z.mid.blk 0 _ rfl).1;simp only[adr] at h3;omega
    have nn1':w0.heap.size≠w1.heap.size:=fun e=>nn1 e.symm
    have nn2':w0.heap.size+1≠w1.heap.size:=fun e=>nn2 e.symm
    have HBd:Hid (Below w0.heap.size w0 w4):=hP.down q.st
    have r2:=q.st.rd.r2;have r3:=q.st.rd.r3;have lr:=q.st.rd.l
    go_wp2_with fail
    go_region
    all_goals
     go_wp2_with fail
     go_light
     first
     |exact parse_ret_d (kind:=0) (pos:=0) (n:=0) (m:=0) (name:=⟨#[]⟩) (ko:=none) (kl:=0) (kc:=0) (k:=kj) (a:=aj) rfl rfl rfl (stored_a hz1 hz2 (.int .i64 0) (.int .i64 0) (.int .i64 0) (.int .i64 0) (.string ⟨#[]⟩) nl (.int .i64 0) (.int .i64 0) nl nl nl kj aj) (below_a HBd.out (.int .i64 0) (.int .i64 0) (.int .i64 0) (.int .i64 0) (.string ⟨#[]⟩) nl (.int .i64 0) (.int .i64 0) nl nl nl (.int .i64 kj) (.int .i64 aj)) hkn (x:=[]) (HPM.out kj aj [] (nd 0 (t.pos 0:Int) 0 0 E0 V,⟨j,kj,aj⟩) (HM.out (_,_) (EvL.stop (by unfold gProgB;exact evt))) (fun _=>⟨rfl,rfl⟩) (fun e=>absurd e hkn))
     |exact parse_ret_d (kind:=0) (pos:=0) (n:=0) (m:=0) (name:=⟨#[]⟩) (ko:=none) (kl:=0) (kc:=0) (k:=kj) (a:=aj) rfl rfl rfl (stored_b hz1 hz2 (.int .i64 0) (.int .i64 0) (.int .i64 0) (.int .i64 0) (.string ⟨#[]⟩) nl (.int .i64 0) (.int .i64 0) nl nl nl kj aj) (below_b HBd.out (.int .i64 0) (.int .i64 0) (.int .i64 0) (.int .i64 0) (.string ⟨#[]⟩) nl (.int .i64 0) (.int .i64 0) nl nl nl (.int .i64 kj) (.int .i64 aj)) hkn (x:=[]) (HPM.out kj aj [] (nd 0 (t.pos 0:Int) 0 0 E0 V,⟨j,kj,aj⟩) (HM.out (_,_) (EvL.stop (by unfold gProgB;exact evt))) (fun _=>⟨rfl,rfl⟩) (fun e=>absurd e hkn))
   ·obtain rfl:kj=0:=by simpa using hk0
    have hb1:Hid ((0:Nat)≤j):=Nat.zero_le _
    have HE:Hid (∀x∈vs.map labOf,x=1):=hE rfl
    clear hE
    have hFl:vs.length≤6005:=by have:=hF.1 rfl;have:=h.good.few;omega
    replace q:=q.rebase
    go_wp2_with fail
    refine q.lf ok21b ?_
    clear q F
    intro w5 q
    have F:=q.f1
    cases hq:kindB t j 0 0 0
    ·go_wp2_with fail
     refine q.lf (kind_no · 0 (by decide) 0 hq) ?_
     clear q F
     intro w6 q
     have F:=q.f1
     have HKB:Hid (kindB t j 0 0 0=false):=hq
     clear hq
     go_wp2_with fail
     go_region_law (first|(refine q.as w7.heap.size (Nat.le_trans hFl (by decide)) ?_;clear q F;intro w8 ao8 cp8 q;have F:=q.f1)|(go_simp;refine q.drew.nd (moduleF enumF_ ·) ?_;clear q F;intro w7 x7 i7 k7 a7 y7 hc7 ok7 m7 q;have F:=q.f1))
     all_goals
      go_wp2_with fail
      replace q:=q.p05 (.slice ao8 (vs.length+1) cp8)
      go_roundg (ml t i7 k7)
      case measure=>rw[HG.out];exact ml_lt hj q.le (q.go trivial)
      case rel=>exact⟨(.slice ao8 (vs.length+1) cp8),(vs++[x7.t]),i7,k7,a7,rfl,Few.snoc (t:=t) hF rfl hj h.good (q.go trivial),(fun e=>by rw[List.map_append];exact all_snoc (C:=fun x=>x=1) HE.out (hc7 e)),_,(fun r hr=>HM.out r (EvL.on (by have hkb:=HKB.out;unfold gProgB;exact evt) hr)),q.unbase (s':=0) hb1.out (fun _=>rfl) (fun e=>absurd e (fun x=>x)) (by omega)⟩
    ·go_wp2_with fail
     refine q.lf (kind_yes · 0 (by decide) 0 hq) ?_
     clear q F
     intro w9 q
     have F:=q.f1
     have HKB:Hid (kindB t j 0 0 0=true):=hq
     clear hq
     go_wp2_with fail
     refine q.lf ok21b ?_
     clear q F
     intro w10 q
     have F:=q.f1
     have hcnt:∀f,nsz f w10 (nk 0 (t.pos 0) (.slice ao2 vs.length cp2)).toList≤96100:=fun f=>by have h1:=((q.fk 0 (t.pos 0) (Nat.le_trans hF.2 (by decide)) hposI (fun e=>Gr.of_prog HE.out))).z.sz rfl f;have h2:=q.st.rd.lt;have h3:=h.good.few;rw[tot_nil,tot_cons,tot_nil,nsy_nsz] at h1;omega
     have hfl:=((q.fk 0 (t.pos 0) (Nat.le_trans hF.2 (by decide)) hposI (fun e=>Gr.of_prog HE.out))).fT.head
     have HEV:Hid (Ev (fun n=>gProg t n) ⟨0,0,0⟩ (nd 0 (t.pos 0:Int) 0 0 E0 V,⟨j,0,aj⟩)):=(HM.out (_,_) (EvL.stop (by have hkb:=HKB.out;unfold gProgB;exact evt)))
     obtain⟨hh,ha⟩:=((q.fk 0 (t.pos 0) (Nat.le_trans hF.2 (by decide)) hposI (fun e=>Gr.of_prog HE.out))).z.mid.all
     have hn:=ha _ (.inr (List.mem_cons_self ..))
     clear ha
     go_wp2_with fail
     refine(deepF hh hn hfl 1 (by decide) (by decide)).mono ?_
     rintro e w99 ⟨r,rfl,hr,hb99,hD⟩
     have HD:Hid (r= -1∧Dp [nd 0 (t.pos 0:Int) 0 0 E0 V] 1 none∨0≤r∧Dp [nd 0 (t.pos 0:Int) 0 0 E0 V] 1 (some r)):=hD
     clear hD
     have hfl2:=hfl.cong (w':=w99) (fun f=>by simp only[List.map_cons,List.map_nil];rw[flat_frame (Same.below hb99) _ _ hn f])
     have HFL:Hid (Fl w99 [(nk 0 (t.pos 0) (.slice ao2 vs.length cp2)).toList] [nd 0 (t.pos 0:Int) 0 0 E0 V]):=hfl2
     clear hfl2 hfl
     have hn2:=isNode.frame (Same.below hb99) _ _ hn
     have hc2:∀f,nsz f w99 (nk 0 (t.pos 0) (.slice ao2 vs.length cp2)).toList≤96100:=fun f=>by rw[nsz_frame (Same.below hb99) _ _ hn f];exact hcnt f
     replace q:=q.below hb99
     clear hn hb99 hcnt
     replace F:=q.f1
     obtain⟨hz1,hz2,nz1,nz2,nz12⟩:=hP.keep q.st
     have cz1:=hz1.cell;have fz1:=hz1.fz;have lz1:=hz1.lt
     have cz2:∀o,w99.cell? ⟨w0.heap.size+1,o,none⟩=(#[.int .i64 0,.int .i64 0]:Array Value)[o]? :=fun o=>cell_of_row _ _ o _ 31 (0,0) hz2
     have fz2:∀o,w99.frozen? ⟨w0.heap.size+1,o,none⟩=false:=fun o=>frozen_of_row _ _ o _ 31 hz2
     have lz2:=(Array.getElem?_eq_some_iff.1 hz2).1
     have nz21:w0.heap.size+1≠w0.heap.size:=fun e=>nz12 e.symm
     obtain⟨nn1,nn2⟩:w1.heap.size≠w0.heap.size∧w1.heap.size≠w0.heap.size+1:=by have h1:=hP.lt;have h2:=h.l;have h3:=(q.z.mid.blk 0 _ rfl).1;simp only[adr] at h3;omega
     have nn1':w0.heap.size≠w1.heap.size:=fun e=>nn1 e.symm
     have nn2':w0.heap.size+1≠w1.heap.size:=fun e=>nn2 e.symm
     have HBd:Hid (Below w0.heap.size w0 w99):=hP.down q.st
     by_cases hr0:0≤r
     ·go_wp2_with fail
      go_light
      exact parse_ret_p (kind:=0) (pos:=0) (n:=0) (m:=0) (name:=⟨#[]⟩) (ko:=none) (kl:=0) (kc:=0) (k:=5) (a:=r) rfl rfl rfl (stored_a hz1 hz2 (.int .i64 0) (.int .i64 0) (.int .i64 0) (.int .i64 0) (.string ⟨#[]⟩) nl (.int .i64 0) (.int .i64 0) nl nl nl 5 r) (below_a HBd.out (.int .i64 0) (.int .i64 0) (.int .i64 0) (.int .i64 0) (.string ⟨#[]⟩) nl (.int .i64 0) (.int .i64 0) nl nl nl (.int .i64 5) (.int .i64 r)) (x:=[]) (fun e=>absurd e (by decide)) (HPM.out 5 r [] _ HEV.out (fun e=>absurd rfl e) (fun _=>.inl ⟨r,(by rcases HD.out with h9|h9;exact absurd hr0 (by omega);exact h9.2),rfl,rfl⟩))
     ·have hr0':decide (0≤r)=false:=by simpa using hr0
      go_wp2_with fail
      go_light
      exact parse_ret_p (kind:=0) (pos:=(t.pos 0:Int)) (n:=0) (m:=0) (name:=⟨#[]⟩) (ko:=ao2) (kl:=vs.length) (kc:=cp2) (k:=0) (a:=0) rfl rfl rfl (stored_a hz1 hz2 (.int .i64 0) (.int .i64 (t.pos 0)) (.int .i64 0) (.int .i64 0) (.string ⟨#[]⟩) (.slice ao2 vs.length cp2) (.int .i64 0) (.int .i64 0) nl nl nl 0 0) (below_a HBd.out (.int .i64 0) (.int .i64 (t.pos 0)) (.int .i64 0) (.int .i64 0) (.string ⟨#[]⟩) (.slice ao2 vs.length cp2) (.int .i64 0) (.int .i64 0) nl nl nl (.int .i64 0) (.int .i64 0)) (fun _=>⟨rfl,tree_kept hP h.l hn2 HFL.out hc2 (by first|rfl|trivial) _ _ _ _ _ _ _ _ _ _ _ _ _⟩) (HPM.out 0 0 _ _ HEV.out (fun e=>absurd rfl e) (fun _=>.inr ⟨(by rcases HD.out with h9|h9;exact h9.2;exact absurd h9.1 (by omega)),rfl,rfl,rfl⟩))
theorem parseF (s:ByteArray) (w0:World) (hm:s.size≤maxLen):Calls Tryz.prog 6 #[.string s] w0 (ParseF s w0):=by
 cases hL:lexAll s with
 |inl p=>exact parse_inl s w0 hm (kk:=p.1) (ii:=p.2) hL
 |inr ts=>exact parse_inr s w0 hm hL
end Go.Proofs.YtdplogkmkgekdaaGreatDoor
