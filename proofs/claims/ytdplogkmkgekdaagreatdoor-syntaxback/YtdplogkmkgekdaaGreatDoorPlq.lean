/- The project's Parse answers as the grammar says, whether its tokens have a fault or not; two blocks, one laid behind the other. -/
import Derived.Test.YtdplogkmkgekdaaGreatDoorPln
import Derived.Test.YtdplogkmkgekdaaGreatDoorTypes
import Derived.Test.YtdplogkmkgekdaaGreatDoorPkb
import Derived.Test.YtdplogkmkgekdaaGreatDoorFParseA
set_option linter.all false
set_option maxRecDepth 100000
set_option maxHeartbeats 4000000
namespace Go.Proofs.YtdplogkmkgekdaaGreatDoor.Pj
open Go.RowKit
theorem Fe {W:World} {b:Nat} {d0 d1 d2 d3 d4 d5 d6 d7 d8 d9 d10 e0 e1:Value} (hB:bW W b #[d0,d1,d2,d3,d4,d5,d6,d7,d8,d9,d10]) (hC:W.heap[b+1]? =some (.cells #[e0,e1] 31 (0,0))) (c0 c1 c2 c3 c4 c5 c6 c7 c8 c9 c10 k a:Value) {w0:World} (hb:Below b w0 W):
 bW (((bC W b c0 c1 c2 c3 c4 c5 c6 c7 c8 c9 c10).setCell ⟨b+1,0,none⟩ k).setCell ⟨b+1,1,none⟩ a) b #[c0,c1,c2,c3,c4,c5,c6,c7,c8,c9,c10]∧(((bC W b c0 c1 c2 c3 c4 c5 c6 c7 c8 c9 c10).setCell ⟨b+1,0,none⟩ k).setCell ⟨b+1,1,none⟩ a).heap[b+1]? =some (.cells #[k,a] 31 (0,0))∧Below b w0 (((bC W b c0 c1 c2 c3 c4 c5 c6 c7 c8 c9 c10).setCell ⟨b+1,0,none⟩ k).setCell ⟨b+1,1,none⟩ a)∧Same (fun x=>b+2≤x) W (((bC W b c0 c1 c2 c3 c4 c5 c6 c7 c8 c9 c10).setCell ⟨b+1,0,none⟩ k).setCell ⟨b+1,1,none⟩ a):=by
 have h1:b≠b+1:=by omega
 refine⟨((bW.bC hB c0 c1 c2 c3 c4 c5 c6 c7 c8 c9 c10).other (p:=⟨b+1,0,none⟩) h1 _).other (p:=⟨b+1,1,none⟩) h1 _,?_,((Below.bC hb (Nat.le_refl _) c0 c1 c2 c3 c4 c5 c6 c7 c8 c9 c10).setCell (p:=⟨b+1,0,none⟩) (Nat.le_succ _) k).setCell (p:=⟨b+1,1,none⟩) (Nat.le_succ _) a,fun x hx hl=>?_⟩
 ·have hs:(bC W b c0 c1 c2 c3 c4 c5 c6 c7 c8 c9 c10).heap[b+1]? =W.heap[b+1]? :=Same.bC (S:=fun x=>x=b+1) (by omega) c0 c1 c2 c3 c4 c5 c6 c7 c8 c9 c10 (b+1) rfl (Array.getElem?_eq_some_iff.1 hC).1
  have e1:((bC W b c0 c1 c2 c3 c4 c5 c6 c7 c8 c9 c10).setCell ⟨b+1,0,none⟩ k).heap[b+1]? =some (.cells #[k,e1] 31 (0,0)):=by
   rw[heap_setCell_same _ (b+1) 0 _ 31 _ (hs.trans hC)]
   rfl
  rw[heap_setCell_same _ (b+1) 1 _ 31 _ e1]
  rfl
 ·have hx:b+2≤x:=hx
  exact((Below.heap_setCell _ ⟨b+1,1,none⟩ _ _ (by show x≠b+1;omega)).trans (Below.heap_setCell _ ⟨b+1,0,none⟩ _ _ (by show x≠b+1;omega))).trans (Same.bC (S:=fun x=>b+2≤x) (by omega) c0 c1 c2 c3 c4 c5 c6 c7 c8 c9 c10 x hx hl)
theorem XU {W:World} {b:Nat} {d0 d1 d2 d3 d4 d5 d6 d7 d8 d9 d10 e0 e1:Value} (hB:bW W b #[d0,d1,d2,d3,d4,d5,d6,d7,d8,d9,d10]) (hC:W.heap[b+1]? =some (.cells #[e0,e1] 31 (0,0))) (c0 c1 c2 c3 c4 c5 c6 c7 c8 c9 c10:Value) {w0:World} (hb:Below b w0 W):
 bW (bC W b c0 c1 c2 c3 c4 c5 c6 c7 c8 c9 c10) b #[c0,c1,c2,c3,c4,c5,c6,c7,c8,c9,c10]∧(bC W b c0 c1 c2 c3 c4 c5 c6 c7 c8 c9 c10).heap[b+1]? =some (.cells #[e0,e1] 31 (0,0))∧Below b w0 (bC W b c0 c1 c2 c3 c4 c5 c6 c7 c8 c9 c10)∧Same (fun x=>b+2≤x) W (bC W b c0 c1 c2 c3 c4 c5 c6 c7 c8 c9 c10):=
 ⟨bW.bC hB c0 c1 c2 c3 c4 c5 c6 c7 c8 c9 c10,(Same.bC (S:=fun x=>x=b+1) (by omega) c0 c1 c2 c3 c4 c5 c6 c7 c8 c9 c10 (b+1) rfl (Array.getElem?_eq_some_iff.1 hC).1).trans hC,Below.bC hb (Nat.le_refl _) c0 c1 c2 c3 c4 c5 c6 c7 c8 c9 c10,Same.bC (S:=fun x=>b+2≤x) (by omega) c0 c1 c2 c3 c4 c5 c6 c7 c8 c9 c10⟩
theorem ran {b rb:Nat} {w0 W2 w3 w4:World} (h1:Below b w0 W2) (h2:bW W2 b aJ) (h3:W2.heap[b+1]? =some (.cells #[.int .i64 0,.int .i64 0] 31 (0,0))) (hb3:Below W2.heap.size W2 w3) (hrb:W2.heap.size≤rb) (hk:Kp w3.heap.size rb w3 w4):bW w4 b aJ∧w4.heap[b+1]? =some (.cells #[.int .i64 0,.int .i64 0] 31 (0,0))∧Below b w0 w4∧b+2≤w3.heap.size:=by
 have l2:=(Array.getElem?_eq_some_iff.1 h3).1
 have hs:=hb3.size
 have e:∀j,j<W2.heap.size→w4.heap[j]? =W2.heap[j]? :=fun j hj=>(hk.block j (by omega) (by omega)).trans (hb3.block j hj)
 exact⟨(e b (by omega)).trans h2,(e (b+1) l2).trans h3,⟨hk.os.trans (hb3.os.trans h1.os),hk.tape.trans (hb3.tape.trans h1.tape),hk.output.trans (hb3.output.trans h1.output),by have:=h1.size;have:=hk.size;omega,fun j hj=>(e j (by omega)).trans (h1.block j hj)⟩,by omega⟩
theorem sV {B:Nat} {W W':World} {h:Nat} {cs:List Value} {x:List Nr} (hn:isNode (fun b=>B≤b) False h W cs) (hx:Fl W [cs] [x]) (hs:Same (fun b=>B≤b) W W'):isNode (fun b=>B≤b) False h W' cs∧Fl W' [cs] [x]:=
 ⟨isNode.frame hs h cs hn,hx.CU (fun f=>by simp only[List.map_cons,List.map_nil];rw[lY hs h cs hn f])⟩
theorem NY (s:ByteArray) (w0:World) (hm:s.size≤maxLen) (hG:PG w0) {ts:List (List Value)} (hL:iE s=.inr ts):Calls Tryz.prog 5 #[.string s] w0 (Jz s w0):=by
 have hs:s.size≤6000:=by
  unfold iE at hL
  split at hL
  ·exact absurd hL (by simp)
  ·omega
 obtain⟨n1,n2,n3⟩:=LK w0
 have hG2:=hG.below n3 hG.base.room
 go_enter_defers Tryz.func5,Tryz.ntmps5
 go_wp2_with fail
 refine(Mi s _ hm hG2).mono ?_
 rintro e w1 ⟨hT,hb1⟩
 unfold qP at hT
 rw[hL] at hT
 obtain⟨v,rfl,hown⟩:=hT
 obtain⟨t,tb,cap,ht,rfl,htb,hgood,hrow⟩:=Nt hs hL hown
 have HPW:Hid (∀(k a:Int) (x:List Nr),((∃p:Int,Wr (fun n=>lF t n) ⟨0,0,0⟩ p∧k=4∧a=p)∨∃r,Ev (fun n=>lF t n) ⟨0,0,0⟩ r∧r.2.k=0∧((∃p,Dp [r.1] 1 (some p)∧k=5∧a=p)∨(Dp [r.1] 1 none∧k=0∧a=0∧x=r.1)))→tX s k a x):=by
  intro k a x h1
  unfold tX
  rw[hL]
  rw[ht] at h1
  exact h1
 have hcl:Clean t:=ht▸Pf hL
 clear ht
 have z1:bW w1 w0.heap.size aJ:=n1.below hb1
 have z2:w1.heap[w0.heap.size+1]? =some (.cells #[.int .i64 0,.int .i64 0] 31 (0,0)):=(hb1.block _ (by simp)).trans n2
 have hb:Below w0.heap.size w0 w1:=n3.trans (hb1.mono n3.size)
 have hG3:=hG2.below hb1 (Nat.le_trans hG.base.room n3.size)
 obtain⟨W2,hW2⟩:∃W2,W2=w1.alloc (.cells #[.int .i64 0,.int .i64 0] 31):=⟨_,rfl⟩
 have hb2:Below w1.heap.size w1 W2:=by rw[hW2];exact(Below.refl _ _).alloc (Nat.le_refl _) _
 have hrow2:Row W2 tb t:=hrow.of_cells (hb2.block _ hrow.lt)
 have hG4:PG W2:=hG3.below hb2 (Nat.le_trans hG.base.room hb.size)
 have y1:bW W2 w0.heap.size aJ:=z1.below hb2
 have y2:W2.heap[w0.heap.size+1]? =some (.cells #[.int .i64 0,.int .i64 0] 31 (0,0)):=(hb2.block _ (Array.getElem?_eq_some_iff.1 z2).1).trans z2
 have HB:Hid (Below w0.heap.size w0 W2):=hb.trans (hb2.mono hb.size)
 have HNP:=NV (cap:=cap) hrow2 hrow2.lt hgood hcl hgood.some_ hG4.glob
 have HN:=@aG _ @HNP
 have HY:Hid (bW W2 w0.heap.size aJ∧W2.heap[w0.heap.size+1]? =some (.cells #[.int .i64 0,.int .i64 0] 31 (0,0))):=⟨y1,y2⟩
 clear n1 n2 n3 hb1 hb hown z1 z2 hG hG2 hG3 hG4 hrow hrow2 hb2 HNP y1 y2 hcl
 have HW2:=@aG _ @hW2
 clear hW2
 go_upto_region 5 with fail
 rw[←HW2.out]
 go_upto_region 6 with(first|(go_at_call 13;refine HN.out.mono ?_;rintro e w3 ⟨rb,cp,rfl,hrd,hb3,hrb⟩;have HB3:Hid (Below W2.heap.size W2 w3∧W2.heap.size≤rb):=⟨hb3,hrb⟩;clear hb3 hrb)|(go_at_call 14;refine(ad8 hrd).mono ?_;rintro e w4 (⟨kind,pos,n,m,name,ko,kl,kc,i',rfl,hx,hn,x,hfl,hev⟩|⟨p,rfl,hk,hw⟩);(obtain⟨z4,y4,b4,l4⟩:=ran HB.out HY.out.1 HY.out.2 HB3.out.1 HB3.out.2 hx.kp;have HX:Hid (kJ w3.heap.size False w4 (ah kind pos n m name (.slice ko kl kc)).toList∧Fl w4 [(ah kind pos n m name (.slice ko kl kc)).toList] [x]∧Ev (fun n=>lF t n) ⟨0,0,0⟩ (x,⟨i',0,0⟩)∧w0.heap.size+2≤w3.heap.size):=⟨hn,hfl,hev,l4⟩;have U8:Hid (bW w4 w0.heap.size aJ∧w4.heap[w0.heap.size+1]? =some (.cells #[.int .i64 0,.int .i64 0] 31 (0,0))∧Below w0.heap.size w0 w4):=⟨z4,y4,b4⟩;have c4:=z4.cell;have f4:=z4.fz;have l4':=z4.lt;clear hx hn hfl hev y4 b4 l4 z4);rotate_left))
 ·obtain⟨z4,y4,b4,-⟩:=ran HB.out HY.out.1 HY.out.2 HB3.out.1 HB3.out.2 hk
  exact XT rfl rfl z4 y4 fun W' hb'=>⟨0,0,0,0,⟨#[]⟩,none,0,0,4,p,[],rfl,b4.trans hb',fun e=>absurd e (by decide),HPW.out 4 p [] (.inl ⟨p,hw,rfl,rfl⟩)⟩
 ·obtain⟨W5,JA⟩:∃W5,W5=bC w4 w0.heap.size (.int .i64 kind) (.int .i64 pos) (.int .i64 n) (.int .i64 m) (.string name) (.slice ko kl kc) (.int .i64 0) (.int .i64 0) (.slice none 0 0) (.slice none 0 0) (.slice none 0 0):=⟨_,rfl⟩
  obtain⟨g1,g2,g3,g4⟩:=XU U8.out.1 U8.out.2.1 (.int .i64 kind) (.int .i64 pos) (.int .i64 n) (.int .i64 m) (.string name) (.slice ko kl kc) (.int .i64 0) (.int .i64 0) (.slice none 0 0) (.slice none 0 0) (.slice none 0 0) U8.out.2.2
  rw[←JA] at g1 g2 g3 g4
  obtain⟨⟨hh,hn4⟩,abE,hev,hl⟩:=HX.out
  obtain⟨JB,SB⟩:=sV (isNode.weaken (S':=fun b=>w0.heap.size+2≤b) (fun b hb=>Nat.le_trans hl hb) (fun x=>x) hh _ hn4) abE g4
  have HD:=Ur hh JB SB 1 (by decide) (by decide)
  have HDD:=@aG _ @HD
  have xG:Hid (bW W5 w0.heap.size (ah kind pos n m name (.slice ko kl kc))∧W5.heap[w0.heap.size+1]? =some (.cells #[.int .i64 0,.int .i64 0] 31 (0,0))∧Below w0.heap.size w0 W5∧isNode (fun b=>w0.heap.size+2≤b) False hh W5 (ah kind pos n m name (.slice ko kl kc)).toList∧Fl W5 [(ah kind pos n m name (.slice ko kl kc)).toList] [x]∧Ev (fun n=>lF t n) ⟨0,0,0⟩ (x,⟨i',0,0⟩)):=⟨g1,g2,g3,JB,SB,hev⟩
  have HE:=JA
  unfold bC at HE
  rw[←HE]
  have c5:=g1.cell
  have l5:=g1.lt
  clear HE JA g1 g2 g3 g4 hn4 abE hev hl JB SB HD c4 f4 l4' HX U8
  go_upto_region 7 with(go_at_call 15;refine HDD.out.mono ?_;rintro e w6 ⟨r,bb,rfl,hb6,hD⟩;have HD6:=@aG _ @hD;have yE:=@aG _ @hb6;clear hD hb6)
  have z6:bW w6 w0.heap.size (ah kind pos n m name (.slice ko kl kc)):=xG.out.1.below yE.out
  have y6:w6.heap[w0.heap.size+1]? =some (.cells #[.int .i64 0,.int .i64 0] 31 (0,0)):=(yE.out.block _ (Array.getElem?_eq_some_iff.1 xG.out.2.1).1).trans xG.out.2.1
  have b6:Below w0.heap.size w0 w6:=xG.out.2.2.1.trans (yE.out.mono xG.out.2.2.1.size)
  have hnf:=sV xG.out.2.2.2.1 xG.out.2.2.2.2.1 (Same.below yE.out)
  have AX:Hid (bW w6 w0.heap.size (ah kind pos n m name (.slice ko kl kc))∧w6.heap[w0.heap.size+1]? =some (.cells #[.int .i64 0,.int .i64 0] 31 (0,0))∧Below w0.heap.size w0 w6∧isNode (fun b=>w0.heap.size+2≤b) False hh w6 (ah kind pos n m name (.slice ko kl kc)).toList∧Fl w6 [(ah kind pos n m name (.slice ko kl kc)).toList] [x]):=⟨z6,y6,b6,hnf.1,hnf.2⟩
  have HEV:Hid (Ev (fun n=>lF t n) ⟨0,0,0⟩ (x,⟨i',0,0⟩)):=xG.out.2.2.2.2.2
  clear hnf c5 l5 HDD xG yE b6
  have c6:=z6.cell
  have f6:=z6.fz
  have l6:=z6.lt
  have c7:∀o,w6.cell? ⟨w0.heap.size+1,o,none⟩=(#[.int .i64 0,.int .i64 0]:Array Value)[o]? :=fun o=>cell_of_row _ _ o _ 31 (0,0) y6
  have f7:∀o,w6.frozen? ⟨w0.heap.size+1,o,none⟩=false:=fun o=>frozen_of_row _ _ o _ 31 y6
  have l7:=(Array.getElem?_eq_some_iff.1 y6).1
  have afh:w0.heap.size≠w0.heap.size+1:=by omega
  have aaI:w0.heap.size+1≠w0.heap.size:=by omega
  clear z6 y6
  cases bb
  ·go_wp2_with fail
   all_goals
    obtain⟨g1,g2,g3,g4⟩:=Fe AX.out.1 AX.out.2.1 (.int .i64 kind) (.int .i64 pos) (.int .i64 n) (.int .i64 m) (.string name) (.slice ko kl kc) (.int .i64 0) (.int .i64 0) (.slice none 0 0) (.slice none 0 0) (.slice none 0 0) (.int .i64 0) (.int .i64 0) AX.out.2.2.1
    have hnf:=sV AX.out.2.2.2.1 AX.out.2.2.2.2 g4
    exact Mj rfl rfl g1 g2 ⟨kind,pos,n,m,name,ko,kl,kc,0,0,x,rfl,g3,fun _=>⟨⟨hh,isNode.weaken (fun b hb=>Nat.le_trans (Nat.le_add_right _ _) hb) (fun x=>x) hh _ hnf.1⟩,hnf.2⟩,HPW.out 0 0 x (.inr ⟨_,HEV.out,rfl,.inr ⟨by rcases HD6.out with h|h;exact h.2;exact absurd h.1 (by decide),rfl,rfl,rfl⟩⟩)⟩
  ·go_wp2_with fail
   all_goals
    obtain⟨g1,g2,g3,g4⟩:=Fe AX.out.1 AX.out.2.1 (.int .i64 0) (.int .i64 0) (.int .i64 0) (.int .i64 0) (.string ⟨#[]⟩) (.slice none 0 0) (.int .i64 0) (.int .i64 0) (.slice none 0 0) (.slice none 0 0) (.slice none 0 0) (.int .i64 5) (.int .i64 r) AX.out.2.2.1
    exact Mj rfl rfl g1 g2 ⟨0,0,0,0,⟨#[]⟩,none,0,0,5,r,[],rfl,g3,fun e=>absurd e (by decide),HPW.out 5 r [] (.inr ⟨_,HEV.out,rfl,.inl ⟨r,by rcases HD6.out with h|h;exact absurd h.1 (by decide);exact h.2,rfl,rfl⟩⟩)⟩
theorem JC (s:ByteArray) (w0:World) (hm:s.size≤maxLen) (hG:PG w0):Calls Tryz.prog 5 #[.string s] w0 (Jz s w0):=by
 cases hL:iE s with
 |inl p=>exact NW s w0 hm hG (kk:=p.1) (ii:=p.2) hL
 |inr ts=>exact NY s w0 hm hG hL
theorem abF (w:World) (c d:Array Value):bW ((w.alloc (.cells c 28)).alloc (.cells d 31)) w.heap.size c∧((w.alloc (.cells c 28)).alloc (.cells d 31)).heap[w.heap.size+1]? =some (.cells d 31 (0,0))∧Below w.heap.size w ((w.alloc (.cells c 28)).alloc (.cells d 31))∧((w.alloc (.cells c 28)).alloc (.cells d 31)).heap.size=w.heap.size+2:=by
 refine⟨(bW.new w c).alloc _,?_,((Below.refl _ _).alloc (Nat.le_refl _) _).alloc (by simp) _,by simp⟩
 have:=heap_alloc_new (w.alloc (.cells c 28)) (.cells d 31)
 simpa using this
end Go.Proofs.YtdplogkmkgekdaaGreatDoor.Pj
