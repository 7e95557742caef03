/- SyntaxParses' walk: both parsers answer the same. -/
import Derived.Test.YtdplogkmkgekdaaGreatDoorPln
import Derived.Test.YtdplogkmkgekdaaGreatDoorFParse
set_option linter.all false
set_option maxRecDepth 100000
set_option maxHeartbeats 4000000
namespace Go.Proofs.YtdplogkmkgekdaaGreatDoor.Pj
open Go.RowKit
theorem storedG {W:World} {b:Nat} {d0 d1 d2 d3 d4 d5 d6 d7 d8 d9 d10 e0 e1:Value} (hB:Blk W b #[d0,d1,d2,d3,d4,d5,d6,d7,d8,d9,d10]) (hC:W.heap[b+1]? =some (.cells #[e0,e1] 31 (0,0))) (c0 c1 c2 c3 c4 c5 c6 c7 c8 c9 c10 k a:Value) {w0:World} (hb:Below b w0 W):
 Blk (((set11 W b c0 c1 c2 c3 c4 c5 c6 c7 c8 c9 c10).setCell ⟨b+1,0,none⟩ k).setCell ⟨b+1,1,none⟩ a) b #[c0,c1,c2,c3,c4,c5,c6,c7,c8,c9,c10]∧(((set11 W b c0 c1 c2 c3 c4 c5 c6 c7 c8 c9 c10).setCell ⟨b+1,0,none⟩ k).setCell ⟨b+1,1,none⟩ a).heap[b+1]? =some (.cells #[k,a] 31 (0,0))∧Below b w0 (((set11 W b c0 c1 c2 c3 c4 c5 c6 c7 c8 c9 c10).setCell ⟨b+1,0,none⟩ k).setCell ⟨b+1,1,none⟩ a)∧Same (fun x=>b+2≤x) W (((set11 W b c0 c1 c2 c3 c4 c5 c6 c7 c8 c9 c10).setCell ⟨b+1,0,none⟩ k).setCell ⟨b+1,1,none⟩ a):=by
 have h1:b≠b+1:=by omega
 refine⟨((Blk.set11 hB c0 c1 c2 c3 c4 c5 c6 c7 c8 c9 c10).other (p:=⟨b+1,0,none⟩) h1 _).other (p:=⟨b+1,1,none⟩) h1 _,?_,((Below.set11 hb (Nat.le_refl _) c0 c1 c2 c3 c4 c5 c6 c7 c8 c9 c10).setCell (p:=⟨b+1,0,none⟩) (Nat.le_succ _) k).setCell (p:=⟨b+1,1,none⟩) (Nat.le_succ _) a,fun x hx hl=>?_⟩
 ·have hs:(set11 W b c0 c1 c2 c3 c4 c5 c6 c7 c8 c9 c10).heap[b+1]? =W.heap[b+1]? :=Same.set11 (S:=fun x=>x=b+1) (by omega) c0 c1 c2 c3 c4 c5 c6 c7 c8 c9 c10 (b+1) rfl (Array.getElem?_eq_some_iff.1 hC).1
  have e1:((set11 W b c0 c1 c2 c3 c4 c5 c6 c7 c8 c9 c10).setCell ⟨b+1,0,none⟩ k).heap[b+1]? =some (.cells #[k,e1] 31 (0,0)):=by
   rw[heap_setCell_same _ (b+1) 0 _ 31 _ (hs.trans hC)]
   rfl
  rw[heap_setCell_same _ (b+1) 1 _ 31 _ e1]
  rfl
 ·have hx:b+2≤x:=hx
  exact((Below.heap_setCell _ ⟨b+1,1,none⟩ _ _ (by show x≠b+1;omega)).trans (Below.heap_setCell _ ⟨b+1,0,none⟩ _ _ (by show x≠b+1;omega))).trans (Same.set11 (S:=fun x=>b+2≤x) (by omega) c0 c1 c2 c3 c4 c5 c6 c7 c8 c9 c10 x hx hl)
theorem stored1 {W:World} {b:Nat} {d0 d1 d2 d3 d4 d5 d6 d7 d8 d9 d10 e0 e1:Value} (hB:Blk W b #[d0,d1,d2,d3,d4,d5,d6,d7,d8,d9,d10]) (hC:W.heap[b+1]? =some (.cells #[e0,e1] 31 (0,0))) (c0 c1 c2 c3 c4 c5 c6 c7 c8 c9 c10:Value) {w0:World} (hb:Below b w0 W):
 Blk (set11 W b c0 c1 c2 c3 c4 c5 c6 c7 c8 c9 c10) b #[c0,c1,c2,c3,c4,c5,c6,c7,c8,c9,c10]∧(set11 W b c0 c1 c2 c3 c4 c5 c6 c7 c8 c9 c10).heap[b+1]? =some (.cells #[e0,e1] 31 (0,0))∧Below b w0 (set11 W b c0 c1 c2 c3 c4 c5 c6 c7 c8 c9 c10)∧Same (fun x=>b+2≤x) W (set11 W b c0 c1 c2 c3 c4 c5 c6 c7 c8 c9 c10):=
 ⟨Blk.set11 hB c0 c1 c2 c3 c4 c5 c6 c7 c8 c9 c10,(Same.set11 (S:=fun x=>x=b+1) (by omega) c0 c1 c2 c3 c4 c5 c6 c7 c8 c9 c10 (b+1) rfl (Array.getElem?_eq_some_iff.1 hC).1).trans hC,Below.set11 hb (Nat.le_refl _) c0 c1 c2 c3 c4 c5 c6 c7 c8 c9 c10,Same.set11 (S:=fun x=>b+2≤x) (by omega) c0 c1 c2 c3 c4 c5 c6 c7 c8 c9 c10⟩
theorem ran {b rb:Nat} {w0 W2 w3 w4:World} (h1:Below b w0 W2) (h2:Blk W2 b zeroC) (h3:W2.heap[b+1]? =some (.cells #[.int .i64 0,.int .i64 0] 31 (0,0))) (hb3:Below W2.heap.size W2 w3) (hrb:W2.heap.size≤rb) (hk:Kp w3.heap.size rb w3 w4):Blk w4 b zeroC∧w4.heap[b+1]? =some (.cells #[.int .i64 0,.int .i64 0] 31 (0,0))∧Below b w0 w4∧b+2≤w3.heap.size:=by
 have l2:=(Array.getElem?_eq_some_iff.1 h3).1
 have hs:=hb3.size
 have e:∀j,j<W2.heap.size→w4.heap[j]? =W2.heap[j]? :=fun j hj=>(hk.block j (by omega) (by omega)).trans (hb3.block j hj)
 exact⟨(e b (by omega)).trans h2,(e (b+1) l2).trans h3,⟨hk.os.trans (hb3.os.trans h1.os),hk.tape.trans (hb3.tape.trans h1.tape),hk.output.trans (hb3.output.trans h1.output),by have:=h1.size;have:=hk.size;omega,fun j hj=>(e j (by omega)).trans (h1.block j hj)⟩,by omega⟩
theorem node_on {B:Nat} {W W':World} {h:Nat} {cs:List Value} {x:List Nr} (hn:isNode (fun b=>B≤b) False h W cs) (hx:Fl W [cs] [x]) (hs:Same (fun b=>B≤b) W W'):isNode (fun b=>B≤b) False h W' cs∧Fl W' [cs] [x]:=
 ⟨isNode.frame hs h cs hn,hx.cong (fun f=>by simp only[List.map_cons,List.map_nil];rw[flat_frame hs h cs hn f])⟩
theorem parsep_inr (s:ByteArray) (w0:World) (hm:s.size≤maxLen) (hG:PG w0) {ts:List (List Value)} (hL:lexAll s=.inr ts):Calls Tryz.prog 5 #[.string s] w0 (ParseP s w0):=by
 have hs:s.size≤6000:=by
  unfold lexAll at hL
  split at hL
  ·exact absurd hL (by simp)
  ·omega
 obtain⟨n1,n2,n3⟩:=two_new w0
 have hG2:=hG.below n3 hG.base.room
 go_enter_defers Tryz.func5,Tryz.ntmps5
 go_wp2_with fail
 refine(tokensP s _ hm hG2).mono ?_
 rintro e w1 ⟨hT,hb1⟩
 unfold TokPost at hT
 rw[hL] at hT
 obtain⟨v,rfl,hown⟩:=hT
 obtain⟨t,tb,cap,ht,rfl,htb,hgood,hrow⟩:=tok_reader hs hL hown
 have HPW:Hid (∀(k a:Int) (x:List Nr),((∃p:Int,Wr (fun n=>gProg t n) ⟨0,0,0⟩ p∧k=4∧a=p)∨∃r,Ev (fun n=>gProg t n) ⟨0,0,0⟩ r∧r.2.k=0∧((∃p,Dp [r.1] 1 (some p)∧k=5∧a=p)∨(Dp [r.1] 1 none∧k=0∧a=0∧x=r.1)))→ParseW s k a x):=by
  intro k a x h1
  unfold ParseW
  rw[hL]
  rw[ht] at h1
  exact h1
 have hcl:Clean t:=ht▸lex_clean hL
 clear ht
 have z1:Blk w1 w0.heap.size zeroC:=n1.below hb1
 have z2:w1.heap[w0.heap.size+1]? =some (.cells #[.int .i64 0,.int .i64 0] 31 (0,0)):=(hb1.block _ (by simp)).trans n2
 have hb:Below w0.heap.size w0 w1:=n3.trans (hb1.mono n3.size)
 have hG3:=hG2.below hb1 (Nat.le_trans hG.base.room n3.size)
 obtain⟨W2,hW2⟩:∃W2,W2=w1.alloc (.cells #[.int .i64 0,.int .i64 0] 31):=⟨_,rfl⟩
 have hb2:Below w1.heap.size w1 W2:=by rw[hW2];exact(Below.refl _ _).alloc (Nat.le_refl _) _
 have hrow2:Row W2 tb t:=hrow.of_cells (hb2.block _ hrow.lt)
 have hG4:PG W2:=hG3.below hb2 (Nat.le_trans hG.base.room hb.size)
 have y1:Blk W2 w0.heap.size zeroC:=z1.below hb2
 have y2:W2.heap[w0.heap.size+1]? =some (.cells #[.int .i64 0,.int .i64 0] 31 (0,0)):=(hb2.block _ (Array.getElem?_eq_some_iff.1 z2).1).trans z2
 have HB:Hid (Below w0.heap.size w0 W2):=hb.trans (hb2.mono hb.size)
 have HNP:=newParserP (cap:=cap) hrow2 hrow2.lt hgood hcl hgood.some_ hG4.glob
 have HN:Hid (Calls Tryz.prog 13 #[.slice (some ⟨tb,0,none⟩) t.len cap] W2 (fun e w'=>∃rb cp,e=.returned (.pointer (some ⟨rb,0,none⟩))∧Rd w' rb tb cp t 0 0 0∧Below W2.heap.size W2 w'∧W2.heap.size≤rb)):=HNP
 have HY:Hid (Blk W2 w0.heap.size zeroC∧W2.heap[w0.heap.size+1]? =some (.cells #[.int .i64 0,.int .i64 0] 31 (0,0))):=⟨y1,y2⟩
 clear n1 n2 n3 hb1 hb hown z1 z2 hG hG2 hG3 hG4 hrow hrow2 hb2 HNP y1 y2 hcl
 have HW2:Hid (W2=w1.alloc (.cells #[.int .i64 0,.int .i64 0] 31)):=hW2
 clear hW2
 go_upto_region 5 with fail
 rw[←HW2.out]
 go_upto_region 6 with(first|(go_at_call 13;refine HN.out.mono ?_;rintro e w3 ⟨rb,cp,rfl,hrd,hb3,hrb⟩;have HB3:Hid (Below W2.heap.size W2 w3∧W2.heap.size≤rb):=⟨hb3,hrb⟩;clear hb3 hrb)|(go_at_call 14;refine(progP hrd).mono ?_;rintro e w4 (⟨kind,pos,n,m,name,ko,kl,kc,i',rfl,hx,hn,x,hfl,hev⟩|⟨p,rfl,hk,hw⟩);(obtain⟨z4,y4,b4,l4⟩:=ran HB.out HY.out.1 HY.out.2 HB3.out.1 HB3.out.2 hx.kp;have HX:Hid (NodeIn w3.heap.size False w4 (nodeC kind pos n m name (.slice ko kl kc)).toList∧Fl w4 [(nodeC kind pos n m name (.slice ko kl kc)).toList] [x]∧Ev (fun n=>gProg t n) ⟨0,0,0⟩ (x,⟨i',0,0⟩)∧w0.heap.size+2≤w3.heap.size):=⟨hn,hfl,hev,l4⟩;have HY4:Hid (Blk w4 w0.heap.size zeroC∧w4.heap[w0.heap.size+1]? =some (.cells #[.int .i64 0,.int .i64 0] 31 (0,0))∧Below w0.heap.size w0 w4):=⟨z4,y4,b4⟩;have c4:=z4.cell;have f4:=z4.fz;have l4':=z4.lt;clear hx hn hfl hev y4 b4 l4 z4);rotate_left))
 ·obtain⟨z4,y4,b4,-⟩:=ran HB.out HY.out.1 HY.out.2 HB3.out.1 HB3.out.2 hk
  exact leave_p rfl rfl z4 y4 fun W' hb'=>⟨0,0,0,0,⟨#[]⟩,none,0,0,4,p,[],rfl,b4.trans hb',fun e=>absurd e (by decide),HPW.out 4 p [] (.inl ⟨p,hw,rfl,rfl⟩)⟩
 ·obtain⟨W5,hW5⟩:∃W5,W5=set11 w4 w0.heap.size (.int .i64 kind) (.int .i64 pos) (.int .i64 n) (.int .i64 m) (.string name) (.slice ko kl kc) (.int .i64 0) (.int .i64 0) (.slice none 0 0) (.slice none 0 0) (.slice none 0 0):=⟨_,rfl⟩
  obtain⟨g1,g2,g3,g4⟩:=stored1 HY4.out.1 HY4.out.2.1 (.int .i64 kind) (.int .i64 pos) (.int .i64 n) (.int .i64 m) (.string name) (.slice ko kl kc) (.int .i64 0) (.int .i64 0) (.slice none 0 0) (.slice none 0 0) (.slice none 0 0) HY4.out.2.2
  rw[←hW5] at g1 g2 g3 g4
  obtain⟨⟨hh,hn4⟩,hfl4,hev,hl⟩:=HX.out
  obtain⟨hn5,hfl5⟩:=node_on (isNode.weaken (S':=fun b=>w0.heap.size+2≤b) (fun b hb=>Nat.le_trans hl hb) (fun x=>x) hh _ hn4) hfl4 g4
  have HD:=deepP hh hn5 hfl5 1 (by decide) (by decide)
  have HDD:Hid (Calls Tryz.prog 15 #[.agg (nodeC kind pos n m name (.slice ko kl kc)),.int .i64 1] W5 (DeepB W5 x 1)):=HD
  have HG5:Hid (Blk W5 w0.heap.size (nodeC kind pos n m name (.slice ko kl kc))∧W5.heap[w0.heap.size+1]? =some (.cells #[.int .i64 0,.int .i64 0] 31 (0,0))∧Below w0.heap.size w0 W5∧isNode (fun b=>w0.heap.size+2≤b) False hh W5 (nodeC kind pos n m name (.slice ko kl kc)).toList∧Fl W5 [(nodeC kind pos n m name (.slice ko kl kc)).toList] [x]∧Ev (fun n=>gProg t n) ⟨0,0,0⟩ (x,⟨i',0,0⟩)):=⟨g1,g2,g3,hn5,hfl5,hev⟩
  have HE:=hW5
  unfold set11 at HE
  rw[←HE]
  have c5:=g1.cell
  have l5:=g1.lt
  clear HE hW5 g1 g2 g3 g4 hn4 hfl4 hev hl hn5 hfl5 HD c4 f4 l4' HX HY4
  go_upto_region 7 with(go_at_call 15;refine HDD.out.mono ?_;rintro e w6 ⟨r,bb,rfl,hb6,hD⟩;have HD6:Hid (bb=false∧Dp [x] 1 none∨bb=true∧Dp [x] 1 (some r)):=hD;have HB6:Hid (Below W5.heap.size W5 w6):=hb6;clear hD hb6)
  have z6:Blk w6 w0.heap.size (nodeC kind pos n m name (.slice ko kl kc)):=HG5.out.1.below HB6.out
  have y6:w6.heap[w0.heap.size+1]? =some (.cells #[.int .i64 0,.int .i64 0] 31 (0,0)):=(HB6.out.block _ (Array.getElem?_eq_some_iff.1 HG5.out.2.1).1).trans HG5.out.2.1
  have b6:Below w0.heap.size w0 w6:=HG5.out.2.2.1.trans (HB6.out.mono HG5.out.2.2.1.size)
  have hnf:=node_on HG5.out.2.2.2.1 HG5.out.2.2.2.2.1 (Same.below HB6.out)
  have HN6:Hid (Blk w6 w0.heap.size (nodeC kind pos n m name (.slice ko kl kc))∧w6.heap[w0.heap.size+1]? =some (.cells #[.int .i64 0,.int .i64 0] 31 (0,0))∧Below w0.heap.size w0 w6∧isNode (fun b=>w0.heap.size+2≤b) False hh w6 (nodeC kind pos n m name (.slice ko kl kc)).toList∧Fl w6 [(nodeC kind pos n m name (.slice ko kl kc)).toList] [x]):=⟨z6,y6,b6,hnf.1,hnf.2⟩
  have HEV:Hid (Ev (fun n=>gProg t n) ⟨0,0,0⟩ (x,⟨i',0,0⟩)):=HG5.out.2.2.2.2.2
  clear hnf c5 l5 HDD HG5 HB6 b6
  have c6:=z6.cell
  have f6:=z6.fz
  have l6:=z6.lt
  have c7:∀o,w6.cell? ⟨w0.heap.size+1,o,none⟩=(#[.int .i64 0,.int .i64 0]:Array Value)[o]? :=fun o=>cell_of_row _ _ o _ 31 (0,0) y6
  have f7:∀o,w6.frozen? ⟨w0.heap.size+1,o,none⟩=false:=fun o=>frozen_of_row _ _ o _ 31 y6
  have l7:=(Array.getElem?_eq_some_iff.1 y6).1
  have ne12:w0.heap.size≠w0.heap.size+1:=by omega
  have ne21:w0.heap.size+1≠w0.heap.size:=by omega
  clear z6 y6
  cases bb
  ·go_wp2_with fail
   all_goals
    obtain⟨g1,g2,g3,g4⟩:=storedG HN6.out.1 HN6.out.2.1 (.int .i64 kind) (.int .i64 pos) (.int .i64 n) (.int .i64 m) (.string name) (.slice ko kl kc) (.int .i64 0) (.int .i64 0) (.slice none 0 0) (.slice none 0 0) (.slice none 0 0) (.int .i64 0) (.int .i64 0) HN6.out.2.2.1
    have hnf:=node_on HN6.out.2.2.2.1 HN6.out.2.2.2.2 g4
    exact leave_r rfl rfl g1 g2 ⟨kind,pos,n,m,name,ko,kl,kc,0,0,x,rfl,g3,fun _=>⟨⟨hh,isNode.weaken (fun b hb=>Nat.le_trans (Nat.le_add_right _ _) hb) (fun x=>x) hh _ hnf.1⟩,hnf.2⟩,HPW.out 0 0 x (.inr ⟨_,HEV.out,rfl,.inr ⟨by rcases HD6.out with h|h;exact h.2;exact absurd h.1 (by decide),rfl,rfl,rfl⟩⟩)⟩
  ·go_wp2_with fail
   all_goals
    obtain⟨g1,g2,g3,g4⟩:=storedG HN6.out.1 HN6.out.2.1 (.int .i64 0) (.int .i64 0) (.int .i64 0) (.int .i64 0) (.string ⟨#[]⟩) (.slice none 0 0) (.int .i64 0) (.int .i64 0) (.slice none 0 0) (.slice none 0 0) (.slice none 0 0) (.int .i64 5) (.int .i64 r) HN6.out.2.2.1
    exact leave_r rfl rfl g1 g2 ⟨0,0,0,0,⟨#[]⟩,none,0,0,5,r,[],rfl,g3,fun e=>absurd e (by decide),HPW.out 5 r [] (.inr ⟨_,HEV.out,rfl,.inl ⟨r,by rcases HD6.out with h|h;exact absurd h.1 (by decide);exact h.2,rfl,rfl⟩⟩)⟩
end Go.Proofs.YtdplogkmkgekdaaGreatDoor.Pj
namespace Go.Proofs.YtdplogkmkgekdaaGreatDoor.Pj
open Go.RowKit
theorem parseP (s:ByteArray) (w0:World) (hm:s.size≤maxLen) (hG:PG w0):Calls Tryz.prog 5 #[.string s] w0 (ParseP s w0):=by
 cases hL:lexAll s with
 |inl p=>exact parsep_inl s w0 hm hG (kk:=p.1) (ii:=p.2) hL
 |inr ts=>exact parsep_inr s w0 hm hG hL
theorem faultP (k a:Int) (w:World):Calls Tryz.prog 7 #[.agg #[.int .i64 k,.int .i64 a],.agg #[.int .i64 k,.int .i64 a]] w (fun e w'=>e=.returned (.bool true)∧Below w.heap.size w w'):=by
 go_enter Tryz.func7,Tryz.ntmps7
 go_wp2_with fail
 go_ret
 refine⟨rfl,?_⟩
 exact((Below.refl _ _).alloc (Nat.le_refl _) _).alloc (by simp) _
theorem two_at (w:World) (c d:Array Value):Blk ((w.alloc (.cells c 28)).alloc (.cells d 31)) w.heap.size c∧((w.alloc (.cells c 28)).alloc (.cells d 31)).heap[w.heap.size+1]? =some (.cells d 31 (0,0))∧Below w.heap.size w ((w.alloc (.cells c 28)).alloc (.cells d 31))∧((w.alloc (.cells c 28)).alloc (.cells d 31)).heap.size=w.heap.size+2:=by
 refine⟨(Blk.new w c).alloc _,?_,((Below.refl _ _).alloc (Nat.le_refl _) _).alloc (by simp) _,by simp⟩
 have:=heap_alloc_new (w.alloc (.cells c 28)) (.cells d 31)
 simpa using this
theorem law3P (s:ByteArray) (w:World) (hm:s.size≤maxLen) (hG:PG w):Calls Tryz.prog 3 #[.string s] w (fun e w'=>e=.returned (.bool true)∧Below w.heap.size w w'):=by
 have HM:Hid (s.size≤maxLen):=hm
 clear hm
 go_enter Tryz.func3,Tryz.ntmps3
 go_wp2_with fail
 refine(parseP s _ HM.out hG).mono ?_
 rintro e w1 ⟨kind,pos,n,m,name,ko,kl,kc,k,a,x,rfl,hb1,hN1,hW1⟩
 have HW1:Hid (ParseW s k a x):=hW1
 have HN1:Hid (k=0→NodeIn w.heap.size False w1 (nodeC kind pos n m name (.slice ko kl kc)).toList∧Fl w1 [(nodeC kind pos n m name (.slice ko kl kc)).toList] [x]):=hN1
 have HB1:Hid (Below w.heap.size w w1):=hb1
 clear hW1 hN1 hb1
 obtain⟨z1,y1,hb2,hs2⟩:=two_at w1 (nodeC kind pos n m name (.slice ko kl kc)) #[.int .i64 k,.int .i64 a]
 obtain⟨W2,hW2⟩:∃W2,W2=(w1.alloc (.cells (nodeC kind pos n m name (.slice ko kl kc)) 28)).alloc (.cells #[.int .i64 k,.int .i64 a] 31):=⟨_,rfl⟩
 rw[←hW2] at z1 y1 hb2 hs2
 have HW2:Hid (W2=(w1.alloc (.cells (nodeC kind pos n m name (.slice ko kl kc)) 28)).alloc (.cells #[.int .i64 k,.int .i64 a] 31)):=hW2
 obtain⟨b1,hb1⟩:∃b1,b1=w1.heap.size:=⟨_,rfl⟩
 rw[←hb1] at z1 y1 hs2
 have HBB:Hid (b1=w1.heap.size∧Below w1.heap.size w1 W2∧W2.heap.size=b1+2):=⟨hb1,hb2,hs2⟩
 clear hW2 hs2 hb2
 go_wp2_with fail
 rw[←hb1]
 have hE:=HW2.out
 rw[show nodeC kind pos n m name (.slice ko kl kc)=#[.int .i64 kind,.int .i64 pos,.int .i64 n,.int .i64 m,.string name,.slice ko kl kc,.int .i64 0,.int .i64 0,.slice none 0 0,.slice none 0 0,.slice none 0 0] from rfl] at hE
 rw[←hE]
 clear hE hb1
 refine(parseF s W2 HM.out).mono ?_
 rintro e w3 ⟨kind2,pos2,n2,m2,name2,ko2,kl2,kc2,k2,a2,x2,rfl,hb3,hN3,hM3⟩
 obtain⟨rfl,rfl,hxx⟩:=HW1.out.one hM3
 have hB3:Below w1.heap.size w1 w3:=HBB.out.2.1.trans (hb3.mono (by have:=HBB.out.2.1.size;exact this))
 have HSN:Hid (k=0→∀{W:World},Below w3.heap.size w3 W→Calls Tryz.prog 8 #[.agg (nodeC kind pos n m name (.slice ko kl kc)),.agg (nodeC kind2 pos2 n2 m2 name2 (.slice ko2 kl2 kc2)),.bool false] W (fun e w'=>e=.returned (.bool true)∧Below W.heap.size W w')):=by
  intro hk W hW
  obtain⟨⟨h1,i1⟩,f1⟩:=HN1.out hk
  obtain⟨-,⟨h2,i2⟩,-,f2⟩:=hN3 hk
  obtain rfl:=hxx hk
  have hW1:Below w1.heap.size w1 W:=hB3.trans (hW.mono hB3.size)
  obtain⟨i1',f1'⟩:=fl_low hW1 i1 f1
  obtain⟨i2',f2'⟩:=fl_low hW i2 f2
  exact sameP h1 h2 i1' i2' f1' f2'
 have z3:Blk w3 b1 (nodeC kind pos n m name (.slice ko kl kc)):=z1.below hb3
 have y3:w3.heap[b1+1]? =some (.cells #[.int .i64 k,.int .i64 a] 31 (0,0)):=(hb3.block _ (by have:=HBB.out.2.2;omega)).trans y1
 have HB3:Hid (Below w.heap.size w w3∧b1+2≤w3.heap.size):=⟨HB1.out.trans (hB3.mono HB1.out.size),by have:=HBB.out.2.2;have:=hb3.size;omega⟩
 clear hb3 hN3 hM3 hB3 hxx z1 y1 HW2 HW1 HN1 HB1 HBB
 obtain⟨z4,y4,hb4,hs4⟩:=two_at w3 (nodeC kind2 pos2 n2 m2 name2 (.slice ko2 kl2 kc2)) #[.int .i64 k,.int .i64 a]
 obtain⟨W4,hW4⟩:∃W4,W4=(w3.alloc (.cells (nodeC kind2 pos2 n2 m2 name2 (.slice ko2 kl2 kc2)) 28)).alloc (.cells #[.int .i64 k,.int .i64 a] 31):=⟨_,rfl⟩
 rw[←hW4] at z4 y4 hb4 hs4
 have hE:=hW4
 rw[show nodeC kind2 pos2 n2 m2 name2 (.slice ko2 kl2 kc2)=#[.int .i64 kind2,.int .i64 pos2,.int .i64 n2,.int .i64 m2,.string name2,.slice ko2 kl2 kc2,.int .i64 0,.int .i64 0,.slice none 0 0,.slice none 0 0,.slice none 0 0] from rfl] at hE
 have HW4:Hid (W4=(w3.alloc (.cells #[.int .i64 kind2,.int .i64 pos2,.int .i64 n2,.int .i64 m2,.string name2,.slice ko2 kl2 kc2,.int .i64 0,.int .i64 0,.slice none 0 0,.slice none 0 0,.slice none 0 0] 28)).alloc (.cells #[.int .i64 k,.int .i64 a] 31)):=hE
 obtain⟨b2,hb2⟩:∃b2,b2=w3.heap.size:=⟨_,rfl⟩
 have HB4:Hid (b2=w3.heap.size∧Below w3.heap.size w3 W4∧W4.heap.size=b2+2∧b1+2≤b2):=⟨hb2,hb4,by rw[hs4,hb2],by rw[hb2];exact HB3.out.2⟩
 have z14:Blk W4 b1 (nodeC kind pos n m name (.slice ko kl kc)):=z3.below hb4
 have y14:W4.heap[b1+1]? =some (.cells #[.int .i64 k,.int .i64 a] 31 (0,0)):=(hb4.block _ (by have:=HB3.out.2;omega)).trans y3
 rw[←hb2] at z4 y4
 have HZ:Hid (Blk W4 b1 (nodeC kind pos n m name (.slice ko kl kc))∧W4.heap[b1+1]? =some (.cells #[.int .i64 k,.int .i64 a] 31 (0,0))∧Blk W4 b2 (nodeC kind2 pos2 n2 m2 name2 (.slice ko2 kl2 kc2))∧W4.heap[b2+1]? =some (.cells #[.int .i64 k,.int .i64 a] 31 (0,0))):=⟨z14,y14,z4,y4⟩
 have c3:∀o,w3.cell? ⟨b1+1,o,none⟩=(#[.int .i64 k,.int .i64 a]:Array Value)[o]? :=fun o=>cell_of_row _ _ o _ 31 (0,0) y3
 have l3:b1+1<w3.heap.size:=by have:=HB3.out.2;omega
 clear z3 y3 z4 y4 hb4 hs4 hW4 hE z14 y14
 go_upto_region 3 with fail
 rw[←hb2,←HW4.out]
 clear c3 l3 hb2
 have c1a:W4.cell? ⟨b1+1,0,none⟩=some (.int .i64 k):=cell_of_row _ _ 0 _ 31 (0,0) HZ.out.2.1
 have c1b:W4.cell? ⟨b1+1,1,none⟩=some (.int .i64 a):=cell_of_row _ _ 1 _ 31 (0,0) HZ.out.2.1
 have c2a:W4.cell? ⟨b2+1,0,none⟩=some (.int .i64 k):=cell_of_row _ _ 0 _ 31 (0,0) HZ.out.2.2.2
 have c2b:W4.cell? ⟨b2+1,1,none⟩=some (.int .i64 a):=cell_of_row _ _ 1 _ 31 (0,0) HZ.out.2.2.2
 go_upto_region 5 with(go_at_call 7;refine(faultP k a _).mono ?_;rintro e w5 ⟨rfl,hb5⟩;have HB5:Hid (Below W4.heap.size W4 w5):=hb5;clear hb5)
 clear c1a c1b c2a c2b
 have z1:Blk w5 b1 (nodeC kind pos n m name (.slice ko kl kc)):=HZ.out.1.below HB5.out
 have z2:Blk w5 b2 (nodeC kind2 pos2 n2 m2 name2 (.slice ko2 kl2 kc2)):=HZ.out.2.2.1.below HB5.out
 have y2:w5.heap[b2+1]? =some (.cells #[.int .i64 k,.int .i64 a] 31 (0,0)):=(HB5.out.block _ (by have:=HB4.out.2.2.1;omega)).trans HZ.out.2.2.2
 have c1:=z1.cell
 have c2:=z2.cell
 have c3a:w5.cell? ⟨b2+1,0,none⟩=some (.int .i64 k):=cell_of_row _ _ 0 _ 31 (0,0) y2
 have c3b:w5.cell? ⟨b2+1,1,none⟩=some (.int .i64 a):=cell_of_row _ _ 1 _ 31 (0,0) y2
 have HBW:Hid (Below w3.heap.size w3 w5):=HB4.out.2.1.trans (HB5.out.mono HB4.out.2.1.size)
 have HBE:Hid (Below w.heap.size w w5):=HB3.out.1.trans (HBW.out.mono HB3.out.1.size)
 clear z1 z2 y2 HZ HB4 HB3 HB5 HW4
 by_cases hk:k=0
 ·subst hk
  have hc:=HSN.out rfl HBW.out
  have hc2:=HSN.out rfl HBW.out.drew
  have HC:Hid (Calls Tryz.prog 8 #[.agg (nodeC kind pos n m name (.slice ko kl kc)),.agg (nodeC kind2 pos2 n2 m2 name2 (.slice ko2 kl2 kc2)),.bool false] w5 (fun e w'=>e=.returned (.bool true)∧Below w5.heap.size w5 w')):=hc
  have HCD:Hid (Calls Tryz.prog 8 #[.agg (nodeC kind pos n m name (.slice ko kl kc)),.agg (nodeC kind2 pos2 n2 m2 name2 (.slice ko2 kl2 kc2)),.bool false] w5.drew (fun e w'=>e=.returned (.bool true)∧Below w5.heap.size w5.drew w')):=hc2
  clear hc hc2 HSN
  go_wp2_with (go_at_call 8;refine HC.out.mono ?_;rintro e w6 ⟨rfl,hb6⟩)
  go_ret
  exact⟨rfl,HBE.out.trans (hb6.mono HBE.out.size)⟩
 ·have hk':((k:Int)==0)=false:=by simpa using hk
  clear HSN
  go_wp2_with fail
  go_ret
  exact⟨rfl,HBE.out⟩
end Go.Proofs.YtdplogkmkgekdaaGreatDoor.Pj
