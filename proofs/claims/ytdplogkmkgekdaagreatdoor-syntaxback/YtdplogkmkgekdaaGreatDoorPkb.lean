/- The middle of a call of the project's parser: its state, the call's own blocks, one row that may still grow, the trees that it holds. -/
import Derived.Test.YtdplogkmkgekdaaGreatDoorGma
import Derived.Test.YtdplogkmkgekdaaGreatDoorFDeep
set_option linter.all false
set_option maxRecDepth 100000
set_option maxHeartbeats 4000000
namespace Go.Proofs.YtdplogkmkgekdaaGreatDoor.Pj
open Go.RowKit
structure gZ where
 txt:ByteArray
 fn:Nat
 bk:Int
 bn:Int
def qb:List gZ:=[⟨⟨#[115,116,114,117,99,116]⟩,61,0,0⟩,⟨⟨#[101,110,117,109]⟩,62,0,0⟩,⟨⟨#[116,114,97,105,116]⟩,63,0,0⟩,⟨⟨#[102,110]⟩,64,0,0⟩]
def qV:List gZ:=[⟨⟨#[105,110,116]⟩,144,13,0⟩,⟨⟨#[98,111,111,108]⟩,144,14,0⟩,⟨⟨#[102,110]⟩,66,0,0⟩,⟨⟨#[38]⟩,67,0,0⟩,⟨⟨#[38,38]⟩,67,0,0⟩,⟨⟨#[40]⟩,68,0,0⟩]
def fJ:List gZ:=[⟨⟨#[105,102]⟩,71,0,0⟩,⟨⟨#[109,97,116,99,104]⟩,72,0,0⟩,⟨⟨#[119,104,105,108,101]⟩,73,0,0⟩,⟨⟨#[108,111,111,112]⟩,74,0,0⟩,⟨⟨#[123]⟩,75,0,0⟩]
def oD:List gZ:=[⟨⟨#[116,114,117,101]⟩,144,21,1⟩,⟨⟨#[102,97,108,115,101]⟩,144,21,0⟩,⟨⟨#[98,114,101,97,107]⟩,144,38,0⟩,⟨⟨#[110,101,120,116]⟩,144,39,0⟩,⟨⟨#[112,97,110,105,99]⟩,144,41,0⟩,⟨⟨#[114,101,116,117,114,110]⟩,76,0,0⟩,⟨⟨#[109,97,107,101]⟩,77,0,0⟩,⟨⟨#[102,110]⟩,78,0,0⟩,⟨⟨#[115,112,97,119,110]⟩,79,0,0⟩,⟨⟨#[40]⟩,80,0,0⟩]
def tJ:List gZ:=[⟨⟨#[95]⟩,144,49,0⟩,⟨⟨#[116,114,117,101]⟩,144,52,1⟩,⟨⟨#[102,97,108,115,101]⟩,144,52,0⟩,⟨⟨#[45]⟩,82,0,0⟩,⟨⟨#[114,101,102]⟩,83,0,0⟩,⟨⟨#[109,117,116]⟩,84,0,0⟩,⟨⟨#[40]⟩,85,0,0⟩]
def gL:List ByteArray:=[⟨#[109,111,100]⟩,⟨#[117,115,101]⟩,⟨#[112,117,98]⟩,⟨#[99,111,112,121]⟩,⟨#[115,116,114,117,99,116]⟩,⟨#[101,110,117,109]⟩,⟨#[116,114,97,105,116]⟩,⟨#[105,109,112,108]⟩,⟨#[102,111,114]⟩,⟨#[102,110]⟩,⟨#[108,101,116]⟩,⟨#[109,117,116]⟩,⟨#[105,102]⟩,⟨#[101,108,115,101]⟩,⟨#[109,97,116,99,104]⟩,⟨#[119,104,105,108,101]⟩,⟨#[108,111,111,112]⟩,⟨#[98,114,101,97,107]⟩,⟨#[110,101,120,116]⟩,⟨#[114,101,116,117,114,110]⟩,⟨#[112,97,110,105,99]⟩,⟨#[109,97,107,101]⟩,⟨#[114,101,102]⟩,⟨#[111,110,99,101]⟩,⟨#[115,112,97,119,110]⟩,⟨#[116,114,117,101]⟩,⟨#[102,97,108,115,101]⟩,⟨#[105,110,116]⟩,⟨#[98,111,111,108]⟩,⟨#[58]⟩,⟨#[58,58]⟩,⟨#[45,62]⟩,⟨#[61,62]⟩,⟨#[61,61]⟩,⟨#[33,61]⟩,⟨#[60,61]⟩,⟨#[62,61]⟩,⟨#[38,38]⟩,⟨#[124,124]⟩,⟨#[40]⟩,⟨#[41]⟩,⟨#[123]⟩,⟨#[125]⟩,⟨#[91]⟩,⟨#[93]⟩,⟨#[60]⟩,⟨#[62]⟩,⟨#[44]⟩,⟨#[59]⟩,⟨#[46]⟩,⟨#[61]⟩,⟨#[43]⟩,⟨#[45]⟩,⟨#[42]⟩,⟨#[47]⟩,⟨#[37]⟩,⟨#[38]⟩,⟨#[33]⟩,⟨#[95]⟩]
def Db:List ByteArray:=[⟨#[116,114,117,101]⟩,⟨#[102,97,108,115,101]⟩,⟨#[98,114,101,97,107]⟩,⟨#[110,101,120,116]⟩,⟨#[112,97,110,105,99]⟩,⟨#[114,101,116,117,114,110]⟩,⟨#[105,102]⟩,⟨#[109,97,116,99,104]⟩,⟨#[119,104,105,108,101]⟩,⟨#[108,111,111,112]⟩,⟨#[109,97,107,101]⟩,⟨#[102,110]⟩,⟨#[115,112,97,119,110]⟩]
def Clean (t:Tk):Prop:=∀j,((t.kind j=5∧∀s∈Db,(t.text j).toList≠s.toList)∨t.kind j=3)∨∀s∈gL,(t.text j).toList≠s.toList
structure Cp where
 cap:Nat
 a1:Nat
 a2:Nat
 a3:Nat
 a4:Nat
 a5:Nat
 bd:Nat
def nP (w:World) (bd:Nat) (e:gZ) (v:Value):Prop:=if e.fn=144 then ∃b1 b2,b1<bd∧b2<bd∧v=.func (.func 144) #[] #[.pointer (some ⟨b1,0,none⟩),.pointer (some ⟨b2,0,none⟩)]∧w.heap[b1]? =some (.cells #[.int .i64 e.bk] 3 (0,0))∧w.heap[b2]? =some (.cells #[.int .i64 e.bn] 3 (0,0)) else v=.func (.func e.fn) #[] #[]
def mY (w:World) (bd a:Nat) (es:List gZ):Prop:=a<bd∧∃cs:Array Value,w.heap[a]? =some (.cells cs 94 (0,0))∧∀j e,es[j]? =some e→cs[j*2]? =some (.string e.txt)∧∃v,cs[j*2+1]? =some v∧nP w bd e v
theorem nP.of {w w':World} {bd:Nat} {e:gZ} {v:Value} (h:nP w bd e v) (hb:∀k,k<bd→w'.heap[k]? =w.heap[k]?):nP w' bd e v:=by
 unfold nP at h⊢
 split
 ·rename_i hf
  rw[if_pos hf] at h
  obtain⟨b1,b2,h1,h2,h3,h4,h5⟩:=h
  exact⟨b1,b2,h1,h2,h3,by rw[hb b1 h1];exact h4,by rw[hb b2 h2];exact h5⟩
 ·rename_i hf
  rwa [if_neg hf] at h
theorem mY.of {w w':World} {bd a:Nat} {es:List gZ} (h:mY w bd a es) (hb:∀k,k<bd→w'.heap[k]? =w.heap[k]?):mY w' bd a es:=by
 obtain⟨h1,cs,h2,h3⟩:=h
 refine⟨h1,cs,by rw[hb a h1];exact h2,fun j e he=>?_⟩
 obtain⟨x1,v,x2,x3⟩:=h3 j e he
 exact⟨x1,v,x2,x3.of hb⟩
def EY:Array Value:=#[.string ⟨#[124,124]⟩,.int .i64 2,.int .i64 31,.string ⟨#[38,38]⟩,.int .i64 3,.int .i64 30,.string ⟨#[61,61]⟩,.int .i64 4,.int .i64 29,.string ⟨#[33,61]⟩,.int .i64 4,.int .i64 29,.string ⟨#[60,61]⟩,.int .i64 4,.int .i64 29,.string ⟨#[62,61]⟩,.int .i64 4,.int .i64 29,.string ⟨#[60]⟩,.int .i64 4,.int .i64 29,.string ⟨#[62]⟩,.int .i64 4,.int .i64 29,.string ⟨#[43]⟩,.int .i64 5,.int .i64 29,.string ⟨#[45]⟩,.int .i64 5,.int .i64 29,.string ⟨#[42]⟩,.int .i64 6,.int .i64 29,.string ⟨#[47]⟩,.int .i64 6,.int .i64 29,.string ⟨#[37]⟩,.int .i64 6,.int .i64 29]
structure Glob (bd:Nat) (w:World):Prop where
 lt:3<bd
 ml:∃m:Int,w.cell? ⟨2,0,none⟩=some (.int .i64 m)
 op:∃tg fg,w.heap[3]? =some (.cells EY tg fg)
theorem Glob.of {bd:Nat} {w w':World} (h:Glob bd w) (hb:∀k,k<bd→w'.heap[k]? =w.heap[k]?):Glob bd w':=
 ⟨h.lt,h.ml.imp fun m hm=>(World.cell?_of_block (w:=w) (a:=⟨2,0,none⟩) (hb 2 (by have:=h.lt;omega))).trans hm,by rw[hb 3 h.lt];exact h.op⟩
structure Rd (w:World) (rb tb:Nat) (cap:Cp) (t:Tk) (i:Nat) (k a:Int):Prop where
 blk:w.heap[rb]? =some (.cells #[.slice (some ⟨tb,0,none⟩) t.len cap.cap,.int .i64 i,.slice (some ⟨cap.a1,0,none⟩) 4 4,.slice (some ⟨cap.a2,0,none⟩) 6 6,.slice (some ⟨cap.a3,0,none⟩) 5 5,.slice (some ⟨cap.a4,0,none⟩) 10 10,.slice (some ⟨cap.a5,0,none⟩) 7 7] 75 (0,0))
 row:Row w tb t
 t1:mY w cap.bd cap.a1 qb
 t2:mY w cap.bd cap.a2 qV
 t3:mY w cap.bd cap.a3 fJ
 t4:mY w cap.bd cap.a4 oD
 t5:mY w cap.bd cap.a5 tJ
 bl:cap.bd≤rb
 tl:tb<cap.bd
 good:t.Good
 lt:i<t.len
 cl:Clean t
 z:k=0
 za:a=0
 g0:Glob cap.bd w
section
variable {w w':World} {rb tb i:Nat} {cap:Cp} {t:Tk} {k a:Int}
theorem Rd.l (h:Rd w rb tb cap t i k a):rb<w.heap.size:=(Array.getElem?_eq_some_iff.1 h.blk).1
theorem Rd.r0 (h:Rd w rb tb cap t i k a):w.cell? ⟨rb,0,none⟩=some (.slice (some ⟨tb,0,none⟩) t.len cap.cap):=by rw[cell_of_row w rb 0 _ 75 (0,0) h.blk];rfl
theorem Rd.r1 (h:Rd w rb tb cap t i k a):w.cell? ⟨rb,1,none⟩=some (.int .i64 i):=by rw[cell_of_row w rb 1 _ 75 (0,0) h.blk];rfl
theorem Rd.r2 (h:Rd w rb tb cap t i k a):w.cell? ⟨rb,2,none⟩=some (.slice (some ⟨cap.a1,0,none⟩) 4 4):=by rw[cell_of_row w rb 2 _ 75 (0,0) h.blk];rfl
theorem Rd.r3 (h:Rd w rb tb cap t i k a):w.cell? ⟨rb,3,none⟩=some (.slice (some ⟨cap.a2,0,none⟩) 6 6):=by rw[cell_of_row w rb 3 _ 75 (0,0) h.blk];rfl
theorem Rd.r4 (h:Rd w rb tb cap t i k a):w.cell? ⟨rb,4,none⟩=some (.slice (some ⟨cap.a3,0,none⟩) 5 5):=by rw[cell_of_row w rb 4 _ 75 (0,0) h.blk];rfl
theorem Rd.r5 (h:Rd w rb tb cap t i k a):w.cell? ⟨rb,5,none⟩=some (.slice (some ⟨cap.a4,0,none⟩) 10 10):=by rw[cell_of_row w rb 5 _ 75 (0,0) h.blk];rfl
theorem Rd.r6 (h:Rd w rb tb cap t i k a):w.cell? ⟨rb,6,none⟩=some (.slice (some ⟨cap.a5,0,none⟩) 7 7):=by rw[cell_of_row w rb 6 _ 75 (0,0) h.blk];rfl
theorem Rd.fz (h:Rd w rb tb cap t i k a) (j:Nat):w.frozen? ⟨rb,j,none⟩=false:=frozen_of_row w rb j _ 75 h.blk
theorem Rd.same (h:Rd w rb tb cap t i k a) (h1:w'.heap[rb]? =w.heap[rb]?) (h2:∀j,j<cap.bd→w'.heap[j]? =w.heap[j]?):Rd w' rb tb cap t i k a:=
 ⟨by rw[h1];exact h.blk,h.row.of_cells (h2 tb h.tl),h.t1.of h2,h.t2.of h2,h.t3.of h2,h.t4.of h2,h.t5.of h2,h.bl,h.tl,h.good,h.lt,h.cl,h.z,h.za,h.g0.of h2⟩
theorem Rd.below (h:Rd w rb tb cap t i k a) (hb:Below w.heap.size w w'):Rd w' rb tb cap t i k a:=
 h.same (hb.block rb h.l) (fun j hj=>hb.block j (by have:=h.bl;have:=h.l;omega))
theorem Rd.alloc (h:Rd w rb tb cap t i k a) (o:Obj):Rd (w.alloc o) rb tb cap t i k a:=h.below ((Below.refl _ _).alloc (Nat.le_refl _) o)
theorem Rd.setCell (h:Rd w rb tb cap t i k a) {p:Addr} (h1:rb<p.block) (u:Value):Rd (w.setCell p u) rb tb cap t i k a:=
 h.same (Below.heap_setCell _ _ _ _ (by omega)) (fun j hj=>Below.heap_setCell _ _ _ _ (by have:=h.bl;omega))
theorem Rd.grown (h:Rd w rb tb cap t i k a) {row:Option Nat} (hg:w.grownBy w' row) (h1:∀b,row=some b→rb<b):Rd w' rb tb cap t i k a:=
 h.same (hg.block rb h.l (fun e=>by have:=h1 rb e.symm;omega)) (fun j hj=>hg.block j (by have:=h.bl;have:=h.l;omega) (fun e=>by have:=h1 j e.symm;have:=h.bl;omega))
theorem Rd.aeP (h:Rd w rb tb cap t i k a) {i':Nat} (hi:i'<t.len):Rd (w.setCell ⟨rb,1,none⟩ (.int .i64 i')) rb tb cap t i' k a:=by
 have hs:∀j,j<cap.bd→(w.setCell ⟨rb,1,none⟩ (.int .i64 i')).heap[j]? =w.heap[j]? :=fun j hj=>Below.heap_setCell _ _ _ _ (by have:=h.bl;show j≠rb;omega)
 exact⟨by rw[heap_setCell_same _ rb 1 _ 75 _ h.blk];rfl,h.row.of_cells (hs tb h.tl),h.t1.of hs,h.t2.of hs,h.t3.of hs,h.t4.of hs,h.t5.of hs,h.bl,h.tl,h.good,hi,h.cl,h.z,h.za,h.g0.of hs⟩
end
structure Nx (w:World) (rb tb:Nat) (cap:Cp) (t:Tk) (i:Nat) (k:Int) (must:Prop) (w':World) (i':Nat) (k' a':Int):Prop where
 rd:Rd w' rb tb cap t i' k' a'
 kp:Kp w.heap.size rb w w'
 le:i≤i'
 ok:k'=0→k=0
 go:must→k'=0→i<i'
theorem Nx.below {w w':World} {rb tb i:Nat} {cap:Cp} {t:Tk} {k a:Int} (h:Rd w rb tb cap t i k a) (hb:Below w.heap.size w w'):Nx w rb tb cap t i k False w' i k a:=
 ⟨h.below hb,Kp.of_below hb,Nat.le_refl _,fun e=>e,fun x=>x.elim⟩
structure St (w:World) (rb tb:Nat) (cap:Cp) (t:Tk) (W:World) (j:Nat) (kj aj:Int):Prop where
 rd:Rd W rb tb cap t j kj aj
 kp:Kp w.heap.size rb w W
 lb:rb<w.heap.size
theorem Rd.st {w:World} {rb tb i:Nat} {cap:Cp} {t:Tk} {k a:Int} (h:Rd w rb tb cap t i k a):St w rb tb cap t w i k a:=⟨h,Kp.refl _ _ _,h.l⟩
section
variable {w W:World} {rb tb j:Nat} {cap:Cp} {t:Tk} {kj aj:Int}
theorem St.size (h:St w rb tb cap t W j kj aj):w.heap.size≤W.heap.size:=h.kp.size
theorem St.rk (h:St w rb tb cap t W j kj aj) {w':World} {i':Nat} {k' a':Int} (h1:Rd w' rb tb cap t i' k' a') (h2:Kp W.heap.size rb W w'):St w rb tb cap t w' i' k' a':=⟨h1,h.kp.trans (h2.mono h.size),h.lb⟩
theorem St.put (h:St w rb tb cap t W j kj aj) {b:Nat} (hb:w.heap.size≤b) (o:Nat) (u:Value):St w rb tb cap t (W.setCell ⟨b,o,none⟩ u) j kj aj:=⟨h.rd.setCell (p:=⟨b,o,none⟩) (by have:=h.lb;show rb<b;omega) u,h.kp.setCell (p:=⟨b,o,none⟩) (.inl hb) u,h.lb⟩
theorem St.grown (h:St w rb tb cap t W j kj aj) {w':World} {row:Option Nat} (hg:W.grownBy w' row) (hr:∀b,row=some b→w.heap.size≤b):St w rb tb cap t w' j kj aj:=
 ⟨h.rd.grown hg (fun b e=>by have:=hr _ e;have:=h.lb;omega),h.kp.grown hg h.size hr,h.lb⟩
end
theorem Rd.eP {w:World} {rb tb i:Nat} {cap:Cp} {t:Tk} {k a:Int} (h:Rd w rb tb cap t i k a):(0:Int)≤(t.pos i:Int)∧(t.pos i:Int)≤7000:=by
 have:=h.good.qg i
 omega
end Go.Proofs.YtdplogkmkgekdaaGreatDoor.Pj
namespace Go.Proofs.YtdplogkmkgekdaaGreatDoor
open Go.RowKit
def gX:Nat→List Nr→Prop
 |0,_=>False
 |h+1,y=>∃k p n m s,∃F:List (List Nr),y=nd k p n m s F∧∀z∈F,gX h z
theorem isNode.D5 {S:Nat→Prop} {g:Prop} {w:World}:(h:Nat)→(cs:List Value)→isNode S g h w cs→gX h (flat h w cs)
 |0,_,hn=>absurd hn (fun x=>x)
 |h+1,_,⟨kind,pos,n,m,name,kv,vs,h1,h2,h3,h3',h4,h5,h6,h7⟩=>by
  subst h1
  rw[qR h4 h6]
  refine⟨kind,pos,n,m,name,vs.map (flat h w),rfl,fun z hz=>?_⟩
  obtain⟨x,hx,rfl⟩:=List.mem_map.1 hz
  exact isNode.D5 h x (h6 x hx)
theorem zu {h h':Nat} (ih:∀y y' r r',gX h y→gX h' y'→y++r=y'++r'→y=y'∧r=r'):∀(F F':List (List Nr)) (r r':List Nr),(∀z∈F,gX h z)→(∀z∈F',gX h' z)→F.length=F'.length→F.flatten++r=F'.flatten++r'→F=F'∧r=r'
 |[],[],r,r',_,_,_,e=>⟨rfl,by simpa using e⟩
 |[],_::_,_,_,_,_,hl,_=>absurd hl (by simp)
 |_::_,[],_,_,_,_,hl,_=>absurd hl (by simp)
 |x::F,y::F',r,r',hx,hy,hl,e=>by
  simp only[List.flatten_cons,List.append_assoc] at e
  obtain⟨e1,e2⟩:=ih x y _ _ (hx x (List.mem_cons_self ..)) (hy y (List.mem_cons_self ..)) e
  obtain⟨e3,e4⟩:=zu ih F F' r r' (fun z hz=>hx z (List.mem_cons_of_mem _ hz)) (fun z hz=>hy z (List.mem_cons_of_mem _ hz)) (by simpa using hl) e2
  exact⟨by rw[e1,e3],e4⟩
theorem F6:(h h':Nat)→∀y y' r r',gX h y→gX h' y'→y++r=y'++r'→y=y'∧r=r'
 |0,_,_,_,_,_,hy,_,_=>absurd hy (fun x=>x)
 |_+1,0,_,_,_,_,_,hy,_=>absurd hy (fun x=>x)
 |h+1,h'+1,_,_,r,r',⟨k,p,n,m,s,F,e1,hF⟩,⟨k2,p2,n2,m2,s2,F2,e2,hF2⟩,e=>by
  subst e1 e2
  unfold nd at e⊢
  simp only[List.cons_append] at e
  have e3:=List.cons.inj e
  obtain⟨e4,e5⟩:=e3
  have hl:F.length=F2.length:=by injection e4
  obtain⟨e6,e7⟩:=zu (F6 h h') F F2 r r' hF hF2 hl e5
  exact⟨by rw[e4,e6],e7⟩
theorem D6 {h h':Nat} {k p n m k2 p2 n2 m2:Int} {s s2:ByteArray} {F F2:List (List Nr)} (hF:∀z∈F,gX h z) (hF2:∀z∈F2,gX h' z) (e:nd k p n m s F=nd k2 p2 n2 m2 s2 F2):(k=k2∧p=p2∧n=n2∧m=m2∧s=s2)∧F=F2:=by
 unfold nd at e
 have e3:=List.cons.inj e
 obtain⟨e4,e5⟩:=e3
 injection e4 with a1 a2 a3 a4 a5 a6
 exact⟨⟨a1,a2,a3,a4,a5⟩,(zu (F6 h h') F F2 [] [] hF hF2 a6 (by simpa using e5)).1⟩
theorem wD {S:Nat→Prop} {g:Prop} {w wr:World} {h:Nat} {cs:List Value} {x:List Nr} (hb:Below w.heap.size w wr) (hn:isNode S g h w cs) (hx:Fl w [cs] [x]):isNode (fun b=>S b∧b<w.heap.size) g h wr cs∧Fl wr [cs] [x]:=
 ⟨isNode.frame (fun b hb' _=>hb.block b hb'.2) _ _ (isNode.low _ _ hn),hx.CU (fun f=>by simp only[List.map_cons,List.map_nil];rw[lY (S:=fun b=>S b∧b<w.heap.size) (fun b hb' _=>hb.block b hb'.2) h _ (isNode.low _ _ hn) f])⟩
end Go.Proofs.YtdplogkmkgekdaaGreatDoor
namespace Go.Proofs.YtdplogkmkgekdaaGreatDoor.Pj
open Go.RowKit
structure Mid (w:World) (rb tb:Nat) (cap:Cp) (t:Tk) (i:Nat) (k:Int) (g:Prop) (W:World) (j:Nat) (kj aj:Int) (L:List (Nat × Array Value)) (T:List (List Value)) (kv:Value) (vs:List (List Value)):Prop where
 st:St w rb tb cap t W j kj aj
 le:i≤j
 ok:kj=0→k=0
 go:g→kj=0→i<j
 blk:∀(n:Nat) (p:Nat × Array Value),L[n]? =some p→w.heap.size≤oH p∧bW W (oH p) p.2
 nd:(L.map oH).Nodup
 row:W.ownsRow w.heap.size 28 11 kv vs.length vs.flatten
 qo:∀b,kv.ownBlock=some b→b∉L.map oH
 all:∃h,∀x,x∈vs∨x∈T→isNode (Out w (L.map oH) kv) False h W x
section
variable {w W w':World} {rb tb i j:Nat} {cap:Cp} {t:Tk} {k kj aj:Int} {g:Prop} {L:List (Nat × Array Value)} {T:List (List Value)} {kv:Value} {vs:List (List Value)}
theorem Mid.start {a:Int} (h:Rd w rb tb cap t i k a):Mid w rb tb cap t i k False w i k a [] [] (.slice none 0 0) []:=
 ⟨h.st,Nat.le_refl _,fun e=>e,fun e=>absurd e (fun x=>x),fun n p e=>by simp at e,by simp,World.ownsRow_nil _ _ _ _,fun b e=>by simp,0,fun x hx=>by simp at hx⟩
theorem Mid.lt (q:Mid w rb tb cap t i k g W j kj aj L T kv vs):∀b∈L.map oH,b<W.heap.size:=by
 intro b hb
 obtain⟨p,hp,rfl⟩:=List.mem_map.1 hb
 obtain⟨n,hn⟩:=List.getElem?_of_mem hp
 exact(q.blk n p hn).2.lt
theorem Mid.Pb (q:Mid w rb tb cap t i k g W j kj aj L T kv vs):∀b,kv.ownBlock=some b→b<W.heap.size:=fun b hb=>(q.row.lt b hb).2
theorem Mid.rk (q:Mid w rb tb cap t i k g W j kj aj L T kv vs) {i':Nat} {k' a':Int} (h1:Rd w' rb tb cap t i' k' a') (h2:Kp W.heap.size rb W w') (hle:j≤i') (hok:k'=0→kj=0):Mid w rb tb cap t i k g w' i' k' a' L T kv vs:=by
 have hlb:=q.st.lb
 refine⟨q.st.rk h1 h2,Nat.le_trans q.le hle,fun e=>q.ok (hok e),fun x e=>Nat.lt_of_lt_of_le (q.go x (hok e)) hle,fun n p e=>⟨(q.blk n p e).1,(q.blk n p e).2.kp h2 (by have:=(q.blk n p e).1;omega)⟩,q.nd,jY q.row (fun b hb hl=>h2.block b hl (by have:=(q.row.lt b hb).1;omega)),q.qo,?_⟩
 obtain⟨h,ha⟩:=q.all
 exact⟨h,fun x hx=>isNode.weaken (fun b hb=>hb) (fun x=>x) _ _ (isNode.frame (Same.kp h2 (fun e=>by have:=e.1;omega)) _ _ (ha x hx))⟩
theorem Mid.nx (q:Mid w rb tb cap t i k g W j kj aj L T kv vs) {must:Prop} {i':Nat} {k' a':Int} (hx:Nx W rb tb cap t j kj must w' i' k' a'):Mid w rb tb cap t i k g w' i' k' a' L T kv vs:=q.rk hx.rd hx.kp hx.le hx.ok
theorem Mid.up (q:Mid w rb tb cap t i k g W j kj aj L T kv vs) {g':Prop} (hg:g'→kj=0→i<j):Mid w rb tb cap t i k g' W j kj aj L T kv vs:=⟨q.st,q.le,q.ok,hg,q.blk,q.nd,q.row,q.qo,q.all⟩
theorem Mid.yh (q:Mid w rb tb cap t i k g W j kj aj L T kv vs) {i':Nat} {k' a':Int} (hx:Nx W rb tb cap t j kj True w' i' k' a'):Mid w rb tb cap t i k True w' i' k' a' L T kv vs:=(q.nx hx).up (fun _ e=>Nat.lt_of_le_of_lt q.le (hx.go trivial e))
theorem Mid.below (q:Mid w rb tb cap t i k g W j kj aj L T kv vs) (hb:Below W.heap.size W w'):Mid w rb tb cap t i k g w' j kj aj L T kv vs:=q.nx (Nx.below q.st.rd hb)
theorem Mid.alloc (q:Mid w rb tb cap t i k g W j kj aj L T kv vs) (o:Obj):Mid w rb tb cap t i k g (W.alloc o) j kj aj L T kv vs:=q.below ((Below.refl _ _).alloc (Nat.le_refl _) o)
theorem Mid.new (q:Mid w rb tb cap t i k g W j kj aj L T kv vs) (c:Array Value):Mid w rb tb cap t i k g (W.alloc (.cells c 28)) j kj aj ((W.heap.size,c)::L) T kv vs:=by
 have q1:=q.alloc (.cells c 28)
 refine⟨q1.st,q1.le,q1.ok,q1.go,?_,?_,q1.row,?_,?_⟩
 ·intro n p e
  cases n with
  |zero=>
   obtain rfl:(W.heap.size,c)=p:=by simpa using e
   exact⟨q.st.size,bW.new W c⟩
  |succ n=>exact q1.blk n p (by simpa using e)
 ·rw[List.map_cons,List.nodup_cons]
  exact⟨fun e=>absurd (q.lt _ e) (Nat.lt_irrefl _),q.nd⟩
 ·intro b hb e
  rw[List.map_cons,List.mem_cons] at e
  rcases e with e|e
  ·have:=q.Pb b hb
   simp[oH] at e
   omega
  ·exact q.qo b hb e
 ·obtain⟨h,ha⟩:=q.all
  refine⟨h,fun x hx=>isNode.frame (Same.alloc _ _ _) _ _ (isNode.weaken ?_ (fun x=>x) _ _ (isNode.low _ _ (ha x hx)))⟩
  rintro b ⟨⟨h1,h2,h3⟩,h4⟩
  refine⟨h1,?_,h3⟩
  rw[List.map_cons,List.mem_cons]
  rintro(e|e)
  ·simp[oH] at e;omega
  ·exact h2 e
theorem La {n b:Nat} {c c':Array Value} (hn:L[n]? =some (b,c)):(L.set n (b,c')).map oH=L.map oH:=by
 apply List.ext_getElem?
 intro m
 rw[List.getElem?_map,List.getElem?_map,List.getElem?_set]
 by_cases e:n=m
 ·subst e
  rw[if_pos rfl,hn]
  have:n<L.length:=(List.getElem?_eq_some_iff.1 hn).1
  simp[this,oH]
 ·rw[if_neg e]
theorem Mid.put (q:Mid w rb tb cap t i k g W j kj aj L T kv vs) (n:Nat) {b:Nat} {c:Array Value} (hn:L[n]? =some (b,c)) (o:Nat) (u:Value):Mid w rb tb cap t i k g (W.setCell ⟨b,o,none⟩ u) j kj aj (L.set n (b,c.setIfInBounds o u)) T kv vs:=by
 have hb:=(q.blk n _ hn).1
 have hB:=(q.blk n _ hn).2
 have hmem:b∈L.map oH:=List.mem_map.2 ⟨_,List.mem_of_getElem? hn,rfl⟩
 have hmap:(L.set n (b,c.setIfInBounds o u)).map oH=L.map oH:=La hn
 refine⟨q.st.put hb o u,q.le,q.ok,q.go,?_,by rw[hmap];exact q.nd,?_,by rw[hmap];exact q.qo,?_⟩
 ·intro m p e
  rw[List.getElem?_set] at e
  by_cases hm:n=m
  ·subst hm
   rw[if_pos rfl] at e
   have hl:n<L.length:=(List.getElem?_eq_some_iff.1 hn).1
   rw[if_pos hl] at e
   obtain rfl:(b,c.setIfInBounds o u)=p:=by simpa using e
   exact⟨hb,hB.set o u⟩
  ·rw[if_neg hm] at e
   refine⟨(q.blk m p e).1,(q.blk m p e).2.other (p:=⟨b,o,none⟩) (fun e2=>hm ?_) u⟩
   have hl:n<(L.map oH).length:=by rw[List.length_map];exact(List.getElem?_eq_some_iff.1 hn).1
   refine(List.getElem?_inj hl q.nd).1 ?_
   rw[List.getElem?_map,List.getElem?_map,hn,e]
   show some b=some (oH p)
   rw[e2]
 ·exact jY q.row (fun x hx _=>Below.heap_setCell _ _ _ _ (fun e=>q.qo x hx (by rw[e];exact hmem)))
 ·obtain⟨h,ha⟩:=q.all
  rw[hmap]
  exact⟨h,fun x hx=>isNode.frame (Same.setCell _ ⟨b,o,none⟩ _ (fun e=>e.2.1 hmem)) _ _ (ha x hx)⟩
theorem Mid.hold (q:Mid w rb tb cap t i k g W j kj aj L T kv vs) {B:Nat} (h0:w.heap.size≤B) (h1:∀b∈L.map oH,b<B) (h2:∀b,kv.ownBlock=some b→b<B) {c:List Value} (hn:kJ B False W c):Mid w rb tb cap t i k g W j kj aj L (c::T) kv vs:=by
 obtain⟨h,ha⟩:=q.all
 obtain⟨h',hc⟩:=hn
 refine⟨q.st,q.le,q.ok,q.go,q.blk,q.nd,q.row,q.qo,max h h',fun x hx=>?_⟩
 have hx':(x∈vs∨x∈T)∨x=c:=by
  rcases hx with hx|hx
  ·exact .inl (.inl hx)
  ·rcases List.mem_cons.1 hx with hx|hx
   ·exact .inr hx
   ·exact .inl (.inr hx)
 rcases hx' with hx|rfl
 ·exact isNode.le (ha x hx) _ (Nat.le_max_left _ _)
 ·exact isNode.le (isNode.weaken (fun b hb=>⟨Nat.le_trans h0 hb,fun e=>absurd (h1 b e) (Nat.not_lt.2 hb),fun e=>absurd (h2 b e) (Nat.not_lt.2 hb)⟩) (fun x=>x) _ _ hc) _ (Nat.le_max_right _ _)
theorem Mid.node (q:Mid w rb tb cap t i k g W j kj aj L T kv vs) {must:Prop} {i':Nat} {k' a':Int} (hx:Nx W rb tb cap t j kj must w' i' k' a') {c:List Value} (hn:kJ W.heap.size False w' c):Mid w rb tb cap t i k g w' i' k' a' L (c::T) kv vs:=
 (q.nx hx).hold q.st.size q.lt q.Pb hn
theorem Mid.D7 (q:Mid w rb tb cap t i k g W j kj aj L T kv vs) {i':Nat} {k' a':Int} (hx:Nx W rb tb cap t j kj True w' i' k' a') {c:List Value} (hn:kJ W.heap.size False w' c):Mid w rb tb cap t i k True w' i' k' a' L (c::T) kv vs:=
 (q.yh hx).hold q.st.size q.lt q.Pb hn
theorem Mid.holds (q:Mid w rb tb cap t i k g W j kj aj L T kv vs) {must:Prop} {i':Nat} {k' a':Int} (hx:Nx W rb tb cap t j kj must w' i' k' a') {kv':Value} {vs':List (List Value)} (hK:Kids W.heap.size False w' kv' vs'):Mid w rb tb cap t i k g w' i' k' a' L (vs'++T) kv vs:=by
 have q1:=q.nx hx
 obtain⟨h,ha⟩:=q1.all
 obtain⟨h',hc⟩:=hK.all
 refine⟨q1.st,q1.le,q1.ok,q1.go,q1.blk,q1.nd,q1.row,q1.qo,max h h',fun x hx=>?_⟩
 have hx':(x∈vs∨x∈T)∨x∈vs':=by
  rcases hx with hx|hx
  ·exact .inl (.inl hx)
  ·rcases List.mem_append.1 hx with hx|hx
   ·exact .inr hx
   ·exact .inl (.inr hx)
 rcases hx' with hx|hx
 ·exact isNode.le (ha x hx) _ (Nat.le_max_left _ _)
 ·exact isNode.le (isNode.weaken (fun b hb=>⟨Nat.le_trans q.st.size hb.1,fun e=>absurd (q.lt b e) (Nat.not_lt.2 hb.1),fun e=>absurd (q.Pb b e) (Nat.not_lt.2 hb.1)⟩) (fun x=>x) _ _ (hc x hx)) _ (Nat.le_max_right _ _)
theorem Mid.list (q:Mid w rb tb cap t i k g W j kj aj L T (.slice none 0 0) []) {must:Prop} {i':Nat} {k' a':Int} (hx:Nx W rb tb cap t j kj must w' i' k' a') {kv':Value} {vs':List (List Value)} (hK:Kids W.heap.size False w' kv' vs'):Mid w rb tb cap t i k g w' i' k' a' L T kv' vs':=by
 have q1:=q.nx hx
 obtain⟨h,ha⟩:=q.all
 obtain⟨h',hc⟩:=hK.all
 refine⟨q1.st,q1.le,q1.ok,q1.go,q1.blk,q1.nd,Ah hK.row q.st.size,fun b hb e=>absurd (q.lt b e) (Nat.not_lt.2 (hK.row.lt b hb).1),max h h',fun x hx'=>?_⟩
 rcases hx' with hx'|hx'
 ·exact isNode.le (isNode.weaken (fun b hb=>⟨Nat.le_trans q.st.size hb.1,fun e=>absurd (q.lt b e) (Nat.not_lt.2 hb.1),hb.2⟩) (fun x=>x) _ _ (hc x hx')) _ (Nat.le_max_right _ _)
 ·have a1:=isNode.frame (Same.kp hx.kp (fun e=>by have:=e.1.1;have:=q.st.lb;omega)) _ _ (isNode.low _ _ (ha x (.inr hx')))
  refine isNode.le (isNode.weaken ?_ (fun x=>x) _ _ a1) _ (Nat.le_max_left _ _)
  rintro b ⟨⟨h1,h2,_⟩,h4⟩
  exact⟨h1,h2,fun e=>absurd (hK.row.lt b e).1 (Nat.not_le.2 h4)⟩
theorem Mid.sub (q:Mid w rb tb cap t i k g W j kj aj L T kv vs) {T':List (List Value)} (hT:∀x∈T',x∈T):Mid w rb tb cap t i k g W j kj aj L T' kv vs:=by
 obtain⟨h,ha⟩:=q.all
 exact⟨q.st,q.le,q.ok,q.go,q.blk,q.nd,q.row,q.qo,h,fun x hx=>ha x (hx.imp (fun x=>x) (hT x))⟩
theorem Mid.app {us:List (List Value)} (q:Mid w rb tb cap t i k g W j kj aj L (us++T) kv vs) {v':Value} (hown:w'.ownsRow w.heap.size 28 11 v' (vs.length+us.length) (vs.flatten++us.flatten)) (hg:W.grownBy w' kv.ownBlock) (hv:v'.ownBlock=kv.ownBlock∨v'.ownBlock=some W.heap.size):Mid w rb tb cap t i k g w' j kj aj L T v' (vs++us):=by
 obtain⟨h,ha⟩:=q.all
 refine⟨q.st.grown hg (fun b hb=>(q.row.lt b hb).1),q.le,q.ok,q.go,fun n p e=>⟨(q.blk n p e).1,(q.blk n p e).2.grown hg (fun e2=>q.qo _ e2.symm (List.mem_map.2 ⟨p,List.mem_of_getElem? e,rfl⟩))⟩,q.nd,by simpa using hown,?_,h,fun x hx=>?_⟩
 ·intro b hb e
  rcases hv with hv|hv
  ·exact q.qo b (by rw[←hv];exact hb) e
  ·rw[hv] at hb
   have:=q.lt b e
   simp at hb
   omega
 ·have hx':x∈vs∨x∈us++T:=by
   rcases hx with hx|hx
   ·rcases List.mem_append.1 hx with hx|hx
    ·exact .inl hx
    ·exact .inr (List.mem_append.2 (.inl hx))
   ·exact .inr (List.mem_append.2 (.inr hx))
  refine isNode.weaken ?_ (fun x=>x) _ _ (isNode.frame (Same.grown hg (fun b e hb=>hb.1.2.2 e)) _ _ (isNode.low _ _ (ha x hx')))
  rintro b ⟨⟨h1,h2,h3⟩,h4⟩
  refine⟨h1,h2,?_⟩
  rcases hv with hv|hv
  ·rw[hv];exact h3
  ·rw[hv];intro e;simp at e;omega
theorem Mid.made {us:List (List Value)} (q:Mid w rb tb cap t i k g W j kj aj L (us++T) (.slice none 0 0) []) (cs:Array Value) (hcs:cs.toList=us.flatten) (hl:us.length≤20000) (h11:∀x∈us,x.length=11) {ad n:Nat} (had:ad=W.heap.size) (hn:n=us.length):
 Mid w rb tb cap t i k g (W.alloc (.cells cs 28)) j kj aj L T (.slice (some ⟨ad,0,none⟩) n n) us:=by
 subst had hn
 have q1:=q.alloc (.cells cs 28)
 have hsz:us.flatten.length=us.length*11:=by
  clear hcs hl q q1
  induction us with
  |nil=>rfl
  |cons x r ih=>simp only[List.flatten_cons,List.length_append,List.length_cons];rw[ih (fun y hy=>h11 y (List.mem_cons_of_mem _ hy)),h11 x (List.mem_cons_self ..)];omega
 have hrow:=World.ownsRow_lit (base:=w.heap.size) (e:=28) (size:=11) W cs us.length q.st.size (by unfold maxLen;omega) (by rw[←Array.length_toList,hcs,hsz])
 rw[hcs] at hrow
 obtain⟨h,ha⟩:=q.all
 refine⟨q1.st,q1.le,q1.ok,q1.go,q1.blk,q1.nd,hrow,?_,h,fun x hx=>isNode.frame (Same.alloc _ _ _) _ _ (isNode.weaken ?_ (fun x=>x) _ _ (isNode.low _ _ (ha x (.inr (List.mem_append.2 hx)))))⟩
 ·intro b hb e
  have:=q.lt b e
  simp[Value.ownBlock] at hb
  omega
 ·rintro b ⟨⟨h1,h2,_⟩,h4⟩
  refine⟨h1,h2,fun e=>?_⟩
  simp[Value.ownBlock] at e
  omega
theorem Mid.fold (q:Mid w rb tb cap t i k g W j kj aj L T kv vs) (hl:vs.length≤20000) {kind pos n m:Int} {name:ByteArray} (hn:name.size≤20000) (hp:0≤pos∧pos≤7000) (hG:False→Gr kind n m name (vs.map nM)):Mid w rb tb cap t i k g W j kj aj L ((ah kind pos n m name kv).toList::T) (.slice none 0 0) []:=by
 obtain⟨h,ha⟩:=q.all
 have wk:∀x,x∈vs∨x∈T→isNode (Out w (L.map oH) (.slice none 0 0)) False h W x:=fun x hx=>isNode.weaken (fun b hb=>⟨hb.1,hb.2.1,by simp[Value.ownBlock]⟩) (fun x=>x) _ _ (ha x hx)
 refine⟨q.st,q.le,q.ok,q.go,q.blk,q.nd,World.ownsRow_nil _ _ _ _,fun b e=>by simp[Value.ownBlock] at e,h+1,fun x hx=>?_⟩
 have hx':x=(ah kind pos n m name kv).toList∨x∈T:=by
  rcases hx with hx|hx
  ·simp at hx
  ·exact List.mem_cons.1 hx
 rcases hx' with rfl|hx
 ·exact⟨kind,pos,n,m,name,kv,vs,rfl,hn,hp,hl,Ah q.row (Nat.zero_le _),fun b hb=>⟨(q.row.lt b hb).1,q.qo b hb,by simp[Value.ownBlock]⟩,fun x hx=>wk x (.inl hx),hG⟩
 ·exact isNode.up _ _ (wk x (.inr hx))
theorem Mid.at (q:Mid w rb tb cap t i k g W j kj aj L T kv vs) (n:Nat) {b:Nat} {c:Array Value} (hn:L[n]? =some (b,c)):(∀o,W.cell? ⟨b,o,none⟩=c[o]?)∧(∀o,W.frozen? ⟨b,o,none⟩=false)∧b<W.heap.size∧b≠rb:=by
 have h1:=q.blk n _ hn
 have h2:=q.st.lb
 exact⟨h1.2.cell,h1.2.fz,h1.2.lt,by have:=h1.1;simp only[oH] at this;omega⟩
theorem Mid.ne (q:Mid w rb tb cap t i k g W j kj aj L T kv vs) (n m:Nat) {b b':Nat} {c c':Array Value} (hn:L[n]? =some (b,c)) (hm:L[m]? =some (b',c')) (h:n≠m):b≠b'∧b'≠b:=by
 have:b≠b':=by
  intro e
  have hl:n<(L.map oH).length:=by rw[List.length_map];exact(List.getElem?_eq_some_iff.1 hn).1
  refine h ((List.getElem?_inj hl q.nd).1 ?_)
  rw[List.getElem?_map,List.getElem?_map,hn,hm]
  show some b=some b'
  rw[e]
 exact⟨this,fun e=>this e.symm⟩
theorem Mid.shape (q:Mid w rb tb cap t i k g W j kj aj L T kv vs):∃ao cp,kv=.slice ao vs.length cp:=by
 rcases q.row.2 with⟨h1,h2⟩|⟨b,cap,cur,h1,_⟩
 ·exact⟨none,0,by rw[h1,h2]⟩
 ·exact⟨_,_,h1⟩
end
section
variable {w W w':World} {rb tb i j:Nat} {cap:Cp} {t:Tk} {k kj aj:Int} {g:Prop} {L:List (Nat × Array Value)} {T:List (List Value)} {kv:Value} {vs:List (List Value)}
theorem Mid.vY {us:List (List Value)} (q:Mid w rb tb cap t i k g W j kj aj L (us++T) kv vs) (hv:vs.length≤19000) (hu:us.length≤6010) (ty:TypeId) {xv:Value} (hx:(xv=.slice none 0 0∧us=[])∨∃ad c,xv=.slice (some ad) us.length c∧∀j u,us.flatten[j]? =some u→W.cell? (ad.add j)=some u):
 ∃v' w',(Builtin.append_ #[22,22] ty #[kv,xv]).run Tryz.prog W=.ok v' w'∧∃ao cp,v'=.slice ao (vs.length+us.length) cp∧Mid w rb tb cap t i k g w' j kj aj L T (.slice ao (vs.length+us.length) cp) (vs++us):=by
 obtain⟨i0,hi0,hz0,hz1,hz2⟩:=info_parts OB
 rcases hx with⟨rfl,rfl⟩|⟨ad,c,rfl,hc⟩
 ·refine⟨kv,W,run_append_owned_none (P:=Tryz.prog) (w:=W) w.heap.size 22 ty 28 i0 11 Tryz.underlying22 hi0 kv vs.length vs.flatten q.row,?_⟩
  obtain⟨ao,cp,e⟩:=q.shape
  refine⟨ao,cp,by simpa using e,?_⟩
  have q2:Mid w rb tb cap t i k g W j kj aj L T kv (vs++[]):=by simpa using q
  rw[e] at q2
  simpa using q2
 ·obtain⟨h,ha⟩:=q.all
  obtain⟨f1,f2⟩:=FT (us:=us) (fun x hx=>isNode.ones _ _ (ha x (.inr (List.mem_append.2 (.inl hx)))))
  obtain⟨v',w',hr,h2,h3,_,h5⟩:=run_append_own_at (P:=Tryz.prog) W w.heap.size 22 ty 28 i0 _ 11 160 Tryz.underlying22 hi0 hz0 hz1 hz2 rfl (by decide) kv vs.length vs.flatten q.row ad us.length c us.flatten f1 hc f2 (by unfold maxLen;omega) (by omega) q.st.size
  have q1:=q.app h2 h3 h5
  obtain⟨ao,cp,e⟩:=q1.shape
  rw[List.length_append] at e
  subst e
  exact⟨_,w',hr,ao,cp,rfl,q1⟩
theorem Mid.newAt (q:Mid w rb tb cap t i k g W j kj aj L T kv vs) {ad:Nat} (had:ad=W.heap.size) (c:Array Value):Mid w rb tb cap t i k g (W.alloc (.cells c 28)) j kj aj ((ad,c)::L) T kv vs:=had▸q.new c
theorem Mid.put' {n b:Nat} {c:Array Value} (q:Mid w rb tb cap t i k g W j kj aj (L.set n (b,c)) T kv vs) (hl:n<L.length) (o:Nat) (u:Value):Mid w rb tb cap t i k g (W.setCell ⟨b,o,none⟩ u) j kj aj (L.set n (b,c.setIfInBounds o u)) T kv vs:=by
 have:=q.put n (b:=b) (c:=c) (by rw[List.getElem?_set,if_pos rfl,if_pos hl]) o u
 rwa [List.set_set] at this
theorem Mid.zw (q:Mid w rb tb cap t i k g W j kj aj L T kv vs) (n:Nat) {b:Nat} {d0 d1 d2 d3 d4 d5 d6 d7 d8 d9 d10:Value} (hn:L[n]? =some (b,#[d0,d1,d2,d3,d4,d5,d6,d7,d8,d9,d10])) (c0 c1 c2 c3 c4 c5 c6 c7 c8 c9 c10:Value):Mid w rb tb cap t i k g (bC W b c0 c1 c2 c3 c4 c5 c6 c7 c8 c9 c10) j kj aj (L.set n (b,#[c0,c1,c2,c3,c4,c5,c6,c7,c8,c9,c10])) T kv vs:=by
 have hl:n<L.length:=(List.getElem?_eq_some_iff.1 hn).1
 have q0:Mid w rb tb cap t i k g (W.setCell ⟨b,0,none⟩ c0) j kj aj (L.set n (b,#[c0,d1,d2,d3,d4,d5,d6,d7,d8,d9,d10])) T kv vs:=q.put n hn 0 c0
 have q1:Mid w rb tb cap t i k g ((W.setCell ⟨b,0,none⟩ c0).setCell ⟨b,1,none⟩ c1) j kj aj (L.set n (b,#[c0,c1,d2,d3,d4,d5,d6,d7,d8,d9,d10])) T kv vs:=q0.put' hl 1 c1
 have q2:Mid w rb tb cap t i k g (((W.setCell ⟨b,0,none⟩ c0).setCell ⟨b,1,none⟩ c1).setCell ⟨b,2,none⟩ c2) j kj aj (L.set n (b,#[c0,c1,c2,d3,d4,d5,d6,d7,d8,d9,d10])) T kv vs:=q1.put' hl 2 c2
 have q3:Mid w rb tb cap t i k g ((((W.setCell ⟨b,0,none⟩ c0).setCell ⟨b,1,none⟩ c1).setCell ⟨b,2,none⟩ c2).setCell ⟨b,3,none⟩ c3) j kj aj (L.set n (b,#[c0,c1,c2,c3,d4,d5,d6,d7,d8,d9,d10])) T kv vs:=q2.put' hl 3 c3
 have q4:Mid w rb tb cap t i k g (((((W.setCell ⟨b,0,none⟩ c0).setCell ⟨b,1,none⟩ c1).setCell ⟨b,2,none⟩ c2).setCell ⟨b,3,none⟩ c3).setCell ⟨b,4,none⟩ c4) j kj aj (L.set n (b,#[c0,c1,c2,c3,c4,d5,d6,d7,d8,d9,d10])) T kv vs:=q3.put' hl 4 c4
 have q5:Mid w rb tb cap t i k g ((((((W.setCell ⟨b,0,none⟩ c0).setCell ⟨b,1,none⟩ c1).setCell ⟨b,2,none⟩ c2).setCell ⟨b,3,none⟩ c3).setCell ⟨b,4,none⟩ c4).setCell ⟨b,5,none⟩ c5) j kj aj (L.set n (b,#[c0,c1,c2,c3,c4,c5,d6,d7,d8,d9,d10])) T kv vs:=q4.put' hl 5 c5
 have q6:Mid w rb tb cap t i k g (((((((W.setCell ⟨b,0,none⟩ c0).setCell ⟨b,1,none⟩ c1).setCell ⟨b,2,none⟩ c2).setCell ⟨b,3,none⟩ c3).setCell ⟨b,4,none⟩ c4).setCell ⟨b,5,none⟩ c5).setCell ⟨b,6,none⟩ c6) j kj aj (L.set n (b,#[c0,c1,c2,c3,c4,c5,c6,d7,d8,d9,d10])) T kv vs:=q5.put' hl 6 c6
 have q7:Mid w rb tb cap t i k g ((((((((W.setCell ⟨b,0,none⟩ c0).setCell ⟨b,1,none⟩ c1).setCell ⟨b,2,none⟩ c2).setCell ⟨b,3,none⟩ c3).setCell ⟨b,4,none⟩ c4).setCell ⟨b,5,none⟩ c5).setCell ⟨b,6,none⟩ c6).setCell ⟨b,7,none⟩ c7) j kj aj (L.set n (b,#[c0,c1,c2,c3,c4,c5,c6,c7,d8,d9,d10])) T kv vs:=q6.put' hl 7 c7
 have q8:Mid w rb tb cap t i k g (((((((((W.setCell ⟨b,0,none⟩ c0).setCell ⟨b,1,none⟩ c1).setCell ⟨b,2,none⟩ c2).setCell ⟨b,3,none⟩ c3).setCell ⟨b,4,none⟩ c4).setCell ⟨b,5,none⟩ c5).setCell ⟨b,6,none⟩ c6).setCell ⟨b,7,none⟩ c7).setCell ⟨b,8,none⟩ c8) j kj aj (L.set n (b,#[c0,c1,c2,c3,c4,c5,c6,c7,c8,d9,d10])) T kv vs:=q7.put' hl 8 c8
 have q9:Mid w rb tb cap t i k g ((((((((((W.setCell ⟨b,0,none⟩ c0).setCell ⟨b,1,none⟩ c1).setCell ⟨b,2,none⟩ c2).setCell ⟨b,3,none⟩ c3).setCell ⟨b,4,none⟩ c4).setCell ⟨b,5,none⟩ c5).setCell ⟨b,6,none⟩ c6).setCell ⟨b,7,none⟩ c7).setCell ⟨b,8,none⟩ c8).setCell ⟨b,9,none⟩ c9) j kj aj (L.set n (b,#[c0,c1,c2,c3,c4,c5,c6,c7,c8,c9,d10])) T kv vs:=q8.put' hl 9 c9
 have q10:Mid w rb tb cap t i k g (((((((((((W.setCell ⟨b,0,none⟩ c0).setCell ⟨b,1,none⟩ c1).setCell ⟨b,2,none⟩ c2).setCell ⟨b,3,none⟩ c3).setCell ⟨b,4,none⟩ c4).setCell ⟨b,5,none⟩ c5).setCell ⟨b,6,none⟩ c6).setCell ⟨b,7,none⟩ c7).setCell ⟨b,8,none⟩ c8).setCell ⟨b,9,none⟩ c9).setCell ⟨b,10,none⟩ c10) j kj aj (L.set n (b,#[c0,c1,c2,c3,c4,c5,c6,c7,c8,c9,c10])) T kv vs:=q9.put' hl 10 c10
 exact q10
theorem Mid.swap {a b:List Value} (q:Mid w rb tb cap t i k g W j kj aj L (a::b::T) kv vs):Mid w rb tb cap t i k g W j kj aj L (b::a::T) kv vs:=
 q.sub (fun x hx=>by simp only[List.mem_cons] at hx⊢;rcases hx with h|h|h<;>simp[h])
theorem Mid.lit {us:List (List Value)} (q:Mid w rb tb cap t i k g W j kj aj L (us++T) kv vs) (cs:Array Value) (hcs:cs.toList=us.flatten) (hl:us.length≤20000) (h11:∀x∈us,x.length=11) {ad c:Nat} (had:ad=W.heap.size) (hc:c=us.length)
 {kind pos n m:Int} {name:ByteArray} (hn:name.size≤20000) (hp:0≤pos∧pos≤7000) (hG:False→Gr kind n m name (us.map nM)):Mid w rb tb cap t i k g (W.alloc (.cells cs 28)) j kj aj L ((ah kind pos n m name (.slice (some ⟨ad,0,none⟩) c c)).toList::T) kv vs:=by
 subst had hc
 have q1:=q.alloc (.cells cs 28)
 have hsz:us.flatten.length=us.length*11:=by
  clear hcs hl q q1 hG
  induction us with
  |nil=>rfl
  |cons x r ih=>simp only[List.flatten_cons,List.length_append,List.length_cons];rw[ih (fun y hy=>h11 y (List.mem_cons_of_mem _ hy)),h11 x (List.mem_cons_self ..)];omega
 have hrow:=World.ownsRow_lit (base:=0) (e:=28) (size:=11) W cs us.length (Nat.zero_le _) (by unfold maxLen;omega) (by rw[←Array.length_toList,hcs,hsz])
 rw[hcs] at hrow
 obtain⟨h,ha⟩:=q1.all
 refine⟨q1.st,q1.le,q1.ok,q1.go,q1.blk,q1.nd,q1.row,q1.qo,h+1,fun x hx=>?_⟩
 have hx':x=(ah kind pos n m name (.slice (some ⟨W.heap.size,0,none⟩) us.length us.length)).toList∨(x∈vs∨x∈us++T):=by
  rcases hx with hx|hx
  ·exact .inr (.inl hx)
  ·rcases List.mem_cons.1 hx with hx|hx
   ·exact .inl hx
   ·exact .inr (.inr (List.mem_append.2 (.inr hx)))
 rcases hx' with rfl|hx
 ·refine⟨kind,pos,n,m,name,_,us,rfl,hn,hp,hl,hrow,fun b hb=>?_,fun x hx=>ha x (.inr (List.mem_append.2 (.inl hx))),hG⟩
  obtain rfl:W.heap.size=b:=by simpa[Value.ownBlock] using hb
  exact⟨q.st.size,fun e=>absurd (q.lt _ e) (Nat.lt_irrefl _),fun e=>absurd (q.Pb _ e) (Nat.lt_irrefl _)⟩
 ·exact isNode.up _ _ (ha x hx)
theorem Mid.leaf (q:Mid w rb tb cap t i k g W j kj aj L T kv vs) {kind pos n m:Int} {name:ByteArray} (hn:name.size≤20000) (hp:0≤pos∧pos≤7000) (hG:False→Gr kind n m name []):Mid w rb tb cap t i k g W j kj aj L ((ah kind pos n m name (.slice none 0 0)).toList::T) kv vs:=by
 obtain⟨h,ha⟩:=q.all
 refine⟨q.st,q.le,q.ok,q.go,q.blk,q.nd,q.row,q.qo,h+1,fun x hx=>?_⟩
 have hx':x=(ah kind pos n m name (.slice none 0 0)).toList∨(x∈vs∨x∈T):=by
  rcases hx with hx|hx
  ·exact .inr (.inl hx)
  ·exact(List.mem_cons.1 hx).imp (fun x=>x) .inr
 rcases hx' with rfl|hx
 ·exact⟨kind,pos,n,m,name,_,[],rfl,hn,hp,by simp,World.ownsRow_nil _ _ _ _,fun b hb=>by simp[Value.ownBlock] at hb,fun x hx=>by simp at hx,hG⟩
 ·exact isNode.up _ _ (ha x hx)
theorem Mid.pop {p:Nat × Array Value} (q:Mid w rb tb cap t i k g W j kj aj (p::L) T kv vs):Mid w rb tb cap t i k g W j kj aj L T kv vs:=by
 obtain⟨h,ha⟩:=q.all
 have hnd:=q.nd
 rw[List.map_cons,List.nodup_cons] at hnd
 refine⟨q.st,q.le,q.ok,q.go,fun n x e=>q.blk (n+1) x (by simpa using e),hnd.2,q.row,fun b hb e=>q.qo b hb (by rw[List.map_cons];exact List.mem_cons_of_mem _ e),h,fun x hx=>isNode.weaken (fun b hb=>⟨hb.1,fun e=>hb.2.1 (by rw[List.map_cons];exact List.mem_cons_of_mem _ e),hb.2.2⟩) (fun x=>x) _ _ (ha x hx)⟩
theorem Mid.kids (q:Mid w rb tb cap t i k g W j kj aj L T kv vs):Kids w.heap.size False W kv vs:=by
 obtain⟨h,ha⟩:=q.all
 exact⟨q.row,h,fun x hx=>isNode.weaken (fun b hb=>⟨hb.1,hb.2.2⟩) (fun x=>x) _ _ (ha x (.inl hx))⟩
theorem Mid.Um (q:Mid w rb tb cap t i k g W j kj aj L T kv vs):Mid w rb tb cap t i k g W j kj aj L (vs++T) (.slice none 0 0) []:=by
 obtain⟨h,ha⟩:=q.all
 refine⟨q.st,q.le,q.ok,q.go,q.blk,q.nd,World.ownsRow_nil _ _ _ _,fun b e=>by simp[Value.ownBlock] at e,h,fun x hx=>isNode.weaken (fun b hb=>⟨hb.1,hb.2.1,by simp[Value.ownBlock]⟩) (fun x=>x) _ _ (ha x ?_)⟩
 rcases hx with hx|hx
 ·simp at hx
 ·exact List.mem_append.1 hx
theorem Mid.first {ao:Option Addr} {cp:Nat} (q:Mid w rb tb cap t i k g W j kj aj L T (.slice ao vs.length cp) vs) (h1:vs.length=1):∃gb,ao=some ⟨gb,0,none⟩∧gb<W.heap.size∧gb≠rb∧gb∉L.map oH∧∃kind pos n m name ko kl kc,vs=[(ah kind pos n m name (.slice ko kl kc)).toList]∧∀o,o<11→W.cell? ⟨gb,o,none⟩=(ah kind pos n m name (.slice ko kl kc))[o]? :=by
 obtain⟨v,rfl⟩:=List.length_eq_one_iff.1 h1
 have hK:Kids w.heap.size False W (.slice ao 1 cp) [v]:=q.kids
 obtain⟨gb,rfl,hgb,hgl,kind,pos,n,m,name,ko,kl,kc,rfl,hcell,_⟩:=hK.first
 have hlb:=q.st.lb
 exact⟨gb,rfl,hgl,by omega,q.qo gb rfl,kind,pos,n,m,name,ko,kl,kc,rfl,hcell⟩
theorem Mid.Hr {b:Nat} (q:Mid w rb tb cap t i k g W j kj aj L T kv vs) (hb:b∉L.map oH) (n:Nat) {b':Nat} {c:Array Value} (hn:L[n]? =some (b',c)):b≠b'∧b'≠b:=by
 have _:=q.nd
 have h1:b≠b':=fun e=>hb (List.mem_map.2 ⟨_,List.mem_of_getElem? hn,e▸rfl⟩)
 exact⟨h1,fun e=>h1 e.symm⟩
end
end Go.Proofs.YtdplogkmkgekdaaGreatDoor.Pj
