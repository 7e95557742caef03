/- The project's parser: which operator stands there. -/
import Derived.Test.YtdplogkmkgekdaaGreatDoorPll
import Derived.Test.YtdplogkmkgekdaaGreatDoorPkzh
set_option linter.all false
set_option maxRecDepth 100000
set_option maxHeartbeats 4000000
namespace Go.Proofs.YtdplogkmkgekdaaGreatDoor.Pj
open Go.RowKit
structure Flip (lb:Nat) (w w':World):Prop where
 os:w'.os=w.os
 tape:w'.tape=w.tape
 output:w'.output=w.output
 size:w'.heap.size=w.heap.size
 block:∀k,k≠lb→w'.heap[k]? =w.heap[k]?
theorem Flip.refl (lb:Nat) (w:World):Flip lb w w:=⟨rfl,rfl,rfl,rfl,fun _ _=>rfl⟩
theorem Flip.set (w:World) (p:Addr) (u:Value):Flip p.block w (w.setCell p u):=⟨rfl,rfl,rfl,by simp[World.setCell],fun k hk=>Below.heap_setCell _ _ _ _ hk⟩
theorem Flip.alloc {lb:Nat} {w w':World} (h:Flip lb w w') (hl:lb<w.heap.size) (o:Obj):Flip lb (w.alloc o) (w'.alloc o):=by
 refine⟨h.os,h.tape,h.output,by simp[h.size],fun k hk=>?_⟩
 show(w'.heap.push o)[k]? =(w.heap.push o)[k]?
 rw[Array.getElem?_push,Array.getElem?_push,h.size,h.block k hk]
theorem Flip.trans {lb:Nat} {a b c:World} (h:Flip lb a b) (k:Flip lb b c):Flip lb a c:=⟨k.os.trans h.os,k.tape.trans h.tape,k.output.trans h.output,k.size.trans h.size,fun i hi=>(k.block i hi).trans (h.block i hi)⟩
theorem Flip.symm {lb:Nat} {a b:World} (h:Flip lb a b):Flip lb b a:=⟨h.os.symm,h.tape.symm,h.output.symm,h.size.symm,fun i hi=>(h.block i hi).symm⟩
theorem Flip.kp {lb rb B:Nat} {w W w' W':World} (h:Kp B rb w W) (f:Flip lb w w') (F:Flip lb W W') (he:lb<B→W'.heap[lb]? =w'.heap[lb]?):Kp B rb w' W':=
 ⟨by rw[F.os,f.os];exact h.os,by rw[F.tape,f.tape];exact h.tape,by rw[F.output,f.output];exact h.output,by rw[F.size,f.size];exact h.size,fun k hk hn=>by
  by_cases e:k=lb
  ·subst e;exact he hk
  ·rw[F.block k e,f.block k e];exact h.block k hk hn⟩
section
variable {w W w' W':World} {rb tb i j lb:Nat} {cap:Cp} {t:Tk} {g:Prop} {L:List (Nat × Array Value)} {T:List (List Value)} {kv:Value} {vs:List (List Value)} {X V:List (List Nr)}
theorem Rd.flip {k a:Int} (h:Rd W rb tb cap t i k a) (F:Flip lb W W') (hl:rb<lb):Rd W' rb tb cap t i k a:=h.same (F.block rb (by omega)) (fun j hj=>F.block j (by have:=h.bl;omega))
theorem Mf.flip (q:Mf w rb tb cap t i g W j L T kv vs X V) (f:Flip lb w w') (F:Flip lb W W') (hl:lb<w.heap.size) (hr:rb<lb) (he:W'.heap[lb]? =w'.heap[lb]?):Mf w' rb tb cap t i g W' j L T kv vs X V:=by
 have hS:∀b,w.heap.size≤b→W'.heap[b]? =W.heap[b]? :=fun b hb=>F.block b (by omega)
 have hs:Same (Out w (L.map adr) kv) W W':=fun b hb _=>hS b hb.1
 have q2:=q.same hs
 obtain⟨⟨⟨h1,h2,h3⟩,le,ok,go,blk,nd,row,rown,h,ha⟩,_,_⟩:=q
 refine⟨⟨⟨h1.flip F hr,by rw[f.size];exact Flip.kp h2 f F (fun _=>he),by rw[f.size];exact h3⟩,le,ok,go,fun n p e=>⟨by rw[f.size];exact(blk n p e).1,(hS _ (blk n p e).1).trans (blk n p e).2⟩,nd,by rw[f.size];exact ownsRow_same row (fun b hb _=>hS b (row.lt b hb).1),rown,h,fun x hx=>?_⟩,q2.1,q2.2⟩
 exact isNode.weaken (fun b hb=>⟨by rw[f.size];exact hb.1,hb.2⟩) (fun x=>x) _ _ (isNode.frame hs _ _ (ha x hx))
end
abbrev lfC (rb:Nat) (lv ov:Value) (β:Bool):Array Value:=#[.pointer (some ⟨rb,0,none⟩),lv,ov,.bool β]
abbrev LfB (w:World) (lb rb:Nat) (lv ov:Value) (β:Bool):Prop:=w.heap[lb]? =some (.cells (lfC rb lv ov β) 134 (0,0))
def SEl (t:Tk) (M O:Nat→GP (List Nr)) (β:Bool) (i:Nat) (r:(Bool × List Nr × Nat) ⊕ Int):Prop:=
 (β=false∧kindB t i 0 0 4=true∧((∃y j,Ev M ⟨i,0,0⟩ (y,⟨j,0,0⟩)∧r=.inl (false,y,j))∨∃p,Wr M ⟨i,0,0⟩ p∧r=.inr p))∨
 ((β=true∨kindB t i 0 0 4=false)∧((∃y j,Ev O ⟨i,0,0⟩ (y,⟨j,0,0⟩)∧r=.inl (true,y,j))∨∃p,Wr O ⟨i,0,0⟩ p∧r=.inr p))
def SLoop (t:Tk) (M O:Nat→GP (List Nr)) (β:Bool) (j:Nat) (F:List (List Nr)) (r:Res):Prop:=∀P:Bool→Nat→List (List Nr)→Res→Prop,
 (∀{β:Bool} {j:Nat} {F:List (List Nr)},isB t j 0 0 ⟨#[44]⟩=false→isB t j 0 0 ⟨#[62]⟩=true→P β j F (.inl (F,j+1)))→
 (∀{β:Bool} {j:Nat} {F:List (List Nr)},isB t j 0 0 ⟨#[44]⟩=false→isB t j 0 0 ⟨#[62]⟩=false→P β j F (.inr (t.pos j)))→
 (∀{β β2:Bool} {j:Nat} {F:List (List Nr)} {y:List Nr} {j2:Nat} {r:Res},isB t j 0 0 ⟨#[44]⟩=true→SEl t M O β (j+1) (.inl (β2,y,j2))→P β2 j2 (F++[y]) r→P β j F r)→
 (∀{β:Bool} {j:Nat} {F:List (List Nr)} {p:Int},isB t j 0 0 ⟨#[44]⟩=true→SEl t M O β (j+1) (.inr p)→P β j F (.inr p))→P β j F r
section
variable {t:Tk} {M O:Nat→GP (List Nr)}
theorem SLoop.stop {β:Bool} {j:Nat} {F:List (List Nr)} (h1:isB t j 0 0 ⟨#[44]⟩=false) (h2:isB t j 0 0 ⟨#[62]⟩=true):SLoop t M O β j F (.inl (F,j+1)):=fun P c1 c2 c3 c4=>c1 h1 h2
theorem SLoop.thrEnd {β:Bool} {j:Nat} {F:List (List Nr)} (h1:isB t j 0 0 ⟨#[44]⟩=false) (h2:isB t j 0 0 ⟨#[62]⟩=false):SLoop t M O β j F (.inr (t.pos j)):=fun P c1 c2 c3 c4=>c2 h1 h2
theorem SLoop.next {β β2:Bool} {j:Nat} {F:List (List Nr)} {y:List Nr} {j2:Nat} {r:Res} (h1:isB t j 0 0 ⟨#[44]⟩=true) (h2:SEl t M O β (j+1) (.inl (β2,y,j2))) (h3:SLoop t M O β2 j2 (F++[y]) r):SLoop t M O β j F r:=fun P c1 c2 c3 c4=>c3 h1 h2 (h3 P c1 c2 c3 c4)
theorem SLoop.thr {β:Bool} {j:Nat} {F:List (List Nr)} {p:Int} (h1:isB t j 0 0 ⟨#[44]⟩=true) (h2:SEl t M O β (j+1) (.inr p)):SLoop t M O β j F (.inr p):=fun P c1 c2 c3 c4=>c4 h1 h2
def SRun (t:Tk) (M O:Nat→GP (List Nr)) (i:Nat) (r:Res):Prop:=(∃β y j,SEl t M O false i (.inl (β,y,j))∧SLoop t M O β j [y] r)∨∃p,SEl t M O false i (.inr p)∧r=.inr p
end
def SelP (w:World) (rb tb:Nat) (cap:Cp) (t:Tk) (i:Nat) (lb:Nat) (lv ov:Value) (M O:Nat→GP (List Nr)) (β:Bool) (e:Ending) (w':World):Prop:=
 ∃w1 β2,Flip lb w w1∧LfB w1 lb rb lv ov β2∧((β2=false∧β=false∧kindB t i 0 0 4=true∧NodeP w1 rb tb cap t i True M e w')∨(β2=true∧(β=true∨kindB t i 0 0 4=false)∧NodeP w1 rb tb cap t i True O e w'))
theorem SelP.cases {w w':World} {rb tb i lb:Nat} {cap:Cp} {t:Tk} {lv ov:Value} {M O:Nat→GP (List Nr)} {β:Bool} {e:Ending} (h:SelP w rb tb cap t i lb lv ov M O β e w'):
 ∃w1 β2,Flip lb w w1∧LfB w1 lb rb lv ov β2∧((∃mm,NodeR w1 rb tb cap t i True mm e w'∧∀y j,Ev mm ⟨i,0,0⟩ (y,⟨j,0,0⟩)→SEl t M O β i (.inl (β2,y,j)))∨∃p:Nat,e=throwE p∧Kp w1.heap.size rb w1 w'∧SEl t M O β i (.inr p)):=by
 obtain⟨w1,β2,h1,h2,(⟨h3,h4,h5,h6|⟨p,h6,h7,h8⟩⟩|⟨h3,h4,h6|⟨p,h6,h7,h8⟩⟩)⟩:=h
 ·exact⟨w1,β2,h1,h2,.inl ⟨M,h6,fun y j hy=>.inl ⟨h4,h5,.inl ⟨y,j,hy,by rw[h3]⟩⟩⟩⟩
 ·exact⟨w1,β2,h1,h2,.inr ⟨p,h6,h7,.inl ⟨h4,h5,.inr ⟨p,h8,rfl⟩⟩⟩⟩
 ·exact⟨w1,β2,h1,h2,.inl ⟨O,h6,fun y j hy=>.inr ⟨h4,.inl ⟨y,j,hy,by rw[h3]⟩⟩⟩⟩
 ·exact⟨w1,β2,h1,h2,.inr ⟨p,h6,h7,.inr ⟨h4,.inr ⟨p,h8,rfl⟩⟩⟩⟩
section
variable {wb w W w':World} {rb tb i j lb:Nat} {cap:Cp} {t:Tk} {g:Prop} {L:List (Nat × Array Value)} {T:List (List Value)} {kv:Value} {vs:List (List Value)} {X V:List (List Nr)} {f:Nat} {args:Array Value} {Q:Ending→World→Prop} {lv ov:Value} {M O:Nat→GP (List Nr)}
abbrev lfW (w:World) (lb:Nat) (β:Bool):World:=w.setCell ⟨lb,3,none⟩ (.bool β)
theorem lfW_is {β β2:Bool} (h:LfB w lb rb lv ov β):LfB (lfW w lb β2) lb rb lv ov β2:=by
 show(w.setCell ⟨lb,3,none⟩ (.bool β2)).heap[lb]? =_
 rw[heap_setCell_same _ lb 3 _ 134 _ h]
 rfl
theorem Mf.sl {β:Bool} {ob:Obj} (h0:LfB w lb rb lv ov β) (hr:rb<lb) (β1:Bool) (q:Mf ((lfW w lb β1).alloc ob) rb tb cap t i g W j L T kv vs X V) (h:Rd W rb tb cap t j 0 0→LfB W lb rb lv ov β1→Calls Tryz.prog f args W (SelP W rb tb cap t j lb lv ov M O β1))
 (KB:∀w' p β2,Kp (lfW w lb β2).heap.size rb (lfW w lb β2) w'→Hid (SEl t M O β1 j (.inr (p:Nat)))→Q (throwE p) w') (K:∀w' (x:Nf) i' (y:List Nr) β2,Hid (j<i')→Hid (SEl t M O β1 j (.inl (β2,y,i')))→Mf ((lfW w lb β2).alloc ob) rb tb cap t i True w' i' L (x.t::T) kv vs (y::X) V→Q (.returned (.agg x.a)) w'):Calls Tryz.prog f args W Q:=by
 have hlw:lb<w.heap.size:=(Array.getElem?_eq_some_iff.1 h0).1
 have hsz:∀β,(lfW w lb β).heap.size=w.heap.size:=fun β=>(Flip.set w ⟨lb,3,none⟩ (.bool β)).size
 have hb1:((lfW w lb β1).alloc ob).heap[lb]? =some (.cells (lfC rb lv ov β1) 134 (0,0)):=(Below.heap_alloc _ _ _ (by rw[hsz];exact hlw)).trans (lfW_is h0)
 have hlb:LfB W lb rb lv ov β1:=(q.st.kp.block lb (by simp[hsz];omega) (by omega)).trans hb1
 refine(h q.st.rd hlb).mono fun e w' pp=>?_
 obtain⟨w1,β2,h1,h2,h3⟩:=pp.cases
 have fl:Flip lb ((lfW w lb β1).alloc ob) ((lfW w lb β2).alloc ob):=Flip.alloc ((Flip.set w ⟨lb,3,none⟩ (.bool β1)).symm.trans (Flip.set w ⟨lb,3,none⟩ (.bool β2))) (by rw[hsz];exact hlw) ob
 have hb2:((lfW w lb β2).alloc ob).heap[lb]? =some (.cells (lfC rb lv ov β2) 134 (0,0)):=(Below.heap_alloc _ _ _ (by rw[hsz];exact hlw)).trans (lfW_is h0)
 have q1:=q.flip fl h1 (by simp[hsz];omega) hr (h2.trans hb2.symm)
 rcases h3 with⟨mm,⟨x1,x2,x3,x4,x5,x6,x7,x8,i',rfl,hx,hn,y,hy,hm⟩,hS⟩|⟨p,rfl,hk,hS⟩
 ·exact K w' ⟨x1,x2,x3,x4,x5,x6,x7,x8⟩ i' y β2 (hx.go trivial rfl) (hS y i' hm) (q1.nodem hx hn hy)
 ·refine KB w' p β2 ?_ hS
  have k1:=q1.st.kp.trans (hk.mono q1.st.size)
  exact((Kp.refl (lfW w lb β2).heap.size rb _).alloc (Nat.le_refl _) ob).trans (k1.mono (by simp))
end
end Go.Proofs.YtdplogkmkgekdaaGreatDoor.Pj
namespace Go.Proofs.YtdplogkmkgekdaaGreatDoor.Pj
open Go.RowKit
def opsB:List (ByteArray × Int × Int):=[(⟨#[124,124]⟩,2,31),(⟨#[38,38]⟩,3,30),(⟨#[61,61]⟩,4,29),(⟨#[33,61]⟩,4,29),(⟨#[60,61]⟩,4,29),(⟨#[62,61]⟩,4,29),(⟨#[60]⟩,4,29),(⟨#[62]⟩,4,29),(⟨#[43]⟩,5,29),(⟨#[45]⟩,5,29),(⟨#[42]⟩,6,29),(⟨#[47]⟩,6,29),(⟨#[37]⟩,6,29)]
def opAt (k:Nat):ByteArray:=(opsB.getD k (E0,0,0)).1
def lineAt (k:Nat):Int:=(opsB.getD k (E0,0,0)).2.1
def kindAt (k:Nat):Int:=(opsB.getD k (E0,0,0)).2.2
theorem index_ops (w:World):(k:Nat)→k<13→(Instr.index 150 (.agg opsC) (.int .i64 k)).run Tryz.prog w=.ok (.agg #[.string (opAt k),.int .i64 (lineAt k),.int .i64 (kindAt k)]) w
 |0,_=>by kernel_rfl
 |1,_=>by kernel_rfl
 |2,_=>by kernel_rfl
 |3,_=>by kernel_rfl
 |4,_=>by kernel_rfl
 |5,_=>by kernel_rfl
 |6,_=>by kernel_rfl
 |7,_=>by kernel_rfl
 |8,_=>by kernel_rfl
 |9,_=>by kernel_rfl
 |10,_=>by kernel_rfl
 |11,_=>by kernel_rfl
 |12,_=>by kernel_rfl
 |k+13,h=>absurd h (by omega)
theorem opAt_ask:(k:Nat)→k<13→opAt k∈askS
 |0,_=>by show(⟨#[124,124]⟩:ByteArray)∈askS;exact ask
 |1,_=>by show(⟨#[38,38]⟩:ByteArray)∈askS;exact ask
 |2,_=>by show(⟨#[61,61]⟩:ByteArray)∈askS;exact ask
 |3,_=>by show(⟨#[33,61]⟩:ByteArray)∈askS;exact ask
 |4,_=>by show(⟨#[60,61]⟩:ByteArray)∈askS;exact ask
 |5,_=>by show(⟨#[62,61]⟩:ByteArray)∈askS;exact ask
 |6,_=>by show(⟨#[60]⟩:ByteArray)∈askS;exact ask
 |7,_=>by show(⟨#[62]⟩:ByteArray)∈askS;exact ask
 |8,_=>by show(⟨#[43]⟩:ByteArray)∈askS;exact ask
 |9,_=>by show(⟨#[45]⟩:ByteArray)∈askS;exact ask
 |10,_=>by show(⟨#[42]⟩:ByteArray)∈askS;exact ask
 |11,_=>by show(⟨#[47]⟩:ByteArray)∈askS;exact ask
 |12,_=>by show(⟨#[37]⟩:ByteArray)∈askS;exact ask
 |k+13,h=>absurd h (by omega)
def hitO (t:Tk) (i:Nat) (line:Int) (k:Nat):Bool:=lineAt k==line&&isB t i 0 0 (opAt k)
theorem operatorP {w:World} {rb tb i:Nat} {cap:Cp} {t:Tk} (h:Rd w rb tb cap t i 0 0) (line:Int):
 Calls Tryz.prog 202 #[.pointer (some ⟨rb,0,none⟩),.int .i64 line] w fun e w'=>Below w.heap.size w w'∧((∃k,k<13∧hitO t i line k=true∧(∀m,m<k→hitO t i line m=false)∧e=.returned (.tuple #[.int .i64 (kindAt k),.bool true]))∨((∀m,m<13→hitO t i line m=false)∧e=.returned (.tuple #[.int .i64 0,.bool false]))):=by
 obtain⟨tg,fg,hG⟩:=h.g0.op
 have HG:Hid (w.heap[3]? =some (.cells opsC tg fg)):=hG
 have hl:=h.l
 clear hG
 go_enter Tryz.func202,Tryz.ntmps202
 go_wp2_with (refine wpList_load_row rfl 150 _ rfl 3 rfl tg opsC fg _ ?hrow Tryz.underlying150 rfl (by kernel_rfl) ?_;rotate_left 1)
 case hrow=>exact HG.out
 go_loopg [9] 13 (fun g v wr=>∃k:Nat,g=13 - k∧v=.int .i64 k∧k≤13∧Below w.heap.size w wr∧Hid (∀m,m<k→hitO t i line m=false))
 case atStart=>exact⟨0,rfl,rfl,by omega,Below.refl _ _,fun m hm=>absurd hm (by omega)⟩
 case round=>
  obtain⟨k,hgk,rfl,hk,hb,HJ⟩:=hrel
  have HGK:Hid (gk=13 - k):=hgk
  clear hgk
  rcases Nat.lt_or_ge k 13 with hlt|hge
  ·have hix:∀w,(Instr.index 150 (.agg opsC) (.int .i64 k)).run Tryz.prog w=.ok (.agg #[.string (opAt k),.int .i64 (lineAt k),.int .i64 (kindAt k)]) w:=fun w=>index_ops w k hlt
   have hkI:(k:Int)<13:=by omega
   have HA:Hid (opAt k∈askS):=opAt_ask k hlt
   have hrd:=h.below hb
   have hsz:=hb.size
   cases hline:(lineAt k==line)
   ·have HL:Hid (hitO t i line k=false):=by show hitO t i line k=false;unfold hitO;rw[hline];rfl
    go_wp2_with fail
    go_roundg (13 - (k+1))
    case measure=>rw[HGK.out];omega
    case rel=>exact⟨k+1,rfl,by go_num,by omega,hb.alloc hsz _,fun m hm=>by
     by_cases e:m=k
     ·rw[e];exact HL.out
     ·exact HJ.out m (by omega)⟩
   ·cases hB:isB t i 0 0 (opAt k)
    ·have HL:Hid (hitO t i line k=false):=by show hitO t i line k=false;unfold hitO;rw[hB];simp
     go_wp2_with (go_at_call 89;refine(isP (hrd.alloc _) _ HA.out).mono ?_;rintro e w3 ⟨rfl,hb3⟩)
     have hb4:Below w.heap.size w w3:=(hb.alloc hsz _).trans (hb3.mono (by simp;omega))
     go_roundg (13 - (k+1))
     case measure=>rw[HGK.out];omega
     case rel=>exact⟨k+1,rfl,by go_num,by omega,hb4,fun m hm=>by
      by_cases e:m=k
      ·rw[e];exact HL.out
      ·exact HJ.out m (by omega)⟩
    ·have HL:Hid (hitO t i line k=true):=by show hitO t i line k=true;unfold hitO;rw[hB,hline];rfl
     go_wp2_with (go_at_call 89;refine(isP (hrd.alloc _) _ HA.out).mono ?_;rintro e w3 ⟨rfl,hb3⟩;obtain⟨hc3,hf3⟩:=bcell hb3)
     have hb4:Below w.heap.size w w3:=(hb.alloc hsz _).trans (hb3.mono (by simp;omega))
     go_ret2
     exact⟨hb4,.inl ⟨k,by omega,HL.out,HJ.out,rfl⟩⟩
  ·have hkI:((k:Int)<13)=False:=by simp;omega
   have HK:Hid (k=13):=by show k=13;omega
   go_wp2_with fail
   go_ret2
   exact⟨hb,.inr ⟨by rw[←HK.out];exact HJ.out,rfl⟩⟩
def opB (t:Tk) (i:Nat) (ss:List ByteArray):Bool:=(ss.find? (fun w=>isB t i 0 0 w)).isSome
theorem isB_eq {t:Tk} {i:Nat} {s:ByteArray} (h:isB t i 0 0 s=true):t.text i=s:=by
 unfold isB at h
 simp only[Bool.and_eq_true,beq_iff_eq] at h
 have e:=h.2.2.2
 rw[Nat.add_zero,Lib.toList_data,Lib.toList_data] at e
 exact ByteArray.ext (Array.toList_inj.1 e)
theorem opB_yes {t:Tk} {i:Nat} {ss:List ByteArray} (h:opB t i ss=true):(ss.find? (fun w=>isB t i 0 0 w))=some (t.text i)∧isB t i 0 0 (t.text i)=true∧t.text i∈ss:=by
 unfold opB at h
 obtain⟨s,hs⟩:=Option.isSome_iff_exists.1 h
 have h1:=List.find?_some hs
 have e:=isB_eq h1
 rw[e]
 exact⟨hs,h1,List.mem_of_find?_eq_some hs⟩
theorem opB_no {t:Tk} {i:Nat} {ss:List ByteArray} (h:opB t i ss=false):(ss.find? (fun w=>isB t i 0 0 w))=none:=by
 unfold opB at h
 simpa using h
def opK (t:Tk) (i:Nat) (K:Int) (ss:List ByteArray):Int:=if opB t i ss=true then K else 0
theorem opK_yes {t:Tk} {i:Nat} {K:Int} {ss:List ByteArray} (h:opB t i ss=true):opK t i K ss=K:=if_pos h
theorem opK_no {t:Tk} {i:Nat} {K:Int} {ss:List ByteArray} (h:opB t i ss=false):opK t i K ss=0:=if_neg (by rw[h];decide)
def OpP (w:World) (t:Tk) (i:Nat) (K:Int) (ss:List ByteArray) (e:Ending) (w':World):Prop:=Below w.heap.size w w'∧e=.returned (.tuple #[.int .i64 (opK t i K ss),.bool (opB t i ss)])
theorem operator2 {w:World} {rb tb i:Nat} {cap:Cp} {t:Tk} (h:Rd w rb tb cap t i 0 0):Calls Tryz.prog 202 #[.pointer (some ⟨rb,0,none⟩),.int .i64 2] w (OpP w t i 31 [⟨#[124,124]⟩]):=by
 refine(operatorP h 2).mono ?_
 rintro e w' ⟨hb,(⟨k,hk,hh,hm,rfl⟩|⟨hm,rfl⟩)⟩
 ·have e1:(lineAt k==2)=true:=by
   unfold hitO at hh
   simp only[Bool.and_eq_true] at hh
   exact hh.1
  have e2:isB t i 0 0 (opAt k)=true:=by
   unfold hitO at hh
   simp only[Bool.and_eq_true] at hh
   exact hh.2
  have key:∀k,k<13→(lineAt k==2)=true→kindAt k=31∧(k=0):=by decide
  obtain⟨e3,e4⟩:=key k hk e1
  have e5:opAt k∈([⟨#[124,124]⟩]:List ByteArray):=by
   rcases e4 with rfl
   all_goals simp[opAt,opsB]
  have e6:opB t i [⟨#[124,124]⟩]=true:=by
   unfold opB
   rw[List.find?_isSome]
   exact⟨_,e5,e2⟩
  exact⟨hb,by rw[opK_yes e6,e6,e3]⟩
 ·have e6:opB t i [⟨#[124,124]⟩]=false:=by
   unfold opB
   rw[List.find?_eq_none.2 ?_]
   ·rfl
   ·intro s hs
    simp only[List.mem_cons,List.not_mem_nil,or_false] at hs
    rcases hs with rfl
    ·have:=hm 0 (by decide)
     unfold hitO at this
     have e:(lineAt 0==2)=true:=by decide
     rw[e] at this
     simpa[opAt,opsB] using this
  exact⟨hb,by rw[opK_no e6,e6]⟩
theorem operator3 {w:World} {rb tb i:Nat} {cap:Cp} {t:Tk} (h:Rd w rb tb cap t i 0 0):Calls Tryz.prog 202 #[.pointer (some ⟨rb,0,none⟩),.int .i64 3] w (OpP w t i 30 [⟨#[38,38]⟩]):=by
 refine(operatorP h 3).mono ?_
 rintro e w' ⟨hb,(⟨k,hk,hh,hm,rfl⟩|⟨hm,rfl⟩)⟩
 ·have e1:(lineAt k==3)=true:=by
   unfold hitO at hh
   simp only[Bool.and_eq_true] at hh
   exact hh.1
  have e2:isB t i 0 0 (opAt k)=true:=by
   unfold hitO at hh
   simp only[Bool.and_eq_true] at hh
   exact hh.2
  have key:∀k,k<13→(lineAt k==3)=true→kindAt k=30∧(k=1):=by decide
  obtain⟨e3,e4⟩:=key k hk e1
  have e5:opAt k∈([⟨#[38,38]⟩]:List ByteArray):=by
   rcases e4 with rfl
   all_goals simp[opAt,opsB]
  have e6:opB t i [⟨#[38,38]⟩]=true:=by
   unfold opB
   rw[List.find?_isSome]
   exact⟨_,e5,e2⟩
  exact⟨hb,by rw[opK_yes e6,e6,e3]⟩
 ·have e6:opB t i [⟨#[38,38]⟩]=false:=by
   unfold opB
   rw[List.find?_eq_none.2 ?_]
   ·rfl
   ·intro s hs
    simp only[List.mem_cons,List.not_mem_nil,or_false] at hs
    rcases hs with rfl
    ·have:=hm 1 (by decide)
     unfold hitO at this
     have e:(lineAt 1==3)=true:=by decide
     rw[e] at this
     simpa[opAt,opsB] using this
  exact⟨hb,by rw[opK_no e6,e6]⟩
theorem operator4 {w:World} {rb tb i:Nat} {cap:Cp} {t:Tk} (h:Rd w rb tb cap t i 0 0):Calls Tryz.prog 202 #[.pointer (some ⟨rb,0,none⟩),.int .i64 4] w (OpP w t i 29 [⟨#[61,61]⟩,⟨#[33,61]⟩,⟨#[60,61]⟩,⟨#[62,61]⟩,⟨#[60]⟩,⟨#[62]⟩]):=by
 refine(operatorP h 4).mono ?_
 rintro e w' ⟨hb,(⟨k,hk,hh,hm,rfl⟩|⟨hm,rfl⟩)⟩
 ·have e1:(lineAt k==4)=true:=by
   unfold hitO at hh
   simp only[Bool.and_eq_true] at hh
   exact hh.1
  have e2:isB t i 0 0 (opAt k)=true:=by
   unfold hitO at hh
   simp only[Bool.and_eq_true] at hh
   exact hh.2
  have key:∀k,k<13→(lineAt k==4)=true→kindAt k=29∧(k=2∨k=3∨k=4∨k=5∨k=6∨k=7):=by decide
  obtain⟨e3,e4⟩:=key k hk e1
  have e5:opAt k∈([⟨#[61,61]⟩,⟨#[33,61]⟩,⟨#[60,61]⟩,⟨#[62,61]⟩,⟨#[60]⟩,⟨#[62]⟩]:List ByteArray):=by
   rcases e4 with rfl|rfl|rfl|rfl|rfl|rfl
   all_goals simp[opAt,opsB]
  have e6:opB t i [⟨#[61,61]⟩,⟨#[33,61]⟩,⟨#[60,61]⟩,⟨#[62,61]⟩,⟨#[60]⟩,⟨#[62]⟩]=true:=by
   unfold opB
   rw[List.find?_isSome]
   exact⟨_,e5,e2⟩
  exact⟨hb,by rw[opK_yes e6,e6,e3]⟩
 ·have e6:opB t i [⟨#[61,61]⟩,⟨#[33,61]⟩,⟨#[60,61]⟩,⟨#[62,61]⟩,⟨#[60]⟩,⟨#[62]⟩]=false:=by
   unfold opB
   rw[List.find?_eq_none.2 ?_]
   ·rfl
   ·intro s hs
    simp only[List.mem_cons,List.not_mem_nil,or_false] at hs
    rcases hs with rfl|rfl|rfl|rfl|rfl|rfl
    ·have:=hm 2 (by decide)
     unfold hitO at this
     have e:(lineAt 2==4)=true:=by decide
     rw[e] at this
     simpa[opAt,opsB] using this
    ·have:=hm 3 (by decide)
     unfold hitO at this
     have e:(lineAt 3==4)=true:=by decide
     rw[e] at this
     simpa[opAt,opsB] using this
    ·have:=hm 4 (by decide)
     unfold hitO at this
     have e:(lineAt 4==4)=true:=by decide
     rw[e] at this
     simpa[opAt,opsB] using this
    ·have:=hm 5 (by decide)
     unfold hitO at this
     have e:(lineAt 5==4)=true:=by decide
     rw[e] at this
     simpa[opAt,opsB] using this
    ·have:=hm 6 (by decide)
     unfold hitO at this
     have e:(lineAt 6==4)=true:=by decide
     rw[e] at this
     simpa[opAt,opsB] using this
    ·have:=hm 7 (by decide)
     unfold hitO at this
     have e:(lineAt 7==4)=true:=by decide
     rw[e] at this
     simpa[opAt,opsB] using this
  exact⟨hb,by rw[opK_no e6,e6]⟩
theorem operator5 {w:World} {rb tb i:Nat} {cap:Cp} {t:Tk} (h:Rd w rb tb cap t i 0 0):Calls Tryz.prog 202 #[.pointer (some ⟨rb,0,none⟩),.int .i64 5] w (OpP w t i 29 [⟨#[43]⟩,⟨#[45]⟩]):=by
 refine(operatorP h 5).mono ?_
 rintro e w' ⟨hb,(⟨k,hk,hh,hm,rfl⟩|⟨hm,rfl⟩)⟩
 ·have e1:(lineAt k==5)=true:=by
   unfold hitO at hh
   simp only[Bool.and_eq_true] at hh
   exact hh.1
  have e2:isB t i 0 0 (opAt k)=true:=by
   unfold hitO at hh
   simp only[Bool.and_eq_true] at hh
   exact hh.2
  have key:∀k,k<13→(lineAt k==5)=true→kindAt k=29∧(k=8∨k=9):=by decide
  obtain⟨e3,e4⟩:=key k hk e1
  have e5:opAt k∈([⟨#[43]⟩,⟨#[45]⟩]:List ByteArray):=by
   rcases e4 with rfl|rfl
   all_goals simp[opAt,opsB]
  have e6:opB t i [⟨#[43]⟩,⟨#[45]⟩]=true:=by
   unfold opB
   rw[List.find?_isSome]
   exact⟨_,e5,e2⟩
  exact⟨hb,by rw[opK_yes e6,e6,e3]⟩
 ·have e6:opB t i [⟨#[43]⟩,⟨#[45]⟩]=false:=by
   unfold opB
   rw[List.find?_eq_none.2 ?_]
   ·rfl
   ·intro s hs
    simp only[List.mem_cons,List.not_mem_nil,or_false] at hs
    rcases hs with rfl|rfl
    ·have:=hm 8 (by decide)
     unfold hitO at this
     have e:(lineAt 8==5)=true:=by decide
     rw[e] at this
     simpa[opAt,opsB] using this
    ·have:=hm 9 (by decide)
     unfold hitO at this
     have e:(lineAt 9==5)=true:=by decide
     rw[e] at this
     simpa[opAt,opsB] using this
  exact⟨hb,by rw[opK_no e6,e6]⟩
theorem operator6 {w:World} {rb tb i:Nat} {cap:Cp} {t:Tk} (h:Rd w rb tb cap t i 0 0):Calls Tryz.prog 202 #[.pointer (some ⟨rb,0,none⟩),.int .i64 6] w (OpP w t i 29 [⟨#[42]⟩,⟨#[47]⟩,⟨#[37]⟩]):=by
 refine(operatorP h 6).mono ?_
 rintro e w' ⟨hb,(⟨k,hk,hh,hm,rfl⟩|⟨hm,rfl⟩)⟩
 ·have e1:(lineAt k==6)=true:=by
   unfold hitO at hh
   simp only[Bool.and_eq_true] at hh
   exact hh.1
  have e2:isB t i 0 0 (opAt k)=true:=by
   unfold hitO at hh
   simp only[Bool.and_eq_true] at hh
   exact hh.2
  have key:∀k,k<13→(lineAt k==6)=true→kindAt k=29∧(k=10∨k=11∨k=12):=by decide
  obtain⟨e3,e4⟩:=key k hk e1
  have e5:opAt k∈([⟨#[42]⟩,⟨#[47]⟩,⟨#[37]⟩]:List ByteArray):=by
   rcases e4 with rfl|rfl|rfl
   all_goals simp[opAt,opsB]
  have e6:opB t i [⟨#[42]⟩,⟨#[47]⟩,⟨#[37]⟩]=true:=by
   unfold opB
   rw[List.find?_isSome]
   exact⟨_,e5,e2⟩
  exact⟨hb,by rw[opK_yes e6,e6,e3]⟩
 ·have e6:opB t i [⟨#[42]⟩,⟨#[47]⟩,⟨#[37]⟩]=false:=by
   unfold opB
   rw[List.find?_eq_none.2 ?_]
   ·rfl
   ·intro s hs
    simp only[List.mem_cons,List.not_mem_nil,or_false] at hs
    rcases hs with rfl|rfl|rfl
    ·have:=hm 10 (by decide)
     unfold hitO at this
     have e:(lineAt 10==6)=true:=by decide
     rw[e] at this
     simpa[opAt,opsB] using this
    ·have:=hm 11 (by decide)
     unfold hitO at this
     have e:(lineAt 11==6)=true:=by decide
     rw[e] at this
     simpa[opAt,opsB] using this
    ·have:=hm 12 (by decide)
     unfold hitO at this
     have e:(lineAt 12==6)=true:=by decide
     rw[e] at this
     simpa[opAt,opsB] using this
  exact⟨hb,by rw[opK_no e6,e6]⟩
def opRd (line:Int) (N:Nat) (X:Tk→Nat→GP (List Nr)):Prop:=∀{w:World} {rb tb i:Nat} {cap:Cp} {t:Tk},Rd w rb tb cap t i 0 0→t.len - i≤N→Calls Tryz.prog 160 #[.pointer (some ⟨rb,0,none⟩),.int .i64 line] w (NodeP w rb tb cap t i True (X t))
def gBin (t:Tk) (K:Int) (X:GP (List Nr)) (l:List Nr):GP (List Nr):=bnd (gAt t) (fun p=>bnd (gText t) (fun s=>seq (gAdd 1) (bnd X (fun r=>ret (nd K p 0 0 (if K=29 then s else E0) [l,r])))))
structure ChainLike (t:Tk) (K:Int) (ss:List ByteArray) (X:Nat→GP (List Nr)) (B:Nat→List Nr→GP (Bool × List Nr)):Prop where
 c0:∀{i:Nat} {l:List Nr},opB t i ss=false→Ev (fun n=>B n l) ⟨i,0,0⟩ ((false,l),⟨i,0,0⟩)
 c1:∀{i j:Nat} {l y:List Nr},opB t i ss=true→Ev X ⟨i+1,0,0⟩ (y,⟨j,0,0⟩)→Ev (fun n=>B n l) ⟨i,0,0⟩ ((true,nd K (t.pos i) 0 0 (if K=29 then t.text i else E0) [l,y]),⟨j,0,0⟩)
 c2:∀{i:Nat} {l:List Nr} {p:Int},opB t i ss=true→Wr X ⟨i+1,0,0⟩ p→Wr (fun n=>B n l) ⟨i,0,0⟩ p
 sy:∀n l,Sy (B n l)
theorem ev_sgn {t:Tk} {i:Nat} {ss:List ByteArray} (h:opB t i ss=true):Ev (fun _=>gSign t ss) ⟨i,0,0⟩ (t.text i,⟨i,0,0⟩):=Ev.of (by
 unfold gSign
 show some ((ss.find? (fun w=>isB t i 0 0 w)).getD E0,_)=_
 rw[(opB_yes h).1]
 rfl)
theorem ev_nosgn {t:Tk} {i:Nat} {ss:List ByteArray} (h:opB t i ss=false):Ev (fun _=>gSign t ss) ⟨i,0,0⟩ (E0,⟨i,0,0⟩):=Ev.of (by
 unfold gSign
 show some ((ss.find? (fun w=>isB t i 0 0 w)).getD E0,_)=_
 rw[opB_no h]
 rfl)
theorem chainLikeS {t:Tk} {ss:List ByteArray} {X:Nat→GP (List Nr)} (hX:∀n,Sy (X n)) (hne:∀s∈ss,(s.size==0)=false):ChainLike t 29 ss X (fun n=>gChainSB t ss (X n)) where
 c0 h:=Ev.bnd' ev_ok (Ev.yes rfl (Ev.bnd' (ev_nosgn h) (Ev.yes rfl Ev.ret')))
 c1 h h1:=Ev.bnd' ev_ok (Ev.yes rfl (Ev.bnd' (ev_sgn h) (Ev.no (hne _ (opB_yes h).2.2) (Ev.bnd' ev_at (Ev.seq (ev_wyes (opB_yes h).2.1) (Ev.bnd' h1 Ev.ret'))))))
 c2 h h1:=Wr.snd ev_ok (Wr.yes rfl (Wr.snd (ev_sgn h) (Wr.no (hne _ (opB_yes h).2.2) (Wr.snd ev_at (Wr.sqd (ev_wyes (opB_yes h).2.1) (Wr.fst h1 (fun _ _=>Sy.ret)))))))
 sy n l:=by
  unfold gChainSB
  have:=hX n
  exact syt
theorem opB_one {t:Tk} {i:Nat} {s:ByteArray}:opB t i [s]=isB t i 0 0 s:=by
 unfold opB
 cases h:isB t i 0 0 s<;>simp[List.find?,h]
theorem chainLike {t:Tk} {K:Int} {s:ByteArray} {X:Nat→GP (List Nr)} (hX:∀n,Sy (X n)) (hK:K≠29):ChainLike t K [s] X (fun n=>gChainB t K s (X n)) where
 c0 h:=Ev.bnd' ev_ok (Ev.bnd' ev_is (Ev.no (and_r (opB_one.symm.trans h)) Ev.ret'))
 c1 h h1:=Ev.bnd' ev_ok (Ev.bnd' ev_is (Ev.yes (and_y rfl (opB_one.symm.trans h)) (Ev.bnd' ev_at (Ev.seq (ev_wyes (opB_one.symm.trans h)) (Ev.bnd' h1 (by rw[if_neg hK];exact Ev.ret'))))))
 c2 h h1:=Wr.snd ev_ok (Wr.snd ev_is (Wr.yes (and_y rfl (opB_one.symm.trans h)) (Wr.snd ev_at (Wr.sqd (ev_wyes (opB_one.symm.trans h)) (Wr.fst h1 (fun _ _=>Sy.ret))))))
 sy n l:=by
  unfold gChainB
  have:=hX n
  exact syt
end Go.Proofs.YtdplogkmkgekdaaGreatDoor.Pj
