/- The project's parser: references, results. -/
import Derived.Test.YtdplogkmkgekdaaGreatDoorPkn
import Derived.Test.YtdplogkmkgekdaaGreatDoorTypes
import Derived.Test.YtdplogkmkgekdaaGreatDoorPkb
set_option linter.all false
set_option maxRecDepth 100000
set_option maxHeartbeats 4000000
namespace Go.Proofs.YtdplogkmkgekdaaGreatDoor.Pj
open Go.RowKit
theorem lit {p:Prop} (h:p:=by simp only[Lib.toList_data];decide):p:=h
theorem aF {t:Tk} {j:Nat} {a b:ByteArray} (h:au t j 0 0 a=true) (hne:(a.toList==b.toList)=false):au t j 0 0 b=false:=by
 unfold au at h⊢
 simp only[Bool.and_eq_true,beq_iff_eq] at h
 have e:((t.text (j+0)).toList==b.toList)=false:=by rw[h.2.2.2];exact hne
 rw[e]
 simp
structure o7 (t:Tk) (X:Nat→GP (List Nr)) (en:ByteArray) (B:Nat→List (List Nr)→GP (Bool × List (List Nr))):Prop where
 e1:∀{i j:Nat} {y:List Nr} {o},Ev X ⟨i,0,0⟩ (y,⟨j,0,0⟩)→au t j 0 0 en=true→Ev (fun n=>B n o) ⟨i,0,0⟩ ((false,o++[y]),⟨j+1,0,0⟩)
 e2:∀{i j:Nat} {y:List Nr} {o},Ev X ⟨i,0,0⟩ (y,⟨j,0,0⟩)→au t j 0 0 en=false→au t j 0 0 ⟨#[44]⟩=true→Ev (fun n=>B n o) ⟨i,0,0⟩ ((true,o++[y]),⟨j+1,0,0⟩)
 e3:∀{i j:Nat} {y:List Nr} {o},Ev X ⟨i,0,0⟩ (y,⟨j,0,0⟩)→au t j 0 0 en=false→au t j 0 0 ⟨#[44]⟩=false→Wr (fun n=>B n o) ⟨i,0,0⟩ (t.pos j)
 e4:∀{i:Nat} {p:Int} {o},Wr X ⟨i,0,0⟩ p→Wr (fun n=>B n o) ⟨i,0,0⟩ p
 sy:∀n o,Sy (B n o)
section
variable {t:Tk} {X:Nat→GP (List Nr)} {en:ByteArray} {B:Nat→List (List Nr)→GP (Bool × List (List Nr))}
theorem o7.lp (H:o7 t X en B) (hne:(((⟨#[44]⟩:ByteArray).toList)==en.toList)=false) {j:Nat} {F:List (List Nr)} {r:(List (List Nr) × Nat) ⊕ Int} (h:dY t X ⟨#[44]⟩ en false j F r):∀(i0:Nat) (o:List (List Nr)) (y:List Nr),F=o++[y]→Ev X ⟨i0,0,0⟩ (y,⟨j,0,0⟩)→(∀G j',r=.inl (G,j')→en.toList.isEmpty=false→EvL B o ⟨i0,0,0⟩ (G,⟨j',0,0⟩))∧∀p,r=.inr p→bZ B o ⟨i0,0,0⟩ p:=by
 induction h using dY.ind with
 |stop h0 h1 h2=>
  intro i0 o y hF hy
  refine⟨fun G j' e _=>?_,fun p e=>by simp at e⟩
  obtain⟨rfl,rfl⟩:=Prod.mk.inj (Sum.inl.inj e)
  rw[hF]
  exact EvL.stop (H.e1 hy h2)
 |tL h0 h1=>
  intro i0 o y hF hy
  exact⟨fun G j' e h3=>by rw[h0] at h3;exact absurd h3 (by decide),fun p e=>by simp at e⟩
 |oZ h0 h1 h2=>
  intro i0 o y hF hy
  refine⟨fun G j' e _=>by simp at e,fun p e=>?_⟩
  obtain rfl:=Sum.inr.inj e
  exact bZ.here (H.e3 hy h2 h1) H.sy
 |mZ h0=>exact absurd h0 (by decide)
 |next h1 h2 h3 h4 ih=>
  intro i0 o y hF hy
  have hc:=aF h1 hne
  have hb:=H.e2 (o:=o) hy hc h1
  obtain⟨k1,k2⟩:=ih _ (o++[y]) _ (by rw[hF]) h3
  exact⟨fun G j' e hx=>EvL.on hb (k1 G j' e hx),fun p e=>bZ.on hb (k2 p e)⟩
 |aR h1 h2 h3=>
  intro i0 o y hF hy
  have hc:=aF h1 hne
  have hb:=H.e2 (o:=o) hy hc h1
  refine⟨fun G j' e _=>by simp at e,fun p e=>?_⟩
  obtain rfl:=Sum.inr.inj e
  exact bZ.on hb (bZ.here (H.e4 h3) H.sy)
theorem o7.run (H:o7 t X en B) (hne:(((⟨#[44]⟩:ByteArray).toList)==en.toList)=false) (hem:en.toList.isEmpty=false) {i:Nat} {no:Bool} {r:(List (List Nr) × Nat) ⊕ Int} (h:jk t X ⟨#[44]⟩ en no false i r) (hno:no=false∨au t i 0 0 en=false):(∀G j',r=.inl (G,j')→EvL B [] ⟨i,0,0⟩ (G,⟨j',0,0⟩))∧∀p,r=.inr p→bZ B [] ⟨i,0,0⟩ p:=by
 cases h using jk.ind with
 |empty h1 h2=>rcases hno with e|e<;>simp_all
 |some h1 h2 h3=>
  obtain⟨k1,k2⟩:=H.lp hne h3 i [] _ rfl h2
  exact⟨fun G j' e=>k1 G j' e hem,k2⟩
 |aR h1 h2=>
  refine⟨fun G j' e=>by simp at e,fun p e=>?_⟩
  obtain rfl:=Sum.inr.inj e
  exact bZ.here (H.e4 h2) H.sy
theorem o7.maybe (H:o7 t X en B) (hne:(((⟨#[44]⟩:ByteArray).toList)==en.toList)=false) (hem:en.toList.isEmpty=false) {i:Nat}:(∀F j,jk t X ⟨#[44]⟩ en true false i (.inl (F,j))→Ev (fun n=>bnd (aY t en) (fun b=>cond b (ret []) (loop (B n) n []))) ⟨i,0,0⟩ (F,⟨j,0,0⟩))∧∀p,jk t X ⟨#[44]⟩ en true false i (.inr p)→Wr (fun n=>bnd (aY t en) (fun b=>cond b (ret []) (loop (B n) n []))) ⟨i,0,0⟩ p:=by
 cases hb:au t i 0 0 en
 ·exact⟨fun F j h=>Ev.ak (dn hb) (Ev.no rfl ((H.run hne hem h (.inr hb)).1 F j rfl).ev),fun p h=>Wr.snd (dn hb) (Wr.no rfl ((H.run hne hem h (.inr hb)).2 p rfl).wr)⟩
 ·refine⟨fun F j h=>?_,fun p h=>?_⟩
  ·cases h using jk.ind with
   |empty h1 h2=>exact Ev.ak (iV hb) (Ev.yes rfl Ev.ret')
   |some h1 h2 h3=>rw[h1 rfl] at hb;exact absurd hb (by decide)
  ·cases h using jk.ind with
   |some h1 h2 h3=>rw[h1 rfl] at hb;exact absurd hb (by decide)
   |aR h1 h2=>rw[h1 rfl] at hb;exact absurd hb (by decide)
theorem o7.sm (H:o7 t X en B) (hne:(((⟨#[44]⟩:ByteArray).toList)==en.toList)=false) (hem:en.toList.isEmpty=false) {i:Nat}:(∀F j,jk t X ⟨#[44]⟩ en false false i (.inl (F,j))→Ev (fun n=>loop (B n) n []) ⟨i,0,0⟩ (F,⟨j,0,0⟩))∧∀p,jk t X ⟨#[44]⟩ en false false i (.inr p)→Wr (fun n=>loop (B n) n []) ⟨i,0,0⟩ p:=
 ⟨fun F j h=>((H.run hne hem h (.inl rfl)).1 F j rfl).ev,fun p h=>((H.run hne hem h (.inl rfl)).2 p rfl).wr⟩
theorem mH (hX:∀n,Sy (X n)):o7 t X en (fun n=>gH t (X n) en) where
 e1 h1 h2:=Ev.ak bT (Ev.yes rfl (Ev.ak h1 (Ev.ak (iV h2) (Ev.yes rfl Ev.ret'))))
 e2 h1 h2 h3:=Ev.ak bT (Ev.yes rfl (Ev.ak h1 (Ev.ak (dn h2) (Ev.no rfl (Ev.seq (bP h3) Ev.ret')))))
 e3 h1 h2 h3:=Wr.snd bT (Wr.yes rfl (Wr.snd h1 (Wr.snd (dn h2) (Wr.no rfl (Wr.sq (sF h3) (fun _=>aA))))))
 e4 h:=Wr.snd bT (Wr.yes rfl (Wr.fst h (fun _ _=>aA)))
 sy n o:=by
  unfold gH
  have:=hX n
  exact aA
end
structure vg (t:Tk) (X:Nat→GP (List Nr)) (en:ByteArray) (B:Nat→List (List Nr)→GP (Bool × List (List Nr))):Prop where
 f0:∀{i:Nat} {o},au t i 0 0 en=true→Ev (fun n=>B n o) ⟨i,0,0⟩ ((false,o),⟨i+1,0,0⟩)
 f1:∀{i j:Nat} {y:List Nr} {o},au t i 0 0 en=false→Ev X ⟨i,0,0⟩ (y,⟨j,0,0⟩)→au t j 0 0 en=true→Ev (fun n=>B n o) ⟨i,0,0⟩ ((true,o++[y]),⟨j,0,0⟩)
 f2:∀{i j:Nat} {y:List Nr} {o},au t i 0 0 en=false→Ev X ⟨i,0,0⟩ (y,⟨j,0,0⟩)→au t j 0 0 en=false→au t j 0 0 ⟨#[44]⟩=true→Ev (fun n=>B n o) ⟨i,0,0⟩ ((true,o++[y]),⟨j+1,0,0⟩)
 f3:∀{i j:Nat} {y:List Nr} {o},au t i 0 0 en=false→Ev X ⟨i,0,0⟩ (y,⟨j,0,0⟩)→au t j 0 0 en=false→au t j 0 0 ⟨#[44]⟩=false→Wr (fun n=>B n o) ⟨i,0,0⟩ (t.pos j)
 f4:∀{i:Nat} {p:Int} {o},au t i 0 0 en=false→Wr X ⟨i,0,0⟩ p→Wr (fun n=>B n o) ⟨i,0,0⟩ p
 sy:∀n o,Sy (B n o)
section
variable {t:Tk} {X:Nat→GP (List Nr)} {en:ByteArray} {B:Nat→List (List Nr)→GP (Bool × List (List Nr))}
theorem vg.lp (H:vg t X en B) (hne:(((⟨#[44]⟩:ByteArray).toList)==en.toList)=false) (o0:List (List Nr)) {j:Nat} {F:List (List Nr)} {r:(List (List Nr) × Nat) ⊕ Int} (h:dY t X ⟨#[44]⟩ en true j F r):∀(i0:Nat) (o:List (List Nr)) (y:List Nr),F=o++[y]→au t i0 0 0 en=false→Ev X ⟨i0,0,0⟩ (y,⟨j,0,0⟩)→(∀G j',r=.inl (G,j')→en.toList.isEmpty=false→EvL B (o0++o) ⟨i0,0,0⟩ (o0++G,⟨j',0,0⟩))∧∀p,r=.inr p→bZ B (o0++o) ⟨i0,0,0⟩ p:=by
 induction h using dY.ind with
 |stop h0 h1 h2=>
  intro i0 o y hF hs hy
  refine⟨fun G j' e _=>?_,fun p e=>by simp at e⟩
  obtain⟨rfl,rfl⟩:=Prod.mk.inj (Sum.inl.inj e)
  have k:=H.f1 (o:=o0++o) hs hy h2
  rw[List.append_assoc,←hF] at k
  exact EvL.on k (EvL.stop (H.f0 h2))
 |tL h0 h1=>
  intro i0 o y hF hs hy
  exact⟨fun G j' e h3=>by rw[h0] at h3;exact absurd h3 (by decide),fun p e=>by simp at e⟩
 |oZ h0 h1 h2=>
  intro i0 o y hF hs hy
  refine⟨fun G j' e _=>by simp at e,fun p e=>?_⟩
  obtain rfl:=Sum.inr.inj e
  exact bZ.here (H.f3 hs hy h2 h1) H.sy
 |mZ h0 h1 h2=>
  intro i0 o y hF hs hy
  refine⟨fun G j' e _=>?_,fun p e=>by simp at e⟩
  obtain⟨rfl,rfl⟩:=Prod.mk.inj (Sum.inl.inj e)
  have k:=H.f2 (o:=o0++o) hs hy (aF h1 hne) h1
  rw[List.append_assoc,←hF] at k
  exact EvL.on k (EvL.stop (H.f0 h2))
 |next h1 h2 h3 h4 ih=>
  intro i0 o y hF hs hy
  have k:=H.f2 (o:=o0++o) hs hy (aF h1 hne) h1
  rw[List.append_assoc] at k
  obtain⟨k1,k2⟩:=ih _ (o++[y]) _ (by rw[hF]) (h2 rfl) h3
  exact⟨fun G j' e hx=>EvL.on k (k1 G j' e hx),fun p e=>bZ.on k (k2 p e)⟩
 |aR h1 h2 h3=>
  intro i0 o y hF hs hy
  have k:=H.f2 (o:=o0++o) hs hy (aF h1 hne) h1
  refine⟨fun G j' e _=>by simp at e,fun p e=>?_⟩
  obtain rfl:=Sum.inr.inj e
  exact bZ.on k (bZ.here (H.f4 (h2 rfl) h3) H.sy)
theorem vg.run (H:vg t X en B) (hne:(((⟨#[44]⟩:ByteArray).toList)==en.toList)=false) (hem:en.toList.isEmpty=false) (o0:List (List Nr)) {i:Nat} {r:(List (List Nr) × Nat) ⊕ Int} (h:jk t X ⟨#[44]⟩ en true true i r):(∀G j',r=.inl (G,j')→EvL B o0 ⟨i,0,0⟩ (o0++G,⟨j',0,0⟩))∧∀p,r=.inr p→bZ B o0 ⟨i,0,0⟩ p:=by
 cases h using jk.ind with
 |empty h1 h2=>
  refine⟨fun G j' e=>?_,fun p e=>by simp at e⟩
  obtain⟨rfl,rfl⟩:=Prod.mk.inj (Sum.inl.inj e)
  rw[List.append_nil]
  exact EvL.stop (H.f0 h2)
 |some h1 h2 h3=>
  obtain⟨k1,k2⟩:=H.lp hne o0 h3 i [] _ rfl (h1 rfl) h2
  rw[List.append_nil] at k1 k2
  exact⟨fun G j' e=>k1 G j' e hem,k2⟩
 |aR h1 h2=>
  refine⟨fun G j' e=>by simp at e,fun p e=>?_⟩
  obtain rfl:=Sum.inr.inj e
  exact bZ.here (H.f4 (h1 rfl) h2) H.sy
end
theorem xO {fn:Func} {r:Nat} (hf:fn.results=#[.cell r 113]) {tmps:Array Value} {b:Nat} (ht:tmps.getD r undef=.pointer (some ⟨b,0,none⟩)) {W:World} {c0 c1 c2 c3:Value} (hB:W.heap[b]? =some (.cells #[c0,c1,c2,c3] 113 (0,0))):
 (results fn tmps).run Tryz.prog W=.ok (.agg #[c0,c1,c2,c3]) W:=by
 have hc:∀o,W.cell? ⟨b,o,none⟩=(#[c0,c1,c2,c3]:Array Value)[o]? :=fun o=>cell_of_row W b o _ 113 (0,0) hB
 have ht':tmps[r]?.getD undef=.pointer (some ⟨b,0,none⟩):=by simpa using ht
 simp[results,hf,ht',go_sem,hc]
theorem Av {w:World} (e:ByteArray):Calls Tryz.prog 148 #[.string e] w fun en w'=>en=.returned (.agg #[.string ⟨#[44]⟩,.string e,.bool true,.bool false])∧Below w.heap.size w w':=by
 go_enter Tryz.func148,Tryz.ntmps148
 go_wp2_with fail
 exact bodyPost_ret (xO rfl (by rfl) (heap_alloc_new w _)) rfl ⟨rfl,(Below.refl _ _).alloc (Nat.le_refl _) _⟩
theorem Ed {w:World} (e:ByteArray):Calls Tryz.prog 191 #[.string e] w fun en w'=>en=.returned (.agg #[.string ⟨#[44]⟩,.string e,.bool false,.bool false])∧Below w.heap.size w w':=by
 go_enter Tryz.func191,Tryz.ntmps191
 go_wp2_with fail
 exact bodyPost_ret (xO rfl (by rfl) (heap_alloc_new w _)) rfl ⟨rfl,(Below.refl _ _).alloc (Nat.le_refl _) _⟩
theorem Ef {w:World} (e:ByteArray):Calls Tryz.prog 137 #[.string e] w fun en w'=>en=.returned (.agg #[.string ⟨#[44]⟩,.string e,.bool true,.bool true])∧Below w.heap.size w w':=by
 go_enter Tryz.func137,Tryz.ntmps137
 go_wp2_with fail
 exact bodyPost_ret (xO rfl (by rfl) (heap_alloc_new w _)) rfl ⟨rfl,(Below.refl _ _).alloc (Nat.le_refl _) _⟩
def Eh (t:Tk) (X:GP (List Nr)) (ki p:Int) (n:Nat):GP (List Nr):=seq (dK 1) (bnd (fC t X ⟨#[41]⟩ n) (fun ks=>ret (jv ki p ks)))
theorem I4 {w:World} {rb tb i:Nat} {cap:Cp} {t:Tk} (h:Rd w rb tb cap t i 0 0) (hb:au t i 0 0 ⟨#[40]⟩=true) (ki:Int) {k:Nat} {fi ca:Array Value} {X:Nat→GP (List Nr)} (hin:fZ k) (hXs:∀n,Sy (X n)) (HX:∀{w' j},Rd w' rb tb cap t j 0 0→i<j→Calls Tryz.prog k (fi++ca) w' (aP w' rb tb cap t j True X)):
 Calls Tryz.prog 69 #[.pointer (some ⟨rb,0,none⟩),.int .i64 ki,.func (.func k) fi ca] w (aP w rb tb cap t i True (fun n=>Eh t (X n) ki (t.pos i) n)):=by
 have hl:=h.l
 have aL:=h.eP
 have HX:=@aG _ @HX
 have HB:=@aG _ @hb
 have HI:=aD hin
 have HS:=aD hXs
 clear hb hin hXs
 go_enter Tryz.func69,Tryz.ntmps69
 have q:=Mf.start h
 go_wp2_with fail
 refine(q.ne' (sz w) (aJ)).lf (dx · ki) ?_
 clear q
 intro w1 q
 have F:=q.f1
 go_wp2_with fail
 refine(q.ne' (sz w1) (nk ki (t.pos i) nl)).wy (dw · _ (ask)) HB.out ?_
 clear q F
 intro w2 q
 have F:=q.f2
 go_wp2_with fail
 refine q.lf (fun _=>Av _) ?_
 clear q F
 intro w3 q
 have F:=q.f2
 go_wp2_with fail
 refine q.li (fun hr=>oN hr (ask) (fun _=>ask) (fun _=>lit) HI.out (mH HS.out |>.maybe (lit) (lit)).1 (mH HS.out |>.maybe (lit) (lit)).2 (fun{w' j} hr' hj=>HX.out hr' (by omega))) (fun w' p hk hw=>⟨rfl,.inr (q.aR hk (Wr.o8 iJ (Wr.fst hw (fun _ _=>aA))))⟩) ?_
 clear q F
 intro w5 zY yj ng i5 V5 hl5 m5 q
 have F:=q.f2
 have IZ:=q.st.rd.lt
 have oC:=h.good.few
 have mq:ng.length≤6001:=by have:=hl5.out.2;omega
 by_cases hlen:ng.length=1
 ·obtain⟨gb,rfl,hgl,hgr,hgn,q6,p6,n6,m6,s6,ko6,kl6,kc6,rfl,hcell⟩:=q.first hlen
  obtain⟨y5,rfl⟩:=q.one rfl
  obtain⟨gn1,gn2⟩:=q.Hr hgn 0 rfl
  obtain⟨gz1,gz2⟩:=q.Hr hgn 1 rfl
  go_wp2_with fail
  go_light
  exact Mf.rt (q.fE (.slice (some ⟨gb,0,none⟩) 1 yj)).Um Tryz.results69 1 (Ev.seq iJ (Ev.ak m5 Ev.ret'))
 ·have hlen':((ng.length:Int)==1)=false:=by simp;omega
  have UE:V5.length≠1:=by rw[q.fv.len];exact hlen
  go_wp2_with fail
  go_light
  exact Mf.rt ((q.fE (.slice zY ng.length yj)).fo ki (t.pos i) 0 0 ⟨#[]⟩ (Nat.le_trans mq (by decide)) aL) Tryz.results69 1 (Ev.seq iJ (Ev.ak m5 (by rw[OE UE];exact Ev.ret')))
section
variable {w:World} {rb tb i:Nat} {cap:Cp} {t:Tk}
def bH (f N:Nat) (m:Tk→Nat→GP (List Nr)):Prop:=∀{w:World} {rb tb i:Nat} {cap:Cp} {t:Tk},Rd w rb tb cap t i 0 0→t.len - i≤N→Calls Tryz.prog f #[.pointer (some ⟨rb,0,none⟩)] w (aP w rb tb cap t i True (m t))
theorem Hw:fZ 70:=dN (f:=70) (fn:=Tryz.f70) (by kernel_rfl) (by kernel_rfl) rfl
theorem aaQ {N:Nat} (hT:bH 70 N (fun t n=>gG t n 0)) {w:World} {rb tb i:Nat} {cap:Cp} {t:Tk} (h:Rd w rb tb cap t i 0 0) (hN:t.len - i≤N+1) (hb:au t i 0 0 ⟨#[40]⟩=true):
 Calls Tryz.prog 68 #[.pointer (some ⟨rb,0,none⟩)] w (aP w rb tb cap t i True (fun n=>Eh t (gG t n 0) 15 (t.pos i) n)):=by
 have HB:=aD hb
 have hl:=h.l
 clear hb
 go_enter Tryz.func68,Tryz.ntmps68
 have q:=Mf.start h
 go_wp2_with fail
 refine(q.ne' (sz w) (aJ)).nd (fun hr=>I4 hr HB.out 15 (k:=70) (fi:=#[.pointer (some ⟨rb,0,none⟩)]) (ca:=#[]) Hw (fun n=>dM _ _ _) (fun{w' j} hr' hj=>by have hj':=hr'.lt;simpa using hT hr' (by omega))) (fun w' p hk hw=>⟨rfl,.inr ((q.ne' (sz w) (aJ)).aR hk hw)⟩) ?_
 clear q
 intro w1 x1 i1 y1 hl1 m1 q
 have F:=q.f1
 go_wp2_with fail
 go_light
 exact Mf.rt q Tryz.results68 0 m1
theorem UF:fZ 81:=dN (f:=81) (fn:=Tryz.f81) (by kernel_rfl) (by kernel_rfl) rfl
theorem aaR {N:Nat} (hT:bH 81 N (fun t n=>gG t n 1)) {w:World} {rb tb i:Nat} {cap:Cp} {t:Tk} (h:Rd w rb tb cap t i 0 0) (hN:t.len - i≤N+1) (hb:au t i 0 0 ⟨#[40]⟩=true):
 Calls Tryz.prog 80 #[.pointer (some ⟨rb,0,none⟩)] w (aP w rb tb cap t i True (fun n=>Eh t (gG t n 1) 22 (t.pos i) n)):=by
 have HB:=aD hb
 have hl:=h.l
 clear hb
 go_enter Tryz.func80,Tryz.ntmps80
 have q:=Mf.start h
 go_wp2_with fail
 refine(q.ne' (sz w) (aJ)).nd (fun hr=>I4 hr HB.out 22 (k:=81) (fi:=#[.pointer (some ⟨rb,0,none⟩)]) (ca:=#[]) UF (fun n=>dM _ _ _) (fun{w' j} hr' hj=>by have hj':=hr'.lt;simpa using hT hr' (by omega))) (fun w' p hk hw=>⟨rfl,.inr ((q.ne' (sz w) (aJ)).aR hk hw)⟩) ?_
 clear q
 intro w1 x1 i1 y1 hl1 m1 q
 have F:=q.f1
 go_wp2_with fail
 go_light
 exact Mf.rt q Tryz.results80 0 m1
theorem UG:fZ 86:=dN (f:=86) (fn:=Tryz.f86) (by kernel_rfl) (by kernel_rfl) rfl
theorem aaS {N:Nat} (hT:bH 86 N (fun t n=>gG t n 5)) {w:World} {rb tb i:Nat} {cap:Cp} {t:Tk} (h:Rd w rb tb cap t i 0 0) (hN:t.len - i≤N+1) (hb:au t i 0 0 ⟨#[40]⟩=true):
 Calls Tryz.prog 85 #[.pointer (some ⟨rb,0,none⟩)] w (aP w rb tb cap t i True (fun n=>Eh t (gG t n 5) 53 (t.pos i) n)):=by
 have HB:=aD hb
 have hl:=h.l
 clear hb
 go_enter Tryz.func85,Tryz.ntmps85
 have q:=Mf.start h
 go_wp2_with fail
 refine(q.ne' (sz w) (aJ)).nd (fun hr=>I4 hr HB.out 53 (k:=86) (fi:=#[.pointer (some ⟨rb,0,none⟩)]) (ca:=#[]) UG (fun n=>dM _ _ _) (fun{w' j} hr' hj=>by have hj':=hr'.lt;simpa using hT hr' (by omega))) (fun w' p hk hw=>⟨rfl,.inr ((q.ne' (sz w) (aJ)).aR hk hw)⟩) ?_
 clear q
 intro w1 x1 i1 y1 hl1 m1 q
 have F:=q.f1
 go_wp2_with fail
 go_light
 exact Mf.rt q Tryz.results85 0 m1
end
section
variable {w:World} {rb tb i:Nat} {cap:Cp} {t:Tk}
theorem adO {N:Nat} (hB:bH 75 N (fun t n=>gG t n 3)) {w:World} {rb tb i:Nat} {cap:Cp} {t:Tk} (h:Rd w rb tb cap t i 0 0) (hN:t.len - i≤N+1) (hb:au t i 0 0 ⟨#[108,111,111,112]⟩=true):
 Calls Tryz.prog 74 #[.pointer (some ⟨rb,0,none⟩)] w (aP w rb tb cap t i True (fun n=>seq (dK 1) (bnd (gG t n 3) (fun y=>ret (nd 37 (t.pos i) 0 0 E0 [y]))))):=by
 have hl:=h.l
 have aL:=h.eP
 have HB:=aD hb
 clear hb
 go_enter Tryz.func74,Tryz.ntmps74
 have q:=Mf.start h
 go_wp2_with fail
 refine(q.ne' (sz w) (aJ)).lf (dx · 37) ?_
 clear q
 intro w1 q
 have F:=q.f1
 go_wp2_with fail
 refine(q.ne' (sz w1) (nk 37 (t.pos i) nl)).wy (dw · _ (ask)) HB.out ?_
 clear q F
 intro w2 q
 have F:=q.f2
 go_wp2_with fail
 refine q.nd (fun hr=>hB hr (by have:=hr.lt;have:=q.go trivial;omega)) (fun w' p hk hw=>⟨rfl,.inr (q.aR hk (by exact wrt))⟩) ?_
 clear q F
 intro w3 x3 i3 y3 hl3 m3 q
 have F:=q.f2
 go_wp2_with fail
 go_light
 refine Mf.rt ((q.fE (sl (sz w3) 1)).l1 (sz w3) 37 (t.pos i) 0 0 ⟨#[]⟩ aL) Tryz.results74 1 (by exact bS) ?_
 simp[bC,World.setCell_alloc_past,F,Nat.lt_succ_of_lt]
theorem aaT {N:Nat} (hE:bH 81 N (fun t n=>gG t n 1)) (hB:bH 75 N (fun t n=>gG t n 3)) {w:World} {rb tb i:Nat} {cap:Cp} {t:Tk} (h:Rd w rb tb cap t i 0 0) (hN:t.len - i≤N+1) (hb:au t i 0 0 ⟨#[119,104,105,108,101]⟩=true):
 Calls Tryz.prog 73 #[.pointer (some ⟨rb,0,none⟩)] w (aP w rb tb cap t i True (fun n=>seq (dK 1) (bnd (gG t n 1) (fun c=>bnd (gG t n 3) (fun y=>ret (nd 36 (t.pos i) 0 0 E0 [c,y])))))):=by
 have hl:=h.l
 have aL:=h.eP
 have HB:=aD hb
 clear hb
 go_enter Tryz.func73,Tryz.ntmps73
 have q:=Mf.start h
 go_wp2_with fail
 refine(q.ne' (sz w) (aJ)).lf (dx · 36) ?_
 clear q
 intro w1 q
 have F:=q.f1
 go_wp2_with fail
 refine(q.ne' (sz w1) (nk 36 (t.pos i) nl)).wy (dw · _ (ask)) HB.out ?_
 clear q F
 intro w2 q
 have F:=q.f2
 go_wp2_with fail
 refine q.nd (fun hr=>hE hr (by have:=hr.lt;have:=q.go trivial;omega)) (fun w' p hk hw=>⟨rfl,.inr (q.aR hk (by exact wrt))⟩) ?_
 clear q F
 intro w3 x3 i3 y3 hl3 m3 q
 have F:=q.f2
 go_wp2_with fail
 refine q.nd (fun hr=>hB hr (by have:=hr.lt;have:=q.go trivial;omega)) (fun w' p hk hw=>⟨rfl,.inr (q.aR hk (by exact wrt))⟩) ?_
 clear q F
 intro w4 x4 i4 y4 hl4 m4 q
 have F:=q.f2
 go_wp2_with fail
 go_light
 refine Mf.rt (((q.swap).fE (sl (sz w4) 2)).l2 (sz w4) 36 (t.pos i) 0 0 ⟨#[]⟩ aL) Tryz.results73 1 (by exact bS) ?_
 simp[bC,World.setCell_alloc_past,F,Nat.lt_succ_of_lt]
end
section
variable {w:World} {rb tb i:Nat} {cap:Cp} {t:Tk}
def iL (t:Tk) (T:GP (List Nr)) (ki:Int) (wd:ByteArray):GP (List Nr):=bnd (dh t) (fun f=>bnd (bnd (aY t wd) (fun b=>cond b (ret (1:Int)) (ret (0:Int)))) (fun fm=>bnd (bG t) (fun fs=>seq (aM t ⟨#[58]⟩) (bnd T (fun y=>ret (nd ki f 0 fm fs [y]))))))
def tO (t:Tk) (T:GP (List Nr)) (at_:Int):GP (List Nr):=bnd (fB t 0 4) (fun b=>bnd (cond b (dW t) (ret E0)) (fun s=>bnd (jC t) (fun n=>bnd T (fun y=>ret (nd 16 at_ n 0 s [y])))))
def jF (t:Tk) (E:GP (List Nr)):GP (List Nr):=bnd (dh t) (fun q=>bnd (bG t) (fun s2=>seq (aM t ⟨#[58]⟩) (bnd (E) (fun z=>ret (nd 45 q 0 0 s2 [z])))))
def lM (t:Tk) (E Q:GP (List Nr)):GP (List Nr):=bnd (dh t) (fun q=>bnd (Q) (fun y=>seq (aM t ⟨#[61,62]⟩) (bnd (E) (fun z=>ret (nd 35 q 0 0 E0 [y,z])))))
def ni (t:Tk):GP (List Nr):=bnd (dh t) (fun p=>bnd (bnd (aY t ⟨#[38]⟩) (fun Ia=>cond (Ia) (bnd (aY t ⟨#[109,117,116]⟩) (fun b20=>cond (b20) (ret ((2:Int))) (ret ((1:Int))))) (ret ((0:Int))))) (fun n=>bnd (bG t) (fun s=>ret (nd 47 p n 0 s []))))
theorem Pk {N:Nat} (hT:bH 70 N (fun t n=>gG t n 0)) {w:World} {rb tb i:Nat} {cap:Cp} {t:Tk} (h:Rd w rb tb cap t i 0 0) (hN:t.len - i≤N+1) (ki:Int) {wd:ByteArray} (hwd:wd∈gL):
 Calls Tryz.prog 190 #[.pointer (some ⟨rb,0,none⟩),.int .i64 ki,.string wd] w (aP w rb tb cap t i True (fun n=>iL t (gG t n 0) ki wd)):=by
 have hl:=h.l
 have aL:=h.eP
 have HW:=aD hwd
 clear hwd
 go_enter Tryz.func190,Tryz.ntmps190
 have q:=Mf.start h
 go_wp2_with fail
 refine(q.ne' (sz w) (aJ)).lf (dx · ki) ?_
 clear q
 intro w1 q
 have F:=q.f1
 go_wp2_with fail
 refine(q.ne' (sz w1) (nk ki (t.pos i) nl)).et (cO · _ HW.out) ?_
 clear q F
 intro w2 b2 i2 hE2 m2 q
 have F:=q.f2
 go_wp2_with fail
 ·go_wp2_with fail
  refine(q.Cn 1).nm (kD ·) (fun w' p hk hw=>⟨rfl,.inr ((q.Cn 1).aR hk (by unfold iL;exact wrt))⟩) ?_
  clear q F
  intro w3 s3 i3 hs3 hl3 m3 q
  have F:=q.f2
  go_wp2_with fail
  refine(q.jm s3).wn (dw · _ (ask)) (fun w' hk hw=>⟨rfl,.inr ((q.jm s3).aR hk (by unfold iL;exact wrt))⟩) ?_
  clear q F
  intro w4 m4 q
  have F:=q.f2
  go_wp2_with fail
  refine q.nd (fun hr=>hT hr (by have:=hr.lt;have:=q.go trivial;omega)) (fun w' p hk hw=>⟨rfl,.inr (q.aR hk (by unfold iL;exact wrt))⟩) ?_
  clear q F
  intro w5 x5 i5 y5 hl5 m5 q
  have F:=q.f2
  go_wp2_with fail
  go_light
  refine Mf.rt ((q.fE (sl (sz w5) 1)).l1 (sz w5) ki (t.pos i) 0 1 s3 aL hs3) Tryz.results190 1 (by unfold iL;exact bS) ?_
  simp[bC,World.setCell_alloc_past,F,Nat.lt_succ_of_lt]
 ·go_wp2_with fail
  refine q.nm (kD ·) (fun w' p hk hw=>⟨rfl,.inr (q.aR hk (by unfold iL;exact wrt))⟩) ?_
  clear q F
  intro w6 s3 i3 hs3 hl3 m3 q
  have F:=q.f2
  go_wp2_with fail
  refine(q.jm s3).wn (dw · _ (ask)) (fun w' hk hw=>⟨rfl,.inr ((q.jm s3).aR hk (by unfold iL;exact wrt))⟩) ?_
  clear q F
  intro w7 m4 q
  have F:=q.f2
  go_wp2_with fail
  refine q.nd (fun hr=>hT hr (by have:=hr.lt;have:=q.go trivial;omega)) (fun w' p hk hw=>⟨rfl,.inr (q.aR hk (by unfold iL;exact wrt))⟩) ?_
  clear q F
  intro w8 x5 i5 y5 hl5 m5 q
  have F:=q.f2
  go_wp2_with fail
  go_light
  refine Mf.rt ((q.fE (sl (sz w8) 1)).l1 (sz w8) ki (t.pos i) 0 0 s3 aL hs3) Tryz.results190 1 (by unfold iL;exact bS) ?_
  simp[bC,World.setCell_alloc_past,F,Nat.lt_succ_of_lt]
theorem adP {N:Nat} (hE:bH 81 N (fun t n=>gG t n 1)) {w:World} {rb tb i:Nat} {cap:Cp} {t:Tk} (h:Rd w rb tb cap t i 0 0) (hN:t.len - i≤N+1):
 Calls Tryz.prog 156 #[.pointer (some ⟨rb,0,none⟩)] w (aP w rb tb cap t i True (fun n=>jF t (gG t n 1))):=by
 have hl:=h.l
 have aL:=h.eP
 go_enter Tryz.func156,Tryz.ntmps156
 have q:=Mf.start h
 go_wp2_with fail
 refine(q.ne' (sz w) (aJ)).lf (dx · 45) ?_
 clear q
 intro w1 q
 have F:=q.f1
 go_wp2_with fail
 refine(q.ne' (sz w1) (nk 45 (t.pos i) nl)).nm (kD ·) (fun w' p hk hw=>⟨rfl,.inr ((q.ne' (sz w1) (nk 45 (t.pos i) nl)).aR hk (by unfold jF;exact wrt))⟩) ?_
 clear q F
 intro w2 s2 i2 hs2 hl2 m2 q
 have F:=q.f2
 go_wp2_with fail
 refine(q.jm s2).wn (dw · _ (ask)) (fun w' hk hw=>⟨rfl,.inr ((q.jm s2).aR hk (by unfold jF;exact wrt))⟩) ?_
 clear q F
 intro w3 m3 q
 have F:=q.f2
 go_wp2_with fail
 refine q.nd (fun hr=>hE hr (by have:=hr.lt;have:=q.go trivial;omega)) (fun w' p hk hw=>⟨rfl,.inr (q.aR hk (by unfold jF;exact wrt))⟩) ?_
 clear q F
 intro w4 x4 i4 y4 hl4 m4 q
 have F:=q.f2
 go_wp2_with fail
 go_light
 refine Mf.rt ((q.fE (sl (sz w4) 1)).l1 (sz w4) 45 (t.pos i) 0 0 s2 aL hs2) Tryz.results156 1 (by unfold jF;exact bS) ?_
 simp[bC,World.setCell_alloc_past,F,Nat.lt_succ_of_lt]
theorem aeW {N:Nat} (hE:bH 81 N (fun t n=>gG t n 1)) (hQ:bH 86 N (fun t n=>gG t n 5)) {w:World} {rb tb i:Nat} {cap:Cp} {t:Tk} (h:Rd w rb tb cap t i 0 0) (hN:t.len - i≤N):
 Calls Tryz.prog 152 #[.pointer (some ⟨rb,0,none⟩)] w (aP w rb tb cap t i True (fun n=>lM t (gG t n 1) (gG t n 5))):=by
 have hl:=h.l
 have aL:=h.eP
 go_enter Tryz.func152,Tryz.ntmps152
 have q:=Mf.start h
 go_wp2_with fail
 refine(q.ne' (sz w) (aJ)).lf (dx · 35) ?_
 clear q
 intro w1 q
 have F:=q.f1
 go_wp2_with fail
 refine(q.ne' (sz w1) (nk 35 (t.pos i) nl)).nd (fun hr=>hQ hr hN) (fun w' p hk hw=>⟨rfl,.inr ((q.ne' (sz w1) (nk 35 (t.pos i) nl)).aR hk (by unfold lM;exact wrt))⟩) ?_
 clear q F
 intro w2 x2 i2 y2 hl2 m2 q
 have F:=q.f2
 go_wp2_with fail
 refine(q.ne' (sz w2) (x2.a)).wn (dw · _ (ask)) (fun w' hk hw=>⟨rfl,.inr ((q.ne' (sz w2) (x2.a)).aR hk (by unfold lM;exact wrt))⟩) ?_
 clear q F
 intro w3 m3 q
 have F:=q.f3
 go_wp2_with fail
 go_region_law (replace q:=q.drew;go_simp;refine q.nd (fun hr=>hE hr (by have:=hr.lt;have:=q.go trivial;omega)) (fun w' p hk hw=>⟨rfl,.inr (q.aR hk (by unfold lM;exact wrt))⟩) ?_;clear q F;intro w4 x4 i4 y4 hl4 m4 q;have F:=q.f3)
 all_goals
  go_wp2_with fail
  go_light
  refine Mf.rt (((q.swap).Uo (sl (sz w4) 2)).l2 (sz w4) 35 (t.pos i) 0 0 ⟨#[]⟩ aL) Tryz.results152 2 (by unfold lM;exact bS) ?_
  simp[bC,World.setCell_alloc_past,F,Nat.lt_succ_of_lt]
theorem aeX (h:Rd w rb tb cap t i 0 0):
 Calls Tryz.prog 199 #[.pointer (some ⟨rb,0,none⟩)] w (aP w rb tb cap t i True (fun _=>ni t)):=by
 have hl:=h.l
 have aL:=h.eP
 go_enter Tryz.func199,Tryz.ntmps199
 have q:=Mf.start h
 go_wp2_with fail
 refine(q.ne' (sz w) (aJ)).lf (dx · 47) ?_
 clear q
 intro w1 q
 have F:=q.f1
 go_wp2_with fail
 refine(q.ne' (sz w1) (nk 47 (t.pos i) nl)).et (cO · _ (ask)) ?_
 clear q F
 intro w2 b2 i2 hE2 m2 q
 have F:=q.f2
 go_wp2_with fail
 ·go_wp2_with fail
  refine(q.pV 1).et (cO · _ (ask)) ?_
  clear q F
  intro w3 b3 i3 eu m3 q
  have F:=q.f2
  go_wp2_with fail
  ·go_wp2_with fail
   refine(q.pV 2).nm (kD ·) (fun w' p hk hw=>⟨rfl,.inr ((q.pV 2).aR hk (by unfold ni;exact wrt))⟩) ?_
   clear q F
   intro w4 s4 i4 hs4 hl4 m4 q
   have F:=q.f2
   go_wp2_with fail
   go_light
   exact Mf.rt ((q.jm s4).lk 47 (t.pos i) 2 0 s4 aL hs4) Tryz.results199 1 (by unfold ni;exact bS)
  ·go_wp2_with fail
   refine q.nm (kD ·) (fun w' p hk hw=>⟨rfl,.inr (q.aR hk (by unfold ni;exact wrt))⟩) ?_
   clear q F
   intro w5 s4 i4 hs4 hl4 m4 q
   have F:=q.f2
   go_wp2_with fail
   go_light
   exact Mf.rt ((q.jm s4).lk 47 (t.pos i) 1 0 s4 aL hs4) Tryz.results199 1 (by unfold ni;exact bS)
 ·go_wp2_with fail
  refine q.nm (kD ·) (fun w' p hk hw=>⟨rfl,.inr (q.aR hk (by unfold ni;exact wrt))⟩) ?_
  clear q F
  intro w6 s4 i4 hs4 hl4 m4 q
  have F:=q.f2
  go_wp2_with fail
  go_light
  exact Mf.rt ((q.jm s4).lk 47 (t.pos i) 0 0 s4 aL hs4) Tryz.results199 1 (by unfold ni;exact bS)
end
section
variable {w:World} {rb tb i:Nat} {cap:Cp} {t:Tk}
theorem UH {N:Nat} (hT:bH 70 N (fun t n=>gG t n 0)) {w:World} {rb tb i:Nat} {cap:Cp} {t:Tk} (h:Rd w rb tb cap t i 0 0) (hN:t.len - i≤N) {at_:Int} (hat:0≤at_∧at_≤7000):
 Calls Tryz.prog 149 #[.pointer (some ⟨rb,0,none⟩),.int .i64 at_] w (aP w rb tb cap t i True (fun n=>tO t (gG t n 0) at_)):=by
 have hl:=h.l
 have aL:=h.eP
 go_enter Tryz.func149,Tryz.ntmps149
 have q:=Mf.start h
 go_wp2_with fail
 refine(q.ne' (sz w) (aJ)).sv (Ea ·) ?_
 clear q
 intro w1 s1 i1 hs1 hle1 m1 q
 have F:=q.f1
 go_wp2_with fail
 refine(q.ne' (sz w1) (ah 16 at_ 0 0 s1 nl)).et (cO · _ (ask)) ?_
 clear q F
 intro w2 b2 i2 hE2 m2 q
 have F:=q.f2
 go_wp2_with fail
 ·go_wp2_with fail
  refine(q.pV 1).nd (fun hr=>hT hr (by have:=hr.lt;have:=q.le;omega)) (fun w' p hk hw=>⟨rfl,.inr ((q.pV 1).aR hk (by unfold tO;unfold jC;exact wrt))⟩) ?_
  clear q F
  intro w3 x3 i3 y3 hl3 m3 q
  have F:=q.f2
  go_wp2_with fail
  go_light
  refine Mf.rt ((q.fE (sl (sz w3) 1)).l1 (sz w3) 16 at_ 1 0 s1 hat hs1) Tryz.results149 1 (by unfold tO;unfold jC;exact bS) ?_
  simp[bC,World.setCell_alloc_past,F,Nat.lt_succ_of_lt]
 ·go_wp2_with fail
  refine q.nd (fun hr=>hT hr (by have:=hr.lt;have:=q.le;omega)) (fun w' p hk hw=>⟨rfl,.inr (q.aR hk (by unfold tO;unfold jC;exact wrt))⟩) ?_
  clear q F
  intro w4 x3 i3 y3 hl3 m3 q
  have F:=q.f2
  go_wp2_with fail
  go_light
  refine Mf.rt ((q.fE (sl (sz w4) 1)).l1 (sz w4) 16 at_ 0 0 s1 hat hs1) Tryz.results149 1 (by unfold tO;unfold jC;exact bS) ?_
  simp[bC,World.setCell_alloc_past,F,Nat.lt_succ_of_lt]
theorem E9 {N:Nat} (hT:bH 70 N (fun t n=>gG t n 0)) {w:World} {rb tb i:Nat} {cap:Cp} {t:Tk} (h:Rd w rb tb cap t i 0 0) (hN:t.len - i≤N+1):
 Calls Tryz.prog 159 #[.pointer (some ⟨rb,0,none⟩)] w (aP w rb tb cap t i False (fun n=>dQ t (gG t n 0))):=by
 have hl:=h.l
 have aL:=h.eP
 go_enter Tryz.func159,Tryz.ntmps159
 have q:=Mf.start h
 go_wp2_with fail
 refine(q.ne' (sz w) (aJ)).et (cO · _ (ask)) ?_
 clear q
 intro w1 b1 i1 hE1 m1 q
 have F:=q.f1
 go_wp2_with fail
 ·have hlt1:=(hE1.yes ‹_›).1
  go_wp2_with fail
  refine q.nd (fun hr=>hT hr (by have:=hr.lt;omega)) (fun w' p hk hw=>⟨rfl,.inr (q.aR hk (by unfold dQ;exact wrt))⟩) ?_
  clear q F
  intro w2 x2 i2 y2 hl2 m2 q
  have F:=q.f1
  go_wp2_with fail
  go_light
  exact Mf.rt ((q.up (g':=False) (fun x=>x.elim))) Tryz.results159 0 (by unfold dQ;exact bS)
 ·obtain rfl:i=i1:=(hE1.no ‹_›).symm
  go_wp2_with fail
  refine q.lf (dx · 15) ?_
  clear q F
  intro w3 q
  have F:=q.f1
  go_wp2_with fail
  go_light
  exact Mf.rt (q.lk 15 (t.pos i) 0 0 ⟨#[]⟩ aL) Tryz.results159 0 (by unfold dQ;exact bS)
end
end Go.Proofs.YtdplogkmkgekdaaGreatDoor.Pj
