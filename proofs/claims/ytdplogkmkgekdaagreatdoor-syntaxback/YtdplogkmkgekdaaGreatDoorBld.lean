/- For every text: what the project reads in the text and prints is read back as the same, and printed once more is the same text (SyntaxBack), on the tied card. -/
import Derived.Test.YtdplogkmkgekdaaGreatDoorBlc
import Derived.Test.YtdplogkmkgekdaaGreatDoorPlr
set_option linter.all false
set_option maxRecDepth 100000
set_option maxHeartbeats 4000000
namespace Go.Proofs.YtdplogkmkgekdaaGreatDoor
open Go.ChangeShapes Go.WideShapes Go.ChangeAt Go.WideMaps Go.WideElems Go.RowKit
open Go.ChangeMaps (open_string shut_string)
theorem Ub : Tryz.prog.globalNamed "internal/strconv.uint64pow10" = some 6 := by kernel_rfl
theorem afC:(Tryz.prog.globals[6]?).map (·.type)=some 172:=by kernel_rfl
theorem Ud:Tryz.prog.cellsOf 172=20:=by kernel_rfl
theorem Rm:Tryz.prog.cellsOf 155=1:=by kernel_rfl
theorem Rn:(Rows.laid_internal_strconv_uint64pow10:DataW Unit)=Lib.tabData .u64 Lib.pow10Tab:=by kernel_rfl
theorem Ro {W W' : World} {B : Nat} (h : Lib.TabIs Tryz.prog W "internal/strconv.uint64pow10" .u64 Lib.pow10Tab) (hb : Below B W W') (hB : 7 ≤ B) : Lib.TabIs Tryz.prog W' "internal/strconv.uint64pow10" .u64 Lib.pow10Tab := by
 unfold Lib.TabIs World.var? at h⊢
 rw[Ub] at h⊢
 simp only[Option.bind_some] at h⊢
 rw[hb.block 6 (by omega)]
 exact h
theorem Ue {W : World} (h : Lib.TabIs Tryz.prog W "internal/strconv.uint64pow10" .u64 Lib.pow10Tab) : 7 ≤ W.heap.size := by
 unfold Lib.TabIs World.var? at h
 rw[Ub] at h
 simp only[Option.bind_some] at h
 split at h
 ·rename_i heq
  have:=(Array.getElem?_eq_some_iff.1 heq).1
  omega
 ·cases h
theorem KT {W : World} (hsh : W.ShapedOpen Tryz.prog) (h : laidMetH Tryz.prog Rows.syntaxBackRow.laid W) : Pj.PG W ∧ Lib.TabIs Tryz.prog W "internal/strconv.uint64pow10" .u64 Lib.pow10Tab := by
 rw[MakeChecks.laidMetH_plain _ _ _ (by kernel_rfl)] at h
 obtain⟨ps,⟨g0,t0,cs0,f0,p0,q0,hg0,ht0,hv0,hd0,⟨g1,t1,cs1,f1,p1,q1,hg1,ht1,hv1,hd1,⟨g2,t2,cs2,f2,p2,q2,hg2,ht2,hv2,hd2,⟨g8,t8,cs8,f8,p8,q8,hg8,ht8,hv8,hd8,⟨g3,t3,cs3,f3,p3,q3,hg3,ht3,hv3,hd3,⟨g4,t4,cs4,f4,p4,q4,hg4,ht4,hv4,hd4,⟨g5,t5,cs5,f5,p5,q5,hg5,ht5,hv5,hd5,⟨g6,t6,cs6,f6,p6,q6,hg6,ht6,hv6,hd6,⟨g7,t7,cs7,f7,p7,q7,hg7,ht7,hv7,hd7,⟨g9,t9,cs9,f9,p9,q9,hg9,ht9,hv9,hd9,_,_⟩,_⟩,_⟩,_⟩,_⟩,_⟩,_⟩,_⟩,_⟩,_⟩,_,_⟩:=h
 obtain rfl:=Option.some.inj (ac2.symm.trans hg3)
 obtain rfl:=Option.some.inj (ac3.symm.trans ht3)
 obtain rfl:=Option.some.inj (acY.symm.trans hg5)
 obtain rfl:=Option.some.inj (acZ.symm.trans ht5)
 obtain rfl:=Option.some.inj (ac0.symm.trans hg6)
 obtain rfl:=Option.some.inj (ac1.symm.trans ht6)
 obtain rfl:=Option.some.inj (afz.symm.trans hg7)
 obtain rfl:=Option.some.inj (afA.symm.trans ht7)
 obtain rfl:=Option.some.inj (Ub.symm.trans hg2)
 obtain rfl:=Option.some.inj (afC.symm.trans ht2)
 rw[Lu] at hd5
 rw[Lv] at hd6
 rw[Rk] at hd7
 rw[Rn] at hd2
 have hw:=Ag Tryz.underlying129 Tryz.underlying9 KO TY hd5
 have hs:=Ag Tryz.underlying70 Tryz.underlying9 KO YL hd6
 have ho:=KR Tryz.underlying150 Tryz.underlying149 (by kernel_rfl) (by kernel_rfl) rfl rfl rfl Tryz.underlying9 Tryz.underlying3 Tryz.underlying3 KO (by kernel_rfl) (by kernel_rfl) hd7
 have ew:cs5=Bf:=Array.toList_inj.1 (by rw[hw];rfl)
 have es:cs6=vD:=Array.toList_inj.1 (by rw[hs];rfl)
 have eo:cs7=Pj.EY:=Array.toList_inj.1 (by rw[ho];rfl)
 obtain⟨tt,fr,hh5⟩:=uW hg5 hv5
 obtain⟨tt',fr',hh6⟩:=uW hg6 hv6
 obtain⟨tt7,fr7,hh7⟩:=uW hg7 hv7
 obtain⟨_,u,v,hcs,_,_⟩:=iface_of_trod Tryz.underlying88 hd3
 have hc:=World.var?_cell hg3 hv3 0
 have e3:cs3=#[.iface u v]:=by cases cs3;simp at hcs;rw[hcs]
 rw[e3] at hc
 obtain⟨t3,fr3,hh3⟩:=uW hg3 hv3
 refine⟨⟨⟨⟨tt,fr,by rw[hh5,ew]⟩,⟨.iface u v,by simpa using hc,.inr ⟨u,v,rfl⟩⟩,(Array.getElem?_eq_some_iff.1 hh3).1⟩,⟨tt',fr',by rw[hh6,es]⟩,G8 hsh,⟨tt7,fr7,by rw[hh7,eo]⟩⟩,?_⟩
 unfold Lib.TabIs
 rw[hv2,←Lib.cells_of_tab Tryz.underlying172 Tryz.underlying155 Rm Ud hd2]
theorem Lx (os:Os) (started:os.Started) (H:Type) (enc:TypeId × Value→H):
 ReturnsInHanded {} Tryz.checked os 4 .any (fun w args=>(Rows.syntaxBackSpec.pre enc Tryz.prog Tryz.f4 [] false w args∧laidMetH Tryz.prog Rows.syntaxBackRow.laid w)∧sizedMet enc Tryz.prog Tryz.f4 (OpenSpec.ofChange Rows.syntaxBackSpec) false w args)
  (Rows.syntaxBackSpec.post enc Tryz.prog Tryz.f4 false true false false):=by
 refine T9 (C:=Tryz.checked) (X:=fun w _=>laidMetH Tryz.prog Rows.syntaxBackRow.laid w) (fun _ _ _ hh h=>h.of_heap hh) afy started (by kernel_rfl) Tryz.func4
  (ChangeSpec.witness_shaped (enc:=enc) (C:=Tryz.checked) (os:=os) (X:=fun w _=>laidMetH Tryz.prog Rows.syntaxBackRow.laid w) false (World.laidAll Tryz.prog os Rows.syntaxBackRow.laid) #[.string ⟨#[]⟩] 8 (World.laidAll_os _ _ _)
   (World.shaped_of_ZipB (by kernel_rfl) (by kernel_rfl)) (by kernel_rfl) (by kernel_rfl) (by kernel_rfl)
   (by rw[MakeChecks.laidMetH_plain _ _ _ (by kernel_rfl)];exact laidMet_laidAll _ (by kernel_rfl) (by kernel_rfl))) ?_
 intro W base args ds gs before hval0 hW hL hsh
 have hval:∀(j:Nat) t v,Tryz.f4.params[j]? =some t→args[j]? =some v→Value.okWide Tryz.prog W .any base t v:=hval0
 have hW':=hW
 obtain⟨p,q,hA0,hV,rfl,hfz,hnd⟩:=hW
 have hA:DataW.TrodAll enc Tryz.prog W 0 (fun _=>true) true Tryz.f4.params.toList args.toList ds p:=hA0
 rw[Tryz.params4] at hA hval
 obtain⟨v0,d0,rfl,rfl,h0⟩:=trodAll_one hA
 obtain⟨rfl,rfl⟩:=trodVars_none hV
 obtain⟨s,rfl,rfl,rfl,hs⟩:=open_string Tryz.underlying9 (hval 0 9 v0 rfl rfl) h0
 obtain⟨hG,hT⟩:=KT hsh hL
 have hr:=Ue hT
 obtain⟨mm,hmm⟩:=G8 hsh
 have hm:Mx W.heap.size W:=⟨mm,fun W' hb=>(hb.cell (p:=⟨2,0,none⟩) (by show 2<W.heap.size;omega)).trans hmm⟩
 clear hA0 hval0
 simp only[List.append_nil] at hW'
 have e1:Rows.syntaxBackSpec.fn H ([.lit (.string s.data.toList)]++[])={results:=[.lit (.bool true)],args:=[.lit (.string s.data.toList)]}:=by simp[Rows.syntaxBackSpec]
 refine(Bk.aeF s W hs ⟨hG,fun W' hb=>Ro hT hb hr,hm⟩).mono fun e W' ⟨he,hb⟩=>?_
 subst he
 refine⟨_,rfl,_,_,_,[],[],[],hW',?_,?_,?_,hb.frame _,fun h=>by cases h⟩
 ·rw[e1];exact trodAll_mk1 (shut_bool Tryz.underlying4 true)
 ·rw[e1];exact trodAll_mk1 (shut_string Tryz.underlying9 hs)
 ·rw[e1];rfl
theorem OA:Rows.SyntaxBackSaid:=
 OpenClaim.holds_of_wide 4 Tryz.f4 rfl rfl rfl rfl rfl rfl rfl ⟨rfl,rfl,rfl,rfl,rfl⟩ rfl rfl rfl rfl rfl (by kernel_rfl) Tryz.func4 (by kernel_rfl)
  (of_decide_eq_true (by kernel_rfl)) (by unfold Func.isWrapper;rw[if_neg (of_decide_eq_false (by kernel_rfl))];exact⟨rfl,rfl⟩)
  (fun os started H enc _=>Lx os started H enc)
theorem back_card_holds:Rows.SyntaxBackCardSaid:=
 Claim7.holds_tied_plain_at .later [] [.data, .data, .data, .data, .sentinel, .sentinel, .data, .data, .data, .pinned] true (true, "b9ad3bbcfd2e407ed8c2f09c968e7c59828c24ff8b105f0eaf559a8c0a8102c8") true
  OA (fun _ h=>by cases h) (by kernel_rfl) (fun _ h=>by cases h) syntaxBack_row_tie rfl ⟨rfl,rfl⟩ (by kernel_rfl) rfl
  (fun f fn hf hfn=>by
   obtain rfl : f = 4 := Option.some.inj ((show Tryz.prog.funcNamed "holdfast/holdfastkeep.SyntaxBack" = some 4 by kernel_rfl).symm.trans hf) |>.symm
   obtain rfl:fn=Tryz.f4:=(Option.some.inj (Tryz.func4.symm.trans hfn)).symm
   exact⟨by kernel_rfl,fun j t ht=>by
    rw[Tryz.params4] at ht
    have h9:t=9:=by
     rcases j with _|j
     ·simpa using ht.symm
     ·simp at ht
    subst h9
    exact(show Tryz.prog.wantsStandIn 9=false by kernel_rfl)⟩)
  (by kernel_rfl)
#print axioms back_card_holds
end Go.Proofs.YtdplogkmkgekdaaGreatDoor
