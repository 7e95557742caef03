/- What the listed variables hold, cell for cell; a call with what is laid and with the world's shape. -/
import Derived.Test.YtdplogkmkgekdaaGreatDoorRows
import Derived.Test.YtdplogkmkgekdaaGreatDoorCards
import Derived.Test.YtdplogkmkgekdaaGreatDoorTie
import Derived.Test.YtdplogkmkgekdaaGreatDoorPlq
import Derived.ProofKit
import Derived.LaidMore
import Derived.OpenShut
import Derived.Stop.Joined
import Derived.Lib.LaidTab
import Derived.Deep.Strs
import Derived.SevenTiedAt
import Derived.Lay
set_option linter.all false
set_option maxRecDepth 100000
set_option maxHeartbeats 4000000
namespace Go.Proofs.YtdplogkmkgekdaaGreatDoor
open Go.ChangeShapes Go.WideShapes Go.ChangeAt Go.WideMaps Go.WideElems Go.RowKit
open Go.ChangeMaps (open_string shut_string)
theorem afy:ownKnob Tryz.prog.godebug=none:=by kernel_rfl
theorem acY : Tryz.prog.globalNamed "holdfast/lexer.words" = some 1 := by kernel_rfl
theorem acZ:(Tryz.prog.globals[1]?).map (·.type)=some 129:=by kernel_rfl
theorem TY:Tryz.prog.cellsOf 129=29:=by kernel_rfl
theorem KO:Tryz.prog.cellsOf 9=1:=by kernel_rfl
theorem ac0 : Tryz.prog.globalNamed "holdfast/lexer.signs" = some 0 := by kernel_rfl
theorem ac1:(Tryz.prog.globals[0]?).map (·.type)=some 70:=by kernel_rfl
theorem YL:Tryz.prog.cellsOf 70=30:=by kernel_rfl
theorem ac2 : Tryz.prog.globalNamed "strconv.ErrRange" = some 5 := by kernel_rfl
theorem ac3:(Tryz.prog.globals[5]?).map (·.type)=some 88:=by kernel_rfl
theorem afz : Tryz.prog.globalNamed "holdfast/syntax.operators" = some 3 := by kernel_rfl
theorem afA:(Tryz.prog.globals[3]?).map (·.type)=some 150:=by kernel_rfl
theorem Lu:(Rows.laid_holdfast_lexer_words:DataW Unit)=.agg (sZ.map fun b=>.lit (.string b.data.toList)):=by kernel_rfl
theorem Lv:(Rows.laid_holdfast_lexer_signs:DataW Unit)=.agg (KD.map fun b=>.lit (.string b.data.toList)):=by kernel_rfl
def opsL:List (ByteArray × Int × Int):=[(⟨#[124,124]⟩,2,31),(⟨#[38,38]⟩,3,30),(⟨#[61,61]⟩,4,29),(⟨#[33,61]⟩,4,29),(⟨#[60,61]⟩,4,29),(⟨#[62,61]⟩,4,29),(⟨#[60]⟩,4,29),(⟨#[62]⟩,4,29),(⟨#[43]⟩,5,29),(⟨#[45]⟩,5,29),(⟨#[42]⟩,6,29),(⟨#[47]⟩,6,29),(⟨#[37]⟩,6,29)]
theorem Rk:(Rows.laid_holdfast_syntax_operators:DataW Unit)=.agg (opsL.map fun o=>.agg [.lit (.string o.1.data.toList),.lit (.int .i64 o.2.1),.lit (.int .i64 o.2.2)]):=by kernel_rfl
theorem Ag {H:Type} {enc:TypeId × Value→H} {P:Program} {w:World} {base:Nat} {sp:Nat→Bool} {held:Bool} {fuel:Nat} {t e:TypeId} {n:Nat} {cs:List Value} {ss:List ByteArray} {p:List MemPlace}
 (ht:P.underlying t=some (.array n e)) (he:P.underlying e=some .string) (hce:P.cellsOf e=1) (hct:P.cellsOf t=n)
 (h:DataW.trod enc P w base sp held fuel t cs=some (.agg (ss.map fun b=>.lit (.string b.data.toList)),p)):cs=ss.map Value.string:=by
 cases fuel with
 |zero=>simp[DataW.trod] at h
 |succ fuel=>
  simp only[DataW.trod,ht,hce,hct,Nat.mul_one] at h
  split at h
  ·rename_i hl
   obtain⟨xs,hm,hx⟩:=Option.map_eq_some_iff.1 h
   have hxs:xs.map (·.1)=ss.map fun b=>(DataW.lit (.string b.data.toList):DataW H):=by
    have:=congrArg Prod.fst hx
    simpa using this
   have hxl:xs.length=n:=by simpa using Lib.mapM_length hm
   have hzl:ss.length=n:=by
    have:=congrArg List.length hxs
    simp at this
    omega
   apply List.ext_getElem?
   intro i
   by_cases hi:i<n
   ·obtain⟨b,hb,hf⟩:=Lib.mapM_at hm i i (by simp[hi])
    obtain⟨z,hc,rfl,_⟩:=DataW.trod_string he hf
    have h1:cs[i]? =some (.string z):=by
     have:=congrArg (·[0]?) hc
     simpa[List.getElem?_take,List.getElem?_drop] using this
    have h2:(xs.map (·.1))[i]? =some (DataW.lit (.string z.data.toList):DataW H):=by simp[hb]
    rw[hxs] at h2
    simp only[List.getElem?_map,Option.map_eq_some_iff,DataW.lit.injEq,Lit.string.injEq] at h2
    obtain⟨z',hz',he'⟩:=h2
    have:z'=z:=by
     cases z';cases z;congr 1;exact Array.toList_inj.1 he'
    subst this
    simp[h1,hz']
   ·rw[List.getElem?_eq_none (by omega),List.getElem?_eq_none (by simp;omega)]
  ·cases h
theorem uW {P:Program} {W:World} {nm:String} {g:Nat} {cs:Array Value} (hg:P.globalNamed nm=some g) (h:W.var? P nm=some cs):∃tt fr,W.heap[g]? =some (.cells cs tt fr):=by
 simp only[World.var?,hg,Option.bind_some] at h
 split at h
 ·rename_i cs' tt fr heq
  simp only[Option.some.injEq] at h
  subst h
  exact⟨tt,fr,heq⟩
 ·cases h
theorem Rl {us:List (List Value)} (h3:∀x∈us,x.length=3):∀{idx:Nat} {x:List Value},us[idx]? =some x→∀o,o<3→us.flatten[idx*3+o]? =x[o]? :=by
 induction us with
 |nil=>intro idx x h;simp at h
 |cons y r ih=>
  intro idx x h o ho
  have hy:=h3 y (List.mem_cons_self ..)
  rw[List.flatten_cons]
  cases idx with
  |zero=>
   obtain rfl:y=x:=by simpa using h
   rw[List.getElem?_append_left (by omega)]
   congr 1
   omega
  |succ idx=>
   rw[List.getElem?_append_right (by omega),hy]
   have:=ih (fun z hz=>h3 z (List.mem_cons_of_mem _ hz)) (idx:=idx) (x:=x) (by simpa using h) o ho
   rw[←this]
   congr 1
   omega
theorem afB {us:List (List Value)} (h3:∀x∈us,x.length=3):us.flatten.length=us.length*3:=by
 induction us with
 |nil=>rfl
 |cons y r ih=>
  have hy:=h3 y (List.mem_cons_self ..)
  rw[List.flatten_cons,List.length_append,ih (fun z hz=>h3 z (List.mem_cons_of_mem _ hz)),hy,List.length_cons]
  omega
theorem KR {H:Type} {enc:TypeId × Value→H} {P:Program} {w:World} {base:Nat} {sp:Nat→Bool} {held:Bool} {fuel:Nat} {t e:TypeId} {n:Nat} {f0 f1 f2:Field} {cs:List Value} {os:List (ByteArray × Int × Int)} {p:List MemPlace}
 (ht:P.underlying t=some (.array n e)) (he:P.underlying e=some (.struct #[f0,f1,f2])) (hce:P.cellsOf e=3) (hct:P.cellsOf t=n*3)
 (o0:f0.offset=0) (o1:f1.offset=1) (o2:f2.offset=2) (t0:P.underlying f0.type=some .string) (t1:P.underlying f1.type=some (.int .i64)) (t2:P.underlying f2.type=some (.int .i64)) (c0:P.cellsOf f0.type=1) (c1:P.cellsOf f1.type=1) (c2:P.cellsOf f2.type=1)
 (h:DataW.trod enc P w base sp held fuel t cs=some (.agg (os.map fun o=>.agg [.lit (.string o.1.data.toList),.lit (.int .i64 o.2.1),.lit (.int .i64 o.2.2)]),p)):cs=(os.map fun o=>[Value.string o.1,.int .i64 o.2.1,.int .i64 o.2.2]).flatten:=by
 cases fuel with
 |zero=>simp[DataW.trod] at h
 |succ fuel=>
  simp only[DataW.trod,ht,hce,hct] at h
  split at h
  ·rename_i hl
   obtain⟨xs,hm,hx⟩:=Option.map_eq_some_iff.1 h
   have hxs:xs.map (·.1)=os.map fun o=>(DataW.agg [.lit (.string o.1.data.toList),.lit (.int .i64 o.2.1),.lit (.int .i64 o.2.2)]:DataW H):=by
    have:=congrArg Prod.fst hx
    simpa using this
   have hxl:xs.length=n:=by simpa using Lib.mapM_length hm
   have hzl:os.length=n:=by
    have:=congrArg List.length hxs
    simp at this
    omega
   have h3:∀x∈(os.map fun o=>[Value.string o.1,.int .i64 o.2.1,.int .i64 o.2.2]),x.length=3:=by
    intro x hx
    obtain⟨o,_,rfl⟩:=List.mem_map.1 hx
    rfl
   apply List.ext_getElem?
   intro j
   by_cases hj:j<n*3
   ·have hi:j/3<n:=by omega
    obtain⟨b,hb,hf⟩:=Lib.mapM_at hm (j/3) (j/3) (by simp[hi])
    obtain⟨y0,y1,y2,m,rfl,hlen,g0,g1,g2⟩:=Go.Deep.trod_struct3 he hf
    rw[o0,c0] at g0
    rw[o1,c1] at g1
    rw[o2,c2] at g2
    obtain⟨z,k0,rfl,_⟩:=DataW.trod_string t0 g0
    obtain⟨z1,k1,rfl,_⟩:=DataW.trod_int t1 g1
    obtain⟨z2,k2,rfl,_⟩:=DataW.trod_int t2 g2
    have h2:(xs.map (·.1))[j/3]? =some (DataW.agg [.lit (.string z.data.toList),.lit (.int .i64 z1),.lit (.int .i64 z2)]:DataW H):=by simp[hb]
    rw[hxs] at h2
    simp only[List.getElem?_map,Option.map_eq_some_iff,DataW.agg.injEq,List.cons.injEq,DataW.lit.injEq,Lit.string.injEq,Lit.int.injEq,true_and,and_true] at h2
    obtain⟨o,ho,e0,e1,e2⟩:=h2
    have e0':o.1=z:=by
     have:=Array.toList_inj.1 e0
     cases ho1:o.1
     cases z
     rw[ho1] at this
     congr 1
    have hu:(os.map fun o=>[Value.string o.1,.int .i64 o.2.1,.int .i64 o.2.2])[j/3]? =some [Value.string z,.int .i64 z1,.int .i64 z2]:=by
     rw[List.getElem?_map,ho,Option.map_some,e0',e1,e2]
    have hg:=Rl h3 hu (j%3) (by omega)
    rw[show j/3*3+j%3=j by omega] at hg
    rw[hg]
    have a0:cs[j/3*3]? =some (.string z):=by
     have:=congrArg (·[0]?) k0
     simpa[List.getElem?_take,List.getElem?_drop] using this
    have a1:cs[j/3*3+1]? =some (.int .i64 z1):=by
     have:=congrArg (·[0]?) k1
     simpa[List.getElem?_take,List.getElem?_drop] using this
    have a2:cs[j/3*3+2]? =some (.int .i64 z2):=by
     have:=congrArg (·[0]?) k2
     simpa[List.getElem?_take,List.getElem?_drop] using this
    have hr:j%3=0∨j%3=1∨j%3=2:=by omega
    rcases hr with hr|hr|hr
    ·rw[hr]
     exact(congrArg (fun k=>cs[k]?) (show j=j/3*3 by omega)).trans a0
    ·rw[hr]
     exact(congrArg (fun k=>cs[k]?) (show j=j/3*3+1 by omega)).trans a1
    ·rw[hr]
     exact(congrArg (fun k=>cs[k]?) (show j=j/3*3+2 by omega)).trans a2
   ·rw[List.getElem?_eq_none (by omega),List.getElem?_eq_none (by rw[afB h3,List.length_map,hzl];omega)]
  ·cases h
section
variable {H:Type} {enc:TypeId × Value→H}
theorem T9 {a:Assume} {C:Checked} {os:Os} {f:FuncId} {fn:Func} {s:ChangeSpec} {conds:List PathCond} {apart fresh handsOn again:Bool} {X:World→Array Value→Prop}
 (hX:∀(w w':World) (args:Array Value),w.heap=w'.heap→X w args→X w' args)
 (own:ownKnob C.prog.godebug=none) (started:os.Started) (noInit:C.prog.inits.idxOf? f=none) (hfn:C.prog.funcs[f]? =some fn)
 (witness:∃(w:World) (tape:Tape) (i:Input),w.os=os∧(w.forCall tape i).Shaped C.prog∧i.vars=[]∧Input.okWide C.prog (w.forCall tape i) .any w.heap.size f i∧
  ((s.pre enc C.prog fn conds apart (w.forCall tape i).memory i.args∧X (w.forCall tape i).memory i.args)∧sizedMet enc C.prog fn (OpenSpec.ofChange s) apart (w.forCall tape i).memory i.args)∧a.holds C.prog (lone (Frame.enter C.prog f i.args .normal) [] (w.forCall tape i)))
 (contract:∀(W:World) (base:Nat) (args:Array Value) (ds gs:List (DataW H)) (before:List MemPlace),
  (∀(j:Nat) t v,fn.params[j]? =some t→args[j]? =some v→Value.okWide C.prog W .any base t v)→
  DataW.Whole enc C.prog fn.params.toList s.vars apart W args.toList ds gs before→X W args→W.ShapedOpen C.prog→
  Calls C.prog f args W fun e W'=>∃v,e=.returned v∧s.post enc C.prog fn apart fresh handsOn again W args v W'):
 ReturnsInHanded a C os f .any (fun w args=>(s.pre enc C.prog fn conds apart w args∧X w args)∧sizedMet enc C.prog fn (OpenSpec.ofChange s) apart w args) (s.post enc C.prog fn apart fresh handsOn again):=by
 refine returnsInHanded_of_calls own started noInit witness ?_
 intro w tape i _ hsh _ hok hpre hholds
 obtain⟨_,_,_,fn',hfn',_,_,_,_,hval⟩:=hok
 have e:fn'=fn:=Option.some.inj (hfn'.symm.trans hfn)
 subst e
 obtain⟨⟨⟨ds,gs,before,hw,hc⟩,hx⟩,hz⟩:=hpre
 have hw':=DataW.Whole.of_heap (w':=w.forCall tape i) (by rfl) hw
 refine(contract (w.forCall tape i) w.heap.size i.args ds gs before hval hw' (hX _ _ _ (by rfl) hx) hsh).mono fun e W' ⟨v,he,hp⟩=>?_
 subst he
 exact ChangeSpec.post_blind hp
end
theorem G8 {W:World} (h:W.ShapedOpen Tryz.prog):∃m:Int,W.cell? ⟨2,0,none⟩=some (.int .i64 m):=
 cell_of_shapedOpen_int (zero:=#[.int .i64 0]) (t:=3) h (of_decide_eq_true (by kernel_rfl)) (by kernel_rfl) rfl (by kernel_rfl) (by kernel_rfl) Tryz.underlying3
end Go.Proofs.YtdplogkmkgekdaaGreatDoor
