/- The project's parser: functions, traits, impls. -/
import Derived.Test.YtdplogkmkgekdaaGreatDoorPkzre
import Derived.Test.YtdplogkmkgekdaaGreatDoorPkzo
import Derived.Test.YtdplogkmkgekdaaGreatDoorPkztc
set_option linter.all false
set_option maxRecDepth 100000
set_option maxHeartbeats 4000000
namespace Go.Proofs.YtdplogkmkgekdaaGreatDoor.Pj
open Go.RowKit
def gGensX (t:Tk) (general:Bool) (fu:Nat):GP (List Nr):=bnd (gAt t) (fun q=>cond general (gGens t true fu) (ret (nd 9 q 0 0 E0 [])))
def gHead2 (t:Tk) (T:GP (List Nr)) (general:Bool) (fu:Nat):GP (Int × ByteArray × List (List Nr) × Int):=bnd (gAt t) (fun p=>seq (gWant t ⟨#[102,110]⟩) (bnd (gName t) (fun s=>bnd (gGensX t general fu) (fun g=>bnd (gParams t T fu) (fun ps=>bnd (gResult t T) (fun y=>ret (p,s,g::(ps++[y]),(ps.length:Int))))))))
section
variable {t:Tk} {T B:GP (List Nr)} {fu:Nat} {p m:Int} {general:Bool}
theorem head_is:gHead t T general fu=gHead2 t T general fu:=by
 unfold gHead gHead2 gGensX
 simp only[bnd_assoc]
end
def gSig (t:Tk) (T:GP (List Nr)) (general:Bool) (fu:Nat):GP (List Nr):=bnd (gHead t T general fu) (fun h=>ret (nd 8 h.1 h.2.2.2 0 h.2.1 h.2.2.1))
def gFun (t:Tk) (T B:GP (List Nr)) (general:Bool) (fu:Nat):GP (List Nr):=bnd (gHead t T general fu) (fun h=>bnd B (fun z=>ret (nd 8 h.1 h.2.2.2 0 h.2.1 (h.2.2.1++[z]))))
def gTrait (t:Tk) (T:GP (List Nr)) (p m:Int) (fu:Nat):GP (List Nr):=bnd (gName t) (fun s=>seq (gWant t ⟨#[123]⟩) (bnd (loop (gItemB t T fu) fu []) (fun r=>ret (nd 6 p 0 m s r))))
def setPM (p m:Int) (y:List Nr):List Nr:=match y with
 |[]=>[]
 |z::r=>{z with p:=p,m:=m}::r
theorem setPM_nd {p m k p0 n m0:Int} {s:ByteArray} {ks:List (List Nr)}:setPM p m (nd k p0 n m0 s ks)=nd k p n m s ks:=rfl
theorem at_skip {α:Type} {t:Tk} {X:GP α}:bnd (gAt t) (fun _=>X)=X:=rfl
def gItemX (t:Tk) (T B:GP (List Nr)) (fu:Nat):GP (List Nr):=bnd (gAt t) (fun p=>bnd (gEat t ⟨#[115,116,114,117,99,116]⟩) (fun b69=>cond b69 (gStruct t T p 0 fu) (bnd (gEat t ⟨#[101,110,117,109]⟩) (fun b68=>cond b68 (gEnum t T p 0 fu) (bnd (gEat t ⟨#[116,114,97,105,116]⟩) (fun b67=>cond b67 (gTrait t T p 0 fu) (gFun t T B true fu)))))))
def gItem2 (t:Tk) (T B:GP (List Nr)) (fu:Nat):GP (List Nr):=bnd (gAt t) (fun p=>bnd (gIs t 0 ⟨#[105,109,112,108]⟩) (fun b70=>cond b70 (gImpl t T B fu) (bnd (bnd (gEat t ⟨#[112,117,98]⟩) (fun b55=>cond b55 (ret ((1:Int))) (ret ((0:Int))))) (fun m1=>bnd (gIs t 0 ⟨#[99,111,112,121]⟩) (fun c0=>bnd (gIs t 1 ⟨#[115,116,114,117,99,116]⟩) (fun c1=>bnd (gIs t 1 ⟨#[101,110,117,109]⟩) (fun c2=>bnd (cond (c0&&(c1||c2)) (seq (gAdd 1) (ret (m1+2))) (ret m1)) (fun m=>bnd (gItemX t T B fu) (fun y=>ret (setPM p m y))))))))))
section
variable {t:Tk} {T B:GP (List Nr)} {fu:Nat} {p p0 m m0:Int}
theorem struct_pm:bnd (gStruct t T p0 m0 fu) (fun y=>ret (setPM p m y))=gStruct t T p m fu:=by
 unfold gStruct seq
 simp only[bnd_assoc,ret_bnd,setPM_nd]
theorem enum_pm:bnd (gEnum t T p0 m0 fu) (fun y=>ret (setPM p m y))=gEnum t T p m fu:=by
 unfold gEnum seq
 simp only[bnd_assoc,ret_bnd,setPM_nd]
theorem trait_pm:bnd (gTrait t T p0 m0 fu) (fun y=>ret (setPM p m y))=gTrait t T p m fu:=by
 unfold gTrait seq
 simp only[bnd_assoc,ret_bnd,setPM_nd]
theorem fun_pm:bnd (gFun t T B true fu) (fun y=>ret (setPM p m y))=bnd (gHead t T true fu) (fun h=>bnd B (fun z=>ret (nd 8 p h.2.2.2 m h.2.1 (h.2.2.1++[z])))):=by
 unfold gFun
 simp only[bnd_assoc,ret_bnd,setPM_nd]
theorem itemX_pm:bnd (gItemX t T B fu) (fun y=>ret (setPM p m y))=bnd (gEat t ⟨#[115,116,114,117,99,116]⟩) (fun b69=>cond b69 (gStruct t T p m fu) (bnd (gEat t ⟨#[101,110,117,109]⟩) (fun b68=>cond b68 (gEnum t T p m fu) (bnd (gEat t ⟨#[116,114,97,105,116]⟩) (fun b67=>cond b67 (gTrait t T p m fu) (bnd (gHead t T true fu) (fun h=>bnd B (fun z=>ret (nd 8 p h.2.2.2 m h.2.1 (h.2.2.1++[z])))))))))):=by
 unfold gItemX
 simp only[bnd_assoc,cond_bnd,struct_pm,enum_pm,trait_pm,fun_pm,at_skip]
theorem item_is:gItem t T B fu=gItem2 t T B fu:=by
 unfold gItem gItem2
 simp only[itemX_pm]
 rfl
end
theorem st_gGensX {t:Tk} {b:Bool} {n:Nat}:Sy (gGensX t b n):=by
 unfold gGensX
 exact syt
theorem st_gSig {t:Tk} {T:GP (List Nr)} {b:Bool} {n:Nat} (h:Sy T):Sy (gSig t T b n):=by
 unfold gSig
 exact syt
theorem st_gFun {t:Tk} {T B:GP (List Nr)} {b:Bool} {n:Nat} (h:Sy T) (h2:Sy B):Sy (gFun t T B b n):=by
 unfold gFun
 exact syt
theorem Fl.pm {w:World} {k p n m p2 m2:Int} {s:ByteArray} {v:Value} {y:List Nr} (h:Fl w [(nodeC k p n m s v).toList] [y]):Fl w [(nodeC k p2 n m2 s v).toList] [setPM p2 m2 y]:=by
 obtain⟨a,ha⟩:=h
 refine⟨a+1,fun f hf=>?_⟩
 obtain⟨f,rfl⟩:∃m,f=m+1:=⟨f - 1,by omega⟩
 have:=ha (f+1) (by omega)
 simp only[List.map_cons,List.map_nil,List.cons.injEq,and_true] at this⊢
 rw[←this]
 rfl
theorem rowR {w w':World} {rb tb i i':Nat} {cap:Cp} {t:Tk} {must:Prop} {ki po n m:Int} {na:ByteArray} {mm:Nat→GP (List Nr)} {ao:Option Addr} {cp:Nat} {vs:List (List Value)} {F:List (List Nr)} (h:Rd w rb tb cap t i 0 0) (hx:Nx w rb tb cap t i 0 must w' i' 0 0) (hK:Kids w.heap.size False w' (.slice ao vs.length cp) vs) (hF:Fl w' vs F) (hl:vs.length≤20000) (hp:0≤po∧po≤7000) (hn:na.size≤20000) (hm:Ev mm ⟨i,0,0⟩ (nd ki po n m na F,⟨i',0,0⟩)):NodeR w rb tb cap t i must mm (.returned (.agg (nodeC ki po n m na (.slice ao vs.length cp)))) w':=by
 have q:=((Mf.start h).list hx hK hF).fo ki po n m na hl hp hn
 obtain⟨h,ha⟩:=q.z.all
 exact⟨ki,po,n,m,na,ao,vs.length,cp,i',rfl,hx,⟨h,isNode.weaken (fun b hb=>hb.1) (fun x=>x) _ _ (ha _ (.inr (List.mem_cons_self ..)))⟩,_,q.fT,hm⟩
theorem Mf.rtk {w W:World} {rb tb i j:Nat} {cap:Cp} {t:Tk} {g:Prop} {L:List (Nat × Array Value)} {T:List (List Value)} {kv:Value} {vs:List (List Value)} {X V:List (List Nr)} {fn:Func} {r:Nat} {act:Act} {ki po n m:Int} {na:ByteArray} {Q:Ending→World→Prop} (q:Mf w rb tb cap t i g W j L T kv vs X V) (hf:fn.results=#[.cell r 28]) (N:Nat) (hQ:∀w',Nx w rb tb cap t i 0 g w' j 0 0→Kids w.heap.size False w' kv vs→Fl w' vs V→Q (.returned (.agg (nodeC ki po n m na kv))) w') {wf:World} {b:Nat} (he:wf=Go.Proofs.YtdplogkmkgekdaaGreatDoor.set11 W b (.int .i64 ki) (.int .i64 po) (.int .i64 n) (.int .i64 m) (.string na) kv (.int .i64 0) (.int .i64 0) nl nl nl:=by rfl) (hd:act.defers=[]:=by rfl) (ht:act.tmps.getD r undef=.pointer (some ⟨b,0,none⟩):=by rfl) (hz:L[N]? =some (b,zeroC):=by rfl):bodyPost Tryz.prog fn Q .ret act wf:=by
 subst he
 have q1:=q.put11 N hz (.int .i64 ki) (.int .i64 po) (.int .i64 n) (.int .i64 m) (.string na) kv (.int .i64 0) (.int .i64 0) nl nl nl
 have hB:Blk _ b _:=(q1.z.blk N (b,_) (by rw[List.getElem?_set,if_pos rfl,if_pos (List.getElem?_eq_some_iff.1 hz).1])).2
 exact bodyPost_ret (results_node hf ht hB) hd (hQ _ ⟨q1.st.rd,q1.st.kp,q1.le,fun e=>e,fun mu _=>q1.go mu⟩ q1.z.kids q1.fv)
theorem kids_low {B:Nat} {G:Prop} {W:World} {kv:Value} {vs:List (List Value)} (hK:Kids B G W kv vs) {b o:Nat} {u:Value} (hb:b<B):Kids B G (W.setCell ⟨b,o,none⟩ u) kv vs:=by
 obtain⟨row,h,ha⟩:=hK
 have e:∀c,B≤c→(W.setCell ⟨b,o,none⟩ u).heap[c]? =W.heap[c]? :=fun c hc=>Below.heap_setCell _ _ _ _ (by show c≠b;omega)
 exact⟨ownsRow_same row (fun c hc _=>e c (row.lt c hc).1),h,fun x hx=>isNode.frame (fun c hc _=>e c hc.1) _ _ (ha x hx)⟩
def SigR (w:World) (rb tb:Nat) (cap:Cp) (t:Tk) (i:Nat) (b:Bool) (e:Ending) (w':World):Prop:=
 ∃(n:Int) (s:ByteArray) (ao:Option Addr) (cp:Nat) (vs:List (List Value)) (i':Nat),e=.returned (.agg (nodeC 8 (t.pos i) n 0 s (.slice ao vs.length cp)))∧Nx w rb tb cap t i 0 True w' i' 0 0∧Kids w.heap.size False w' (.slice ao vs.length cp) vs∧vs.length≤6010∧s.size≤20000∧∃F,Fl w' vs F∧Ev (fun n=>gHead t (gG t n 0) b n) ⟨i,0,0⟩ (((t.pos i:Int),s,F,n),⟨i',0,0⟩)
def SigP (w:World) (rb tb:Nat) (cap:Cp) (t:Tk) (i:Nat) (b:Bool) (e:Ending) (w':World):Prop:=SigR w rb tb cap t i b e w'∨ThrP w rb ⟨i,0,0⟩ (fun n=>gHead t (gG t n 0) b n) e w'
theorem SigP.node {w w':World} {rb tb i:Nat} {cap:Cp} {t:Tk} {b:Bool} {e:Ending} (h:Rd w rb tb cap t i 0 0) (p:SigP w rb tb cap t i b e w'):NodeP w rb tb cap t i True (fun n=>gSig t (gG t n 0) b n) e w':=by
 rcases p with⟨n,s,ao,cp,vs,i',rfl,hx,hK,hl,hs,F,hF,hm⟩|⟨p,he,hk,hw⟩
 ·exact .inl (rowR h hx hK hF (by omega) (by have:=h.good.posb i;omega) hs (Ev.bnd' hm Ev.ret'))
 ·exact .inr ⟨p,he,hk,Wr.fst hw (fun _ _=>Sy.ret)⟩
theorem Mf.sg {w W:World} {rb tb i j:Nat} {cap:Cp} {t:Tk} {g:Prop} {L:List (Nat × Array Value)} {T:List (List Value)} {X V:List (List Nr)} {f:Nat} {args:Array Value} {Q:Ending→World→Prop} {b:Bool} (q:Mf w rb tb cap t i g W j L T nl [] X V) (h:Rd W rb tb cap t j 0 0→Calls Tryz.prog f args W (SigP W rb tb cap t j b)) (KB:∀w' p,Kp W.heap.size rb W w'→Wr (fun n=>gHead t (gG t n 0) b n) ⟨j,0,0⟩ (p:Nat)→Q (throwE p) w') (K:∀w' n s ao cp vs' i' F,s.size≤20000→Hid (j<i'∧vs'.length≤6010)→Ev (fun n=>gHead t (gG t n 0) b n) ⟨j,0,0⟩ (((t.pos j:Int),s,F,n),⟨i',0,0⟩)→Mf w rb tb cap t i True w' i' L T (.slice ao vs'.length cp) vs' X F→Q (.returned (.agg (nodeC 8 (t.pos j) n 0 s (.slice ao vs'.length cp)))) w'):Calls Tryz.prog f args W Q:=(h q.st.rd).mono fun e w' p=>by
 rcases p with⟨n,s,ao,cp,vs',i',rfl,hx,hK,hl,hs,F,hF,hm⟩|⟨p,rfl,hk,hw⟩
 ·exact K w' n s ao cp vs' i' F hs ⟨hx.go trivial rfl,hl⟩ hm ((q.list hx hK hF).up (fun _=>Nat.lt_of_le_of_lt q.le (hx.go trivial rfl)))
 ·exact KB w' p hk hw
theorem ein141:Ein 141:=ein_of (f:=141) (fn:=Tryz.f141) (by kernel_rfl) (by kernel_rfl) rfl
theorem ein143:Ein 143:=ein_of (f:=143) (fn:=Tryz.f143) (by kernel_rfl) (by kernel_rfl) rfl
theorem gensX0 {w:World} {rb tb i:Nat} {cap:Cp} {t:Tk} (h:Rd w rb tb cap t i 0 0):Calls Tryz.prog 141 #[.pointer (some ⟨rb,0,none⟩)] w (NodeP w rb tb cap t i False (fun n=>gGensX t false n)):=noGensP h
theorem gensX1 {w:World} {rb tb i:Nat} {cap:Cp} {t:Tk} (h:Rd w rb tb cap t i 0 0):Calls Tryz.prog 143 #[.pointer (some ⟨rb,0,none⟩)] w (NodeP w rb tb cap t i False (fun n=>gGensX t true n)):=(boundGensP h).mono fun e w' p=>p.to (fun r hr=>Ev.bnd' ev_at hr) (fun p hw=>Wr.snd ev_at hw)
theorem signatureP {N:Nat} (hT:rdP 70 N (fun t n=>gG t n 0)) {w:World} {rb tb i:Nat} {cap:Cp} {t:Tk} (h:Rd w rb tb cap t i 0 0) (hN:t.len - i≤N+1) {kG:Nat} {fiG caG:Array Value} {b:Bool} (hiG:Ein kG) (HG:∀{w' j},Rd w' rb tb cap t j 0 0→Calls Tryz.prog kG (fiG++caG) w' (NodeP w' rb tb cap t j False (fun n=>gGensX t b n))):
 Calls Tryz.prog 140 #[.pointer (some ⟨rb,0,none⟩),.func (.func kG) fiG caG] w (SigP w rb tb cap t i b):=by
 have hl:=h.l
 have hposI:(0:Int)≤(t.pos i:Int)∧(t.pos i:Int)≤7000:=by have:=h.good.posb i;omega
 have HHG:Hid (∀{w' j},Rd w' rb tb cap t j 0 0→Calls Tryz.prog kG (fiG++caG) w' (NodeP w' rb tb cap t j False (fun n=>gGensX t b n))):=HG
 have hin:=hiG
 unfold Ein at hin
 clear HG hiG
 go_enter Tryz.func140,Tryz.ntmps140
 have q:=Mf.start h
 go_wp2_with fail
 refine(q.ne' (sz w) (zeroC)).lf (nodeP · 8) ?_
 clear q
 intro w1 q
 have F:=q.f1
 go_wp2_with fail
 refine(q.ne' (sz w1) (nk 8 (t.pos i) nl)).wn (mustP · _ (ask)) (fun w' hk hw=>⟨rfl,.inr ((q.ne' (sz w1) (nk 8 (t.pos i) nl)).thr hk (by rw[show(fun n=>gHead t (gG t n 0) b n)=(fun n=>gHead2 t (gG t n 0) b n) from funext fun n=>head_is];unfold gHead2 gGensX;exact wrt))⟩) ?_
 clear q F
 intro w2 m2 q
 have F:=q.f2
 go_wp2_with fail
 refine q.nm (nameP2 ·) (fun w' p hk hw=>⟨rfl,.inr (q.thr hk (by rw[show(fun n=>gHead t (gG t n 0) b n)=(fun n=>gHead2 t (gG t n 0) b n) from funext fun n=>head_is];unfold gHead2 gGensX;exact wrt))⟩) ?_
 clear q F
 intro w3 s3 i3 hs3 hl3 m3 q
 have F:=q.f2
 have HTA4:Hid (∀p,Wr (fun n=>gGensX t b n) ⟨i3,0,0⟩ p→Wr (fun n=>gHead t (gG t n 0) b n) ⟨i,0,0⟩ p):=fun p hw=>(by rw[show(fun n=>gHead t (gG t n 0) b n)=(fun n=>gHead2 t (gG t n 0) b n) from funext fun n=>head_is];unfold gHead2;exact wrt)
 go_upto_region 4 with fail
 go_cut [] (fun wx=>∃(i4:Nat) (y4:List Nr) (v:Value) (vs:List (List Value)),Ev (fun n=>gGensX t b n) ⟨i3,0,0⟩ (y4,⟨i4,0,0⟩)∧Hid (vs.length=1)∧Mf w rb tb cap t i True wx i4 [(sz w1,nodeC 8 (t.pos i) 0 0 s3 v),(sz w,zeroC)] [] v vs [] [y4])
 case first=>
  go_wp2_with fail
  go_region_law (first|(refine q.as (sz w4) (by simp) ?_;clear q F;intro w5 ao4 cp4 q;have F:=q.f2)|(replace q:=(q.p04 s3).drew;go_simp;refine q.nn (fun hr=>HHG.out hr) (fun w' p hk hw=>⟨rfl,.inr (q.thr hk (HTA4.out _ hw))⟩) ?_;clear q F;intro w4 x4 i4 y4 hl4 m4 q;have F:=q.f2))
  all_goals
   go_wp2_with fail
   go_meet
   exact⟨i4,y4,_,_,m4,(by simp:_=_),q.p05 (.slice ao4 (0+1) cp4)⟩
 case rest=>
  clear F q
  obtain⟨i4,y4,v,vs,m4,HV1,q⟩:=hcut
  obtain⟨w5,hw⟩:∃x,x=wc:=⟨_,rfl⟩
  subst hw
  obtain⟨ao4,cp4,rfl⟩:=q.shape
  have F:=q.f2
  have HW1:Hid (sz w1<sz w5):=F.1.2.2.1
  go_wp2_with fail
  refine q.lh (fun hr=>paramsP hT hr (by have:=hr.lt;have:=q.go trivial;omega)) (fun w' p hk hw=>⟨rfl,.inr (q.thr hk (by rw[show(fun n=>gHead t (gG t n 0) b n)=(fun n=>gHead2 t (gG t n 0) b n) from funext fun n=>head_is];unfold gHead2;exact wrt))⟩) ?_
  clear q F
  intro w6 ao5 cp5 vs5 i5 V5 hl5 hV5 hK5 m5 q
  have F:=q.f2
  have hl7:vs5.length≤6001:=by have:=hl5.out.2.1;have:=q.st.rd.lt;have:=h.good.few;omega
  have HL7:=Hid_nx hl7
  have HL8:Hid ((vs++vs5).length≤6005):=by show(vs++vs5).length≤6005;have:=HV1.out;rw[List.length_append];omega
  have HTB:Hid (∀p,Wr (fun n=>gResult t (gG t n 0)) ⟨i5,0,0⟩ p→Wr (fun n=>gHead t (gG t n 0) b n) ⟨i,0,0⟩ p):=fun p hw=>(by rw[show(fun n=>gHead t (gG t n 0) b n)=(fun n=>gHead2 t (gG t n 0) b n) from funext fun n=>head_is];unfold gHead2;exact wrt)
  go_wp2_with (at_builtin;refine Mf.apl (q.p02 (vs5.length:Int)) hV5 (kids_low hK5.out (by simpa using HW1.out)) (by have:=HV1.out;omega) (Nat.le_trans HL7.out (by decide)) ?_;clear q F hK5;intro w7 ao6 cp6 q;have F:=q.f2)
  go_region_law (first|(refine q.as (sz w8) (Nat.le_trans HL8.out (by decide)) ?_;clear q F;intro w9 ao9 cp9 q;have F:=q.f2)|(replace q:=(q.p05 (.slice ao6 (vs.length+vs5.length) cp6)).drew;go_simp;refine q.nn (fun hr=>resultP hT hr (by have:=hr.lt;have:=q.go trivial;omega)) (fun w' p hk hw=>⟨rfl,.inr (q.thr hk (HTB.out _ hw))⟩) ?_;clear q F;intro w8 x8 i8 y8 hl8 m8 q;have F:=q.f2))
  all_goals
   have hVl:V5.length=vs5.length:=hV5.out
   have mm:Ev (fun n=>gHead t (gG t n 0) b n) ⟨i,0,0⟩ (((t.pos i:Int),s3,y4::(V5++[y8]),(V5.length:Int)),⟨i8,0,0⟩):=by rw[show(fun n=>gHead t (gG t n 0) b n)=(fun n=>gHead2 t (gG t n 0) b n) from funext fun n=>head_is];unfold gHead2;exact evt
   have MM:Hid (Ev (fun n=>gHead t (gG t n 0) b n) ⟨i,0,0⟩ (((t.pos i:Int),s3,[y4]++V5++[y8],(vs5.length:Int)),⟨i8,0,0⟩)):=by show Ev _ _ _;rw[←hVl];exact mm
   clear mm m2 m3 m4 m5 m8
   go_wp2_with fail
   go_light
   have HLN:(vs++vs5++[x8.t]).length=vs.length+vs5.length+1:=by simp;omega
   have HLM:vs.length+vs5.length+1≤6010:=by have:=HL8.out;rw[List.length_append] at this;omega
   exact Mf.rtk (q.p05 (.slice ao9 (vs.length+vs5.length+1) cp9)) Tryz.results140 1 (fun w' hx hK hF=>.inl ⟨_,s3,ao9,cp9,vs++vs5++[x8.t],i8,by rw[HLN],hx,by rw[HLN];exact hK,by rw[HLN];exact HLM,hs3,_,hF,MM.out⟩)
end Go.Proofs.YtdplogkmkgekdaaGreatDoor.Pj
namespace Go.Proofs.YtdplogkmkgekdaaGreatDoor.Pj
open Go.RowKit
theorem functionP {N:Nat} (hT:rdP 70 N (fun t n=>gG t n 0)) (hB:rdP 75 N (fun t n=>gG t n 3)) {w:World} {rb tb i:Nat} {cap:Cp} {t:Tk} (h:Rd w rb tb cap t i 0 0) (hN:t.len - i≤N+1) {kG:Nat} {fiG caG:Array Value} {b:Bool} (hiG:Ein kG) (HG:∀{w' j},Rd w' rb tb cap t j 0 0→Calls Tryz.prog kG (fiG++caG) w' (NodeP w' rb tb cap t j False (fun n=>gGensX t b n))):
 Calls Tryz.prog 142 #[.pointer (some ⟨rb,0,none⟩),.func (.func kG) fiG caG] w (NodeP w rb tb cap t i True (fun n=>gFun t (gG t n 0) (gG t n 3) b n)):=by
 have hl:=h.l
 have hposI:(0:Int)≤(t.pos i:Int)∧(t.pos i:Int)≤7000:=by have:=h.good.posb i;omega
 have HHG:Hid (∀{w' j},Rd w' rb tb cap t j 0 0→Calls Tryz.prog kG (fiG++caG) w' (NodeP w' rb tb cap t j False (fun n=>gGensX t b n))):=HG
 have HIG:=Hid_nx hiG
 clear HG hiG
 go_enter Tryz.func142,Tryz.ntmps142
 have q:=Mf.start h
 go_wp2_with fail
 refine(q.ne' (sz w) (zeroC)).sg (fun hr=>signatureP hT hr hN HIG.out HHG.out) (fun w' p hk hw=>⟨rfl,.inr ((q.ne' (sz w) (zeroC)).thr hk (Wr.fst hw (fun _ _=>syt)))⟩) ?_
 clear q
 intro w1 n1 s1 ao1 cp1 vs1 i1 V1 hs1 hl1 m1 q
 have F:=q.f1
 have HL:=Hid_nx hl1.out.2
 go_wp2_with fail
 go_region_law (first|(refine q.as (sz w2) (Nat.le_trans HL.out (by decide)) ?_;clear q F;intro w3 ao2 cp2 q;have F:=q.f2)|(replace q:=(q.ne' (sz w1) (nodeC 8 (t.pos i) n1 0 s1 (.slice ao1 vs1.length cp1))).drew;go_simp;refine q.nd (fun hr=>hB hr (by have:=hr.lt;have:=q.go trivial;omega)) (fun w' p hk hw=>⟨rfl,.inr (q.thr hk (Wr.snd m1 (Wr.fst hw (fun _ _=>Sy.ret))))⟩) ?_;clear q F;intro w2 x2 i2 y2 hl2 m2 q;have F:=q.f2))
 all_goals
  go_wp2_with fail
  go_light
  exact Mf.rt ((q.p05 (.slice ao2 (vs1.length+1) cp2)).fo 8 (t.pos i) n1 0 s1 (by have:=HL.out;simp;omega) hposI hs1) Tryz.results142 1 (Ev.bnd' m1 (Ev.bnd' (f:=fun _ z=>ret (nd 8 (t.pos i) n1 0 s1 (V1++[z]))) m2 Ev.ret'))
theorem fnItemP {N:Nat} (hT:rdP 70 N (fun t n=>gG t n 0)) (hB:rdP 75 N (fun t n=>gG t n 3)) {w:World} {rb tb i:Nat} {cap:Cp} {t:Tk} (h:Rd w rb tb cap t i 0 0) (hN:t.len - i≤N+1):
 Calls Tryz.prog 64 #[.pointer (some ⟨rb,0,none⟩)] w (NodeP w rb tb cap t i True (fun n=>gFun t (gG t n 0) (gG t n 3) true n)):=by
 have hl:=h.l
 go_enter Tryz.func64,Tryz.ntmps64
 have q:=Mf.start h
 go_wp2_with fail
 refine(q.ne' (sz w) (zeroC)).nd (fun hr=>functionP hT hB hr hN (fiG:=#[.pointer (some ⟨rb,0,none⟩)]) (caG:=#[]) ein143 (fun{w' j} hr'=>by simpa using gensX1 hr')) (fun w' p hk hw=>⟨rfl,.inr ((q.ne' (sz w) (zeroC)).thr hk hw)⟩) ?_
 clear q
 intro w1 x1 i1 y1 hl1 m1 q
 have F:=q.f1
 go_wp2_with fail
 go_light
 exact Mf.rt q Tryz.results64 0 m1
theorem traitP {N:Nat} (hT:rdP 70 N (fun t n=>gG t n 0)) {w:World} {rb tb i:Nat} {cap:Cp} {t:Tk} (h:Rd w rb tb cap t i 0 0) (hN:t.len - i≤N+1) (hb:isB t i 0 0 ⟨#[116,114,97,105,116]⟩=true):
 Calls Tryz.prog 63 #[.pointer (some ⟨rb,0,none⟩)] w (NodeP w rb tb cap t i True (fun n=>seq (gAdd 1) (gTrait t (gG t n 0) (t.pos i) 0 n))):=by
 have hl:=h.l
 have hposI:(0:Int)≤(t.pos i:Int)∧(t.pos i:Int)≤7000:=by have:=h.good.posb i;omega
 have HB:=Hid_nx hb
 clear hb
 have HS:Hid (∀n x,Sy (gItemB t (gG t n 0) n x)):=fun n x=>by unfold gItemB;exact syt
 go_enter Tryz.func63,Tryz.ntmps63
 have q:=Mf.start h
 go_wp2_with fail
 refine(q.ne' (sz w) (zeroC)).lf (nodeP · 6) ?_
 clear q
 intro w1 q
 have F:=q.f1
 go_wp2_with fail
 refine(q.ne' (sz w1) (nk 6 (t.pos i) nl)).wy (mustP · _ (ask)) HB.out ?_
 clear q F
 intro w2 q
 have F:=q.f2
 go_wp2_with fail
 refine q.nm (nameP2 ·) (fun w' p hk hw=>⟨rfl,.inr (q.thr hk (by unfold gTrait gItemB;exact wrt))⟩) ?_
 clear q F
 intro w3 s3 i3 hs3 hl3 m3 q
 have F:=q.f2
 go_wp2_with fail
 refine(q.p04 s3).wn (mustP · _ (ask)) (fun w' hk hw=>⟨rfl,.inr ((q.p04 s3).thr hk (by unfold gTrait gItemB;exact wrt))⟩) ?_
 clear q F
 intro w4 m4 q
 have F:=q.f2
 have HE:Hid (∀r,EvL (fun n=>gItemB t (gG t n 0) n) [] ⟨i3+1,0,0⟩ r→Ev (fun n=>seq (gAdd 1) (gTrait t (gG t n 0) (t.pos i) 0 n)) ⟨i,0,0⟩ (nd 6 (t.pos i:Int) 0 0 s3 r.1,r.2)):=fun r hr=>by unfold gTrait;exact evt
 have HW:Hid (∀p,WrL (fun n=>gItemB t (gG t n 0) n) [] ⟨i3+1,0,0⟩ p→Wr (fun n=>seq (gAdd 1) (gTrait t (gG t n 0) (t.pos i) 0 n)) ⟨i,0,0⟩ p):=fun p hp=>by unfold gTrait;exact wrt
 go_wp2_with fail
 go_loopg [] (t.len - (i3+1)) (fun g wr=>∃(v:Value) (vs:List (List Value)) (j:Nat) (V:List (List Nr)),g=t.len - j∧Hid (vs.length≤j)∧Mf w rb tb cap t i True wr j [(sz w1,nodeC 6 (t.pos i) 0 0 s3 v),(sz w,zeroC)] [] v vs [] V∧Hid ((∀r,EvL (fun n=>gItemB t (gG t n 0) n) V ⟨j,0,0⟩ r→EvL (fun n=>gItemB t (gG t n 0) n) [] ⟨i3+1,0,0⟩ r)∧∀p,WrL (fun n=>gItemB t (gG t n 0) n) V ⟨j,0,0⟩ p→WrL (fun n=>gItemB t (gG t n 0) n) [] ⟨i3+1,0,0⟩ p))
 case atStart=>exact⟨nl,[],i3+1,[],rfl,Nat.zero_le _,q,⟨fun r h=>h,fun p h=>h⟩⟩
 case round=>
  clear F q
  obtain⟨v,vs,j,V,hgk,HL,q,HM⟩:=hrel
  have HG:Hid (gk=t.len - j):=hgk
  clear hgk
  have hjl:=q.st.rd.lt
  have hij:=q.go trivial
  have HVL:Hid (vs.length≤6001):=by show vs.length≤6001;have:=HL.out;have:=h.good.few;omega
  obtain⟨ao3,cp3,rfl⟩:=q.shape
  have F:=q.f2
  go_wp2_with fail
  refine q.et (skipP · _ (ask)) ?_
  clear q F
  intro w5 b5 i5 hE5 m5 q
  have F:=q.f2
  cases b5
  ·obtain rfl:j=i5:=(hE5.no rfl).symm
   clear hE5
   have HTL:Hid (∀p,Wr (fun n=>gSig t (gG t n 0) false n) ⟨j,0,0⟩ p→Wr (fun n=>seq (gAdd 1) (gTrait t (gG t n 0) (t.pos i) 0 n)) ⟨i,0,0⟩ p):=fun p hw=>HW.out _ (HM.out.2 _ (WrL.here (by unfold gSig at hw;unfold gItemB;exact Wr.snd ev_ok (Wr.snd (Ev.yes rfl m5) (Wr.no rfl (Wr.fst hw (fun _ _=>syt))))) HS.out))
   go_wp2_with fail
   go_region_law (first|(refine q.as (sz w6) (Nat.le_trans HVL.out (by decide)) ?_;clear q F;intro w7 ao7 cp7 q;have F:=q.f2)|(replace q:=q.drew;go_simp;refine q.nd (fun hr=>(signatureP hT hr (by omega) (fiG:=#[.pointer (some ⟨rb,0,none⟩)]) (caG:=#[]) ein141 (fun{w' j} hr'=>by simpa using gensX0 hr')).mono (fun e w' p=>SigP.node hr p)) (fun w' p hk hw=>⟨rfl,.inr (q.thr hk (HTL.out _ hw))⟩) ?_;clear q F;intro w6 x6 i6 y6 hl6 m6 q;have F:=q.f2))
   all_goals
    have M5:=Hid_nx m5
    have M6:Hid (Ev (fun n=>bnd (gHead t (gG t n 0) false n) (fun h=>ret (nd 8 h.1 h.2.2.2 0 h.2.1 h.2.2.1))) ⟨j,0,0⟩ (y6,⟨i6,0,0⟩)):=m6
    clear m5 m6
    go_wp2_with fail
    refine(q.p05 (.slice ao7 (vs.length+1) cp7)).wn (mustP · _ (ask)) (fun w' hk hw=>⟨rfl,.inr ((q.p05 (.slice ao7 (vs.length+1) cp7)).thr hk (HW.out _ (HM.out.2 _ (WrL.here (by have m5:=M5.out;have m6:=M6.out;unfold gItemB;exact Wr.snd ev_ok (Wr.snd (Ev.yes rfl m5) (Wr.no rfl (Wr.snd m6 (Wr.sq hw (fun _=>Sy.ret)))))) HS.out))))⟩) ?_
    clear q F
    intro w8 m8 q
    have F:=q.f2
    have M8:=Hid_nx m8
    clear m8
    have hl6:=hl6.out
    have hi6:=q.st.rd.lt
    go_wp2_with fail
    go_roundg (t.len - (i6+1))
    case measure=>rw[HG.out];omega
    case rel=>exact⟨_,_,i6+1,_,rfl,(by show(vs++_).length≤i6+1;have:=HL.out;simp;omega),q,⟨fun r hr=>HM.out.1 r (EvL.on (by have m5:=M5.out;have m6:=M6.out;have m8:=M8.out;unfold gItemB;exact Ev.bnd' ev_ok (Ev.bnd' (Ev.yes rfl m5) (Ev.no rfl (Ev.bnd' m6 (Ev.seq m8 Ev.ret'))))) hr),fun p hp=>HM.out.2 p (WrL.on (by have m5:=M5.out;have m6:=M6.out;have m8:=M8.out;unfold gItemB;exact Ev.bnd' ev_ok (Ev.bnd' (Ev.yes rfl m5) (Ev.no rfl (Ev.bnd' m6 (Ev.seq m8 Ev.ret'))))) hp)⟩⟩
  ·clear hE5
   have M5:=Hid_nx m5
   clear m5
   go_wp2_with fail
   go_light
   exact Mf.rt (q.fo 6 (t.pos i) 0 0 s3 (Nat.le_trans HVL.out (by decide)) hposI hs3) Tryz.results63 1 (HE.out _ (HM.out.1 _ (EvL.stop (by have m5:=M5.out;unfold gItemB;exact Ev.bnd' ev_ok (Ev.bnd' (Ev.yes rfl m5) (Ev.yes rfl Ev.ret'))))))
theorem implP {N:Nat} (hT:rdP 70 N (fun t n=>gG t n 0)) (hB:rdP 75 N (fun t n=>gG t n 3)) {w:World} {rb tb i:Nat} {cap:Cp} {t:Tk} (h:Rd w rb tb cap t i 0 0) (hN:t.len - i≤N+1):
 Calls Tryz.prog 165 #[.pointer (some ⟨rb,0,none⟩)] w (NodeP w rb tb cap t i True (fun n=>gImpl t (gG t n 0) (gG t n 3) n)):=by
 have hl:=h.l
 have hposI:(0:Int)≤(t.pos i:Int)∧(t.pos i:Int)≤7000:=by have:=h.good.posb i;omega
 have HS:Hid (∀n x,Sy (gImplB t (gG t n 0) (gG t n 3) n x)):=fun n x=>by unfold gImplB;exact syt
 go_enter Tryz.func165,Tryz.ntmps165
 have q:=Mf.start h
 go_wp2_with fail
 refine(q.ne' (sz w) (zeroC)).lf (nodeP · 7) ?_
 clear q
 intro w1 q
 have F:=q.f1
 go_wp2_with fail
 refine(q.ne' (sz w1) (nk 7 (t.pos i) nl)).wn (mustP · _ (ask)) (fun w' hk hw=>⟨rfl,.inr ((q.ne' (sz w1) (nk 7 (t.pos i) nl)).thr hk (by unfold gImpl;exact wrt))⟩) ?_
 clear q F
 intro w2 m2 q
 have F:=q.f2
 go_wp2_with fail
 refine q.nn (fun hr=>boundGensP hr) (fun w' p hk hw=>⟨rfl,.inr (q.thr hk (by unfold gImpl;exact wrt))⟩) ?_
 clear q F
 intro w3 x3 i3 y3 hl3 m3 q
 have F:=q.f2
 go_wp2_with fail
 refine(q.ne' (sz w3) x3.a).nm (pathP2 · 2 (by decide) (by decide)) (fun w' p hk hw=>⟨rfl,.inr ((q.ne' (sz w3) x3.a).thr hk (by unfold gImpl;exact wrt))⟩) ?_
 clear q F
 intro w4 s4 i4 hs4 hl4 m4 q
 have F:=q.f3
 go_wp2_with fail
 refine(q.p14 s4).wn (mustP · _ (ask)) (fun w' hk hw=>⟨rfl,.inr ((q.p14 s4).thr hk (by unfold gImpl;exact wrt))⟩) ?_
 clear q F
 intro w5 m5 q
 have F:=q.f3
 have HTT:Hid (∀p,Wr (fun n=>gG t n 0) ⟨i4+1,0,0⟩ p→Wr (fun n=>gImpl t (gG t n 0) (gG t n 3) n) ⟨i,0,0⟩ p):=fun p hw=>(by unfold gImpl;exact wrt)
 have H3:Hid (2≤i4+1):=by have h2:=hl4.out;show 2≤i4+1;omega
 go_upto_region 6 with fail
 go_cut [] (fun wx=>∃(i6:Nat) (y6:List Nr) (v:Value) (vs:List (List Value)),Hid (i4+1<i6)∧Ev (fun n=>gG t n 0) ⟨i4+1,0,0⟩ (y6,⟨i6,0,0⟩)∧Hid (vs.length=2)∧Mf w rb tb cap t i True wx i6 [(sz w1,nodeC 7 (t.pos i) 0 0 s4 v),(sz w,zeroC)] [] v vs [] [y3,y6])
 case first=>
  go_wp2_with fail
  go_region_law (replace q:=q.drew;go_simp;refine q.nd (fun hr=>hT hr (by have:=hr.lt;have:=q.go trivial;omega)) (fun w' p hk hw=>⟨rfl,.inr (q.thr hk (HTT.out _ hw))⟩) ?_;clear q F;intro w6 x6 i6 y6 hl6 m6 q;have F:=q.f3)
  all_goals
   replace q:=((q.swap.m2 (sz w6)).p15 (sl (sz w6) 2)).pop
   go_wp2_with fail
   go_meet
   exact⟨i6,y6,_,_,hl6,m6,(by show List.length _=2;rfl),q.wc (by simp[set11,World.setCell_alloc_past,F,Nat.lt_succ_of_lt])⟩
 case rest=>
  clear F q
  obtain⟨i6,y6,v,vs,hl6,m6,HV1,q⟩:=hcut
  obtain⟨w6,hw⟩:∃x,x=wc:=⟨_,rfl⟩
  subst hw
  obtain⟨ao6,cp6,rfl⟩:=q.shape
  have F:=q.f2
  go_wp2_with fail
  refine q.wn (mustP · _ (ask)) (fun w' hk hw=>⟨rfl,.inr (q.thr hk (by unfold gImpl;exact wrt))⟩) ?_
  clear q F
  intro w7 m7 q
  have F:=q.f2
  have HE:Hid (∀r,EvL (fun n=>gImplB t (gG t n 0) (gG t n 3) n) [y3,y6] ⟨i6+1,0,0⟩ r→Ev (fun n=>gImpl t (gG t n 0) (gG t n 3) n) ⟨i,0,0⟩ (nd 7 (t.pos i:Int) 0 0 s4 r.1,r.2)):=fun r hr=>by unfold gImpl;exact evt
  have HW:Hid (∀p,WrL (fun n=>gImplB t (gG t n 0) (gG t n 3) n) [y3,y6] ⟨i6+1,0,0⟩ p→Wr (fun n=>gImpl t (gG t n 0) (gG t n 3) n) ⟨i,0,0⟩ p):=fun p hp=>by unfold gImpl;exact wrt
  have H4:Hid (vs.length≤i6+1):=by have h1:=HV1.out;have h2:=H3.out;have h3:=hl6.out;show vs.length≤i6+1;omega
  go_wp2_with fail
  go_loopg [] (t.len - (i6+1)) (fun g wr=>∃(v:Value) (vs:List (List Value)) (j:Nat) (V:List (List Nr)),g=t.len - j∧Hid (vs.length≤j)∧Mf w rb tb cap t i True wr j [(sz w1,nodeC 7 (t.pos i) 0 0 s4 v),(sz w,zeroC)] [] v vs [] V∧Hid ((∀r,EvL (fun n=>gImplB t (gG t n 0) (gG t n 3) n) V ⟨j,0,0⟩ r→EvL (fun n=>gImplB t (gG t n 0) (gG t n 3) n) [y3,y6] ⟨i6+1,0,0⟩ r)∧∀p,WrL (fun n=>gImplB t (gG t n 0) (gG t n 3) n) V ⟨j,0,0⟩ p→WrL (fun n=>gImplB t (gG t n 0) (gG t n 3) n) [y3,y6] ⟨i6+1,0,0⟩ p))
  case atStart=>exact⟨_,vs,i6+1,_,rfl,H4.out,q,⟨fun r h=>h,fun p h=>h⟩⟩
  case round=>
   clear F q
   obtain⟨v,vs,j,V,hgk,HL,q,HM⟩:=hrel
   have HG:Hid (gk=t.len - j):=hgk
   clear hgk
   have hjl:=q.st.rd.lt
   have hij:=q.go trivial
   have HVL:Hid (vs.length≤6001):=by show vs.length≤6001;have:=HL.out;have:=h.good.few;omega
   obtain⟨ao3,cp3,rfl⟩:=q.shape
   have F:=q.f2
   go_wp2_with fail
   refine q.et (skipP · _ (ask)) ?_
   clear q F
   intro w8 b8 i8 hE8 m8 q
   have F:=q.f2
   cases b8
   ·obtain rfl:j=i8:=(hE8.no rfl).symm
    clear hE8
    have HTL:Hid (∀p,Wr (fun n=>gFun t (gG t n 0) (gG t n 3) false n) ⟨j,0,0⟩ p→Wr (fun n=>gImpl t (gG t n 0) (gG t n 3) n) ⟨i,0,0⟩ p):=fun p hw=>HW.out _ (HM.out.2 _ (WrL.here (by
     unfold gFun at hw
     have hw2:=Wr.fst (f:=fun _ y=>ret (true,V++[y])) hw (fun _ _=>Sy.ret)
     simp only[bnd_assoc,ret_bnd] at hw2
     unfold gImplB
     exact Wr.snd ev_ok (Wr.snd (Ev.yes rfl m8) (Wr.no rfl hw2))) HS.out))
    go_wp2_with fail
    go_region_law (first|(refine q.as (sz w9) (Nat.le_trans HVL.out (by decide)) ?_;clear q F;intro w10 ao10 cp10 q;have F:=q.f2)|(replace q:=q.drew;go_simp;refine q.nd (fun hr=>functionP hT hB hr (by omega) (fiG:=#[.pointer (some ⟨rb,0,none⟩)]) (caG:=#[]) ein141 (fun{w' j} hr'=>by simpa using gensX0 hr')) (fun w' p hk hw=>⟨rfl,.inr (q.thr hk (HTL.out _ hw))⟩) ?_;clear q F;intro w9 x9 i9 y9 hl9 m9 q;have F:=q.f2))
    all_goals
     have MB:Hid (Ev (fun n=>gImplB t (gG t n 0) (gG t n 3) n V) ⟨j,0,0⟩ ((true,V++[y9]),⟨i9,0,0⟩)):=by
      show Ev _ _ _
      unfold gFun at m9
      have m10:=Ev.bnd' (f:=fun _ y=>ret (true,V++[y])) m9 Ev.ret'
      simp only[bnd_assoc,ret_bnd] at m10
      unfold gImplB
      exact Ev.bnd' ev_ok (Ev.bnd' (Ev.yes rfl m8) (Ev.no rfl m10))
     clear m8 m9
     have hl9:=hl9.out
     have hi9:=q.st.rd.lt
     replace q:=q.p05 (.slice ao10 (vs.length+1) cp10)
     go_wp2_with fail
     go_roundg (t.len - i9)
     case measure=>rw[HG.out];omega
     case rel=>exact⟨_,_,i9,_,rfl,(by show(vs++_).length≤i9;have:=HL.out;simp;omega),q,⟨fun r hr=>HM.out.1 r (EvL.on MB.out hr),fun p hp=>HM.out.2 p (WrL.on MB.out hp)⟩⟩
   ·clear hE8
    have M8:=Hid_nx m8
    clear m8
    go_wp2_with fail
    go_light
    exact Mf.rt (q.fo 7 (t.pos i) 0 0 s4 (Nat.le_trans HVL.out (by decide)) hposI hs4) Tryz.results165 1 (HE.out _ (HM.out.1 _ (EvL.stop (by have m8:=M8.out;unfold gImplB;exact Ev.bnd' ev_ok (Ev.bnd' (Ev.yes rfl m8) (Ev.yes rfl Ev.ret'))))))
end Go.Proofs.YtdplogkmkgekdaaGreatDoor.Pj
