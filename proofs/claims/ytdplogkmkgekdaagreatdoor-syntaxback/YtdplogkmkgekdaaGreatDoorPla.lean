/- The project's parser: calls and parts behind a thing. -/
import Derived.Test.YtdplogkmkgekdaaGreatDoorPkx
import Derived.Test.YtdplogkmkgekdaaGreatDoorPkb
import Derived.Test.YtdplogkmkgekdaaGreatDoorTypes
set_option linter.all false
set_option maxRecDepth 100000
set_option maxHeartbeats 4000000
namespace Go.Proofs.YtdplogkmkgekdaaGreatDoor.Pj
open Go.RowKit
section
variable {w W w':World} {rb tb i j:Nat} {cap:Cp} {t:Tk} {g:Prop} {L:List (Nat × Array Value)} {T:List (List Value)} {kv:Value} {vs:List (List Value)} {Ft Fv X V:List (List Nr)}
theorem Mf.lh {f:Nat} {args:Array Value} {Q:Ending→World→Prop} {must:Prop} {ml:Nat→GP (List (List Nr))} (q:Mf w rb tb cap t i g W j L T kv vs X V) (h:Rd W rb tb cap t j 0 0→Calls Tryz.prog f args W (rO W rb tb cap t j must ml)) (KB:∀w' p,Kp W.heap.size rb W w'→Wr ml ⟨j,0,0⟩ (p:Nat)→Q (iQ p) w') (K:∀w' ao cp us i' F,Hid (j≤i'∧us.length≤i' - j∧(must→j<i'))→Hid (F.length=us.length)→Hid (Kids W.heap.size False w' (.slice ao us.length cp) us)→Ev ml ⟨j,0,0⟩ (F,⟨i',0,0⟩)→Mf w rb tb cap t i g w' i' L (us++T) kv vs (F++X) V→Q (.returned (.slice ao us.length cp)) w'):Calls Tryz.prog f args W Q:=(h q.st.rd).mono fun e w' p=>by
 rcases p with⟨ao,cp,vs',i',rfl,hx,hK,hl,F,hF,hm⟩|⟨p,rfl,hk,hw⟩
 ·exact K w' ao cp vs' i' F ⟨hx.le,hl,fun m=>hx.go m rfl⟩ hF.len hK hm (q.holds hx hK hF)
 ·exact KB w' p hk hw
variable {ops:Array Oper} {rest:List Oper} {p:Oper} {act:Act} {S:Exit→Act→World→Prop} {sv xo:Operand} {ko ro:Option Addr} {kc rl rc:Nat} {Kk:Act→World→Prop} {Ee:Prop} {us:List (List Value)} {U:List (List Nr)} {B:Nat} {G:Prop}
theorem Mf.Px (q:Mf w rb tb cap t i g W j L (us++T) (.slice ro rl rc) vs (U++Ft) Fv) (hU:Hid (U.length=us.length)) (hK:Hid (Kids B G W (.slice ko us.length kc) us)) (hv:vs.length≤19000) (hu:us.length≤6010) (K:∀w' ao cp,Mf w rb tb cap t i g w' j L T (.slice ao (rl+us.length) cp) (vs++us) Ft (Fv++U)→Kk (act.put p.dst (.slice ao (rl+us.length) cp)) w') (hgd:p.guard=none:=by rfl) (ho:p.op=.call {callee:=.builtin .append,args:=#[sv,xo],argTypes:=#[22,22]}:=by rfl) (hs:act.eval sv=.slice ro rl rc:=by rfl) (hx:act.eval xo=.slice ko us.length kc:=by rfl):if Region.wanted p (yielded ops act.tmps)=true then Oper.wp Tryz.prog p act W Kk S else Ee:=by
 obtain⟨ro',rc',e⟩:=q.shape
 obtain⟨rfl,rfl,rfl⟩:ro=ro'∧rl=vs.length∧rc=rc':=by simpa using e
 refine CQ hgd ho hs hx (Mf.IQ q hU.out hK.out hv hu _) fun v' w' h=>?_
 obtain⟨ao,cp,rfl,q'⟩:=h
 exact K w' ao cp q'
theorem Mf.apl (q:Mf w rb tb cap t i g W j L (us++T) (.slice ro rl rc) vs (U++Ft) Fv) (hU:Hid (U.length=us.length)) (hK:Hid (Kids B G W (.slice ko us.length kc) us)) (hv:vs.length≤19000) (hu:us.length≤6010) (K:∀w' ao cp,Mf w rb tb cap t i g w' j L T (.slice ao (rl+us.length) cp) (vs++us) Ft (Fv++U)→wpList Tryz.prog ops S rest (act.put p.dst (.slice ao (rl+us.length) cp)) w') (hgd:p.guard=none:=by rfl) (ho:p.op=.call {callee:=.builtin .append,args:=#[sv,xo],argTypes:=#[22,22]}:=by rfl) (hs:act.eval sv=.slice ro rl rc:=by rfl) (hx:act.eval xo=.slice ko us.length kc:=by rfl):wpList Tryz.prog ops S (p::rest) act W:=by
 obtain⟨ro',rc',e⟩:=q.shape
 obtain⟨rfl,rfl,rfl⟩:ro=ro'∧rl=vs.length∧rc=rc':=by simpa using e
 refine OC hgd ho hs hx (Mf.IQ q hU.out hK.out hv hu _) fun v' w' h=>?_
 obtain⟨ao,cp,rfl,q'⟩:=h
 exact K w' ao cp q'
end
section
variable {t:Tk}
theorem NI {X:GP (List Nr)} {en:ByteArray} {o0 o:List (List Nr)}:bK t X en (o0++o)=bnd (bK t X en o) (fun r=>ret (r.1,o0++r.2)):=by
 unfold bK seq
 simp only[bU,gB,rY,List.append_assoc]
theorem Gf {X:GP (List Nr)} {en:ByteArray} {o0:List (List Nr)}:∀(n:Nat) (o:List (List Nr)),loop (bK t X en) n (o0++o)=bnd (loop (bK t X en) n o) (fun r=>ret (o0++r))
 |0,o=>by funext s;rfl
 |n+1,o=>by
  show bnd (bK t X en (o0++o)) (fun r=>cond r.1 (loop (bK t X en) n r.2) (ret r.2))=bnd (bnd (bK t X en o) (fun r=>cond r.1 (loop (bK t X en) n r.2) (ret r.2))) (fun r=>ret (o0++r))
  rw[NI,bU,bU]
  congr 1
  funext r
  rw[gB]
  cases r.1
  ·rfl
  ·exact Gf n r.2
theorem AB {X:GP (List Nr)} {en:ByteArray} {o0:List (List Nr)} {n:Nat}:loop (bK t X en) n o0=bnd (loop (bK t X en) n []) (fun r=>ret (o0++r)):=by
 have:=Gf (t:=t) (X:=X) (en:=en) (o0:=o0) n []
 rwa [List.append_nil] at this
theorem pq {X:Nat→GP (List Nr)} (hX:∀n,Sy (X n)) {i:Nat}:(∀F j,jk t X ⟨#[44]⟩ ⟨#[125]⟩ true true i (.inl (F,j))→Ev (fun n=>loop (bK t (X n) ⟨#[125]⟩) n []) ⟨i,0,0⟩ (F,⟨j,0,0⟩))∧∀p,jk t X ⟨#[44]⟩ ⟨#[125]⟩ true true i (.inr p)→Wr (fun n=>loop (bK t (X n) ⟨#[125]⟩) n []) ⟨i,0,0⟩ p:=
 ⟨fun F j h=>(((Gc hX).run (lit) (lit) [] h).1 F j rfl).ev,fun p h=>(((Gc hX).run (lit) (lit) [] h).2 p rfl).wr⟩
def uL (t:Tk) (E Q:GP (List Nr)) (fu:Nat):GP (List Nr):=bnd (dh t) (fun p=>seq (aM t ⟨#[109,97,116,99,104]⟩) (bnd E (fun c=>seq (aM t ⟨#[123]⟩) (bnd (loop (bK t (lM t E Q) ⟨#[125]⟩) fu []) (fun r=>ret (nd 34 p 0 0 E0 ([c]++r)))))))
theorem vk {E Q:GP (List Nr)} {fu:Nat}:mQ t E Q fu=uL t E Q fu:=by
 have e:∀(c:List Nr) (k:List (List Nr)→GP (List Nr)),bnd (loop (bK t (lM t E Q) ⟨#[125]⟩) fu []) (fun r=>k ([c]++r))=bnd (loop (pX t E Q) fu [c]) k:=by
  intro c k
  rw[show pX t E Q=bK t (lM t E Q) ⟨#[125]⟩ from funext fun o=>Lg,AB (o0:=[c]),bU]
  rfl
 have e2:∀(p:Int) (c:List Nr),bnd (loop (bK t (lM t E Q) ⟨#[125]⟩) fu []) (fun r=>ret (nd 34 p 0 0 E0 ([c]++r)))=bnd (loop (pX t E Q) fu [c]) (fun r=>ret (nd 34 p 0 0 E0 r)):=fun p c=>e c (fun r=>ret (nd 34 p 0 0 E0 r))
 unfold uL
 simp only[e2]
 rfl
def vo (t:Tk) (T E:GP (List Nr)) (fu:Nat):GP (List Nr):=bnd (dh t) (fun p=>seq (aM t ⟨#[109,97,107,101]⟩) (bnd (iq t fu 2) (fun s=>bnd (ig t T fu) (fun w=>seq (aM t ⟨#[123]⟩) (bnd (loop (bK t (jF t E) ⟨#[125]⟩) fu []) (fun r=>ret (nd 44 p 0 (w.length:Int) s (w++r))))))))
theorem uM {T E:GP (List Nr)} {fu:Nat}:qx t T E fu=vo t T E fu:=by
 have e:∀(c:List (List Nr)) (k:List (List Nr)→GP (List Nr)),bnd (loop (bK t (jF t E) ⟨#[125]⟩) fu []) (fun r=>k (c++r))=bnd (loop (rC t E) fu c) k:=by
  intro c k
  rw[show rC t E=bK t (jF t E) ⟨#[125]⟩ from funext fun o=>ND,AB (o0:=c),bU]
  rfl
 have e2:∀(p:Int) (s:ByteArray) (w:List (List Nr)),bnd (loop (bK t (jF t E) ⟨#[125]⟩) fu []) (fun r=>ret (nd 44 p 0 (w.length:Int) s (w++r)))=bnd (loop (rC t E) fu w) (fun r=>ret (nd 44 p 0 (w.length:Int) s r)):=fun p s w=>e w (fun r=>ret (nd 44 p 0 (w.length:Int) s r))
 unfold vo
 simp only[e2]
 rfl
def rZ (t:Tk) (T:GP (List Nr)) (p m:Int) (fu:Nat):GP (List Nr):=bnd (bG t) (fun s=>bnd (iT t false fu) (fun g=>bnd (dh t) (fun q=>seq (aM t ⟨#[123]⟩) (bnd (loop (bK t (iL t T 5 ⟨#[112,117,98]⟩) ⟨#[125]⟩) fu []) (fun r=>ret (nd 3 p 0 m s [g,nd 4 q 0 0 E0 r]))))))
theorem tQ {T:GP (List Nr)} {p m:Int} {fu:Nat}:jS t T p m fu=rZ t T p m fu:=by
 unfold rZ
 rw[show bK t (iL t T 5 ⟨#[112,117,98]⟩) ⟨#[125]⟩=lK t T from funext fun o=>I8.symm]
 rfl
def hp (y:List Nr):Int:=match y with
 |[]=>0
 |z::_=>z.p
def pf (y:List Nr):List Nr:=nd 5 (hp y) 0 0 E0 [y]
def xu (T:GP (List Nr)):GP (List Nr):=bnd T (fun y=>ret (pf y))
def lN (t:Tk) (T:GP (List Nr)) (fu:Nat):GP (List Nr):=bnd (dh t) (fun q=>bnd (bG t) (fun vs=>bnd (bnd (bY t 0 ⟨#[40]⟩) (fun DI=>cond DI (seq (aM t ⟨#[40]⟩) (bnd (bY t 0 ⟨#[41]⟩) (fun c=>seq (cond c (jB t) (ret ())) (fC t T ⟨#[41]⟩ fu)))) (ret []))) (fun ks=>ret (nd 4 q 0 0 vs (ks.map pf)))))
theorem Md {T:GP (List Nr)} {fu:Nat} (h:Sy T):Sy (lN t T fu):=by
 unfold lN
 exact aA
theorem NJ {T:GP (List Nr)} {fu:Nat} {o:List (List Nr)}:og t T fu o=bK t (lN t T fu) ⟨#[125]⟩ o:=by
 unfold og bK lN seq
 simp only[bU,gB,rY]
 rfl
def wH (t:Tk) (T:GP (List Nr)) (p m:Int) (fu:Nat):GP (List Nr):=bnd (bG t) (fun s=>bnd (iT t false fu) (fun g=>seq (aM t ⟨#[123]⟩) (bnd (loop (bK t (lN t T fu) ⟨#[125]⟩) fu []) (fun r=>ret (nd 3 p 1 m s ([g]++r))))))
theorem wI {T:GP (List Nr)} {p m:Int} {fu:Nat}:lX t T p m fu=wH t T p m fu:=by
 have e:∀(c:List Nr) (k:List (List Nr)→GP (List Nr)),bnd (loop (bK t (lN t T fu) ⟨#[125]⟩) fu []) (fun r=>k ([c]++r))=bnd (loop (og t T fu) fu [c]) k:=by
  intro c k
  rw[show og t T fu=bK t (lN t T fu) ⟨#[125]⟩ from funext fun o=>NJ,AB (o0:=[c]),bU]
  rfl
 have e2:∀(s:ByteArray) (c:List Nr),bnd (loop (bK t (lN t T fu) ⟨#[125]⟩) fu []) (fun r=>ret (nd 3 p 1 m s ([c]++r)))=bnd (loop (og t T fu) fu [c]) (fun r=>ret (nd 3 p 1 m s r)):=fun s c=>e c (fun r=>ret (nd 3 p 1 m s r))
 unfold wH
 simp only[e2]
 rfl
end
def eF (t:Tk) (T E:GP (List Nr)):GP (List Nr):=bnd (dh t) (fun p=>seq (aM t ⟨#[108,101,116]⟩) (bnd (jC t) (fun m=>bnd (bG t) (fun s=>bnd (aY t ⟨#[58]⟩) (fun b19=>cond (b19) (bnd (T) (fun y=>bnd (aY t ⟨#[61]⟩) (fun b17=>cond (b17) (bnd (E) (fun z=>seq (aM t ⟨#[59]⟩) (ret (nd 43 p 3 m s [y,z])))) (seq (aM t ⟨#[59]⟩) (ret (nd 43 p 1 m s [y])))))) (bnd (aY t ⟨#[61]⟩) (fun b18=>cond (b18) (bnd (E) (fun z=>seq (aM t ⟨#[59]⟩) (ret (nd 43 p 2 m s [z])))) (seq (aM t ⟨#[59]⟩) (ret (nd 43 p 0 m s []))))))))))
theorem aeZ {t:Tk} {T E:GP (List Nr)}:bnd (kL t T E) (fun y=>seq (aM t ⟨#[59]⟩) (ret y))=eF t T E:=by
 unfold kL eF seq
 simp only[bU,gB,rY]
section
variable {w:World} {rb tb i:Nat} {cap:Cp} {t:Tk}
theorem Mf.rte {w W:World} {rb tb i j:Nat} {cap:Cp} {t:Tk} {g:Prop} {L:List (Nat × Array Value)} {T:List (List Value)} {kv:Value} {vs:List (List Value)} {X V:List (List Nr)} {fn:Func} {r:Nat} {act:Act} {ki po n m:Int} {na:ByteArray} {Q:Ending→World→Prop} (q:Mf w rb tb cap t i g W j L T kv vs X V) (hf:fn.results=#[.cell r 28]) (N:Nat) (hQ:∀w',Nx w rb tb cap t i 0 g w' j 0 0→Q (.returned (.agg (ah ki po n m na nl))) w') {wf:World} {b:Nat} (he:wf=Go.Proofs.YtdplogkmkgekdaaGreatDoor.bC W b (.int .i64 ki) (.int .i64 po) (.int .i64 n) (.int .i64 m) (.string na) nl (.int .i64 0) (.int .i64 0) nl nl nl:=by rfl) (hd:act.defers=[]:=by rfl) (ht:act.tmps.getD r undef=.pointer (some ⟨b,0,none⟩):=by rfl) (hz:L[N]? =some (b,aJ):=by rfl):bodyPost Tryz.prog fn Q .ret act wf:=by
 subst he
 have q1:=q.zw N hz (.int .i64 ki) (.int .i64 po) (.int .i64 n) (.int .i64 m) (.string na) nl (.int .i64 0) (.int .i64 0) nl nl nl
 have hB:bW _ b _:=(q1.z.blk N (b,_) (by rw[List.getElem?_set,if_pos rfl,if_pos (List.getElem?_eq_some_iff.1 hz).1])).2
 exact bodyPost_ret (wz hf ht hB) hd (hQ _ ⟨q1.st.rd,q1.st.kp,q1.le,fun e=>e,fun mu _=>q1.go mu⟩)
theorem Ja (h:Rd w rb tb cap t i 0 0):
 Calls Tryz.prog 189 #[.pointer (some ⟨rb,0,none⟩)] w fun e w'=>(∃s i',e=.returned (.agg (ah 11 (t.pos i) 0 0 s nl))∧s.size≤20000∧Nx w rb tb cap t i 0 True w' i' 0 0∧Ev (fun _=>bG t) ⟨i,0,0⟩ (s,⟨i',0,0⟩))∨tK w rb ⟨i,0,0⟩ (fun _=>bG t) e w':=by
 have hl:=h.l
 go_enter Tryz.func189,Tryz.ntmps189
 have q:=Mf.start h
 go_wp2_with fail
 refine(q.ne' (sz w) (aJ)).lf (dx · 11) ?_
 clear q
 intro w1 q
 have F:=q.f1
 go_wp2_with fail
 refine(q.ne' (sz w1) (nk 11 (t.pos i) nl)).nm (kD ·) (fun w' p hk hw=>⟨rfl,.inr ((q.ne' (sz w1) (nk 11 (t.pos i) nl)).aR hk hw)⟩) ?_
 clear q F
 intro w2 s2 i2 hs2 hl2 m2 q
 have F:=q.f2
 go_wp2_with fail
 go_light
 exact(q.jm s2).rte Tryz.results189 1 (fun w' hx=>.inl ⟨s2,i2,rfl,hs2,hx,m2⟩)
theorem Jb (h:Rd w rb tb cap t i 0 0):
 Calls Tryz.prog 188 #[.pointer (some ⟨rb,0,none⟩)] w fun e w'=>(e=.returned (.agg (ah 10 (t.pos i) 0 0 (t.text i) nl))∧Nx w rb tb cap t i 0 True w' (i+1) 0 0∧bf t i 0 0 4=true)∨(e=iQ (t.pos i)∧Kp w.heap.size rb w w'∧bf t i 0 0 4=false):=by
 have hl:=h.l
 have jT:=eX
 go_enter Tryz.func188,Tryz.ntmps188
 have q:=Mf.start h
 go_wp2_with fail
 refine(q.ne' (sz w) (aJ)).lf (dx · 10) ?_
 clear q
 intro w1 q
 have F:=q.f1
 go_wp2_with fail
 refine(q.ne' (sz w1) (nk 10 (t.pos i) nl)).tk 4 (by decide) (fun w' hk hb=>⟨rfl,.inr ⟨rfl,(q.ne' (sz w1) (nk 10 (t.pos i) nl)).st.kp.trans (hk.mono (q.ne' (sz w1) (nk 10 (t.pos i) nl)).st.size),hb.out⟩⟩) ?_
 clear q F
 intro w2 hb2 q
 have F:=q.f2
 go_wp2_with fail
 go_light
 exact(q.jm (t.text i)).rte Tryz.results188 1 (fun w' hx=>.inl ⟨rfl,hx,hb2.out⟩)
end
section
variable {w:World} {rb tb i:Nat} {cap:Cp} {t:Tk}
theorem Py (h:Rd w rb tb cap t i 0 0):Calls Tryz.prog 88 #[.pointer (some ⟨rb,0,none⟩)] w fun e w'=>(∃x i',e=.returned (.string x)∧x.size≤6000∧Nx w rb tb cap t i 0 True w' i' 0 0∧Ev (fun _=>bG t) ⟨i,0,0⟩ (x,⟨i',0,0⟩))∨tK w rb ⟨i,0,0⟩ (fun _=>bG t) e w':=(nameP h).mono fun e w' p=>by
 rcases p with⟨x,i',h1,h2,h3,_,h4⟩|p
 ·exact .inl ⟨x,i',h1,h2,h3,h4⟩
 ·exact .inr p
def r9 (t:Tk):GP (List Nr):=bnd (dh t) (fun q=>seq (aM t ⟨#[117,115,101]⟩) (bnd (bG t) (fun s1=>seq (aM t ⟨#[58,58]⟩) (bnd (bG t) (fun s2=>seq (aM t ⟨#[59]⟩) (ret (nd 2 q 0 0 (s1++⟨#[58,58]⟩++s2) [])))))))
theorem ae0 (h:Rd w rb tb cap t i 0 0) (hb:au t i 0 0 ⟨#[117,115,101]⟩=true):
 Calls Tryz.prog 90 #[.pointer (some ⟨rb,0,none⟩)] w (aP w rb tb cap t i True (fun _=>r9 t)):=by
 have hl:=h.l
 have aL:=h.eP
 have HB:=aD hb
 clear hb
 have hb:=HB.out
 go_enter Tryz.func90,Tryz.ntmps90
 have q:=Mf.start h
 go_wp2_with fail
 refine(q.ne' (sz w) (aJ)).lf (dx · 2) ?_
 clear q
 intro w1 q
 have F:=q.f1
 go_wp2_with fail
 refine(q.ne' (sz w1) (nk 2 (t.pos i) nl)).wy (dw · _ (ask)) HB.out ?_
 clear q F
 intro w2 q
 have F:=q.f2
 go_wp2_with fail
 refine q.nm (Py ·) (fun w' p hk hw=>⟨rfl,.inr (q.aR hk (by unfold r9;exact wrt))⟩) ?_
 clear q F
 intro w3 s3 i3 hs3 hl3 m3 q
 have F:=q.f2
 go_wp2_with fail
 refine(q.jm s3).wn (dw · _ (ask)) (fun w' hk hw=>⟨rfl,.inr ((q.jm s3).aR hk (by unfold r9;exact wrt))⟩) ?_
 clear q F
 intro w4 m4 q
 have F:=q.f2
 go_wp2_with fail
 go_region_law (replace q:=q.drew;go_simp;refine q.nm (Py ·) (fun w' p hk hw=>⟨rfl,.inr (q.aR hk (by unfold r9;exact wrt))⟩) ?_;clear q F;intro w5 s5 i5 hs5 hl5 m5 q;have F:=q.f2;have c5:¬9223372036854775807<2+s5.size:=(by omega);have c6:¬9223372036854775807<s3.size+(2+s5.size):=(by omega))
 all_goals
  have hsz:(s3++(⟨#[58,58]⟩++s5):ByteArray).size≤20000:=by rw[uQ,uQ];show s3.size+(2+s5.size)≤_;omega
  have hap:s3++⟨#[58,58]⟩++s5=s3++(⟨#[58,58]⟩++s5):=ByteArray.append_assoc
  clear c5 c6
  generalize hSS:s3++(⟨#[58,58]⟩++s5)=SS at hsz hap⊢
  have HAP:=aD hap
  clear hap hSS
  go_wp2_with fail
  refine(q.jm SS).wn (dw · _ (ask)) (fun w' hk hw=>⟨rfl,.inr ((q.jm SS).aR hk (by unfold r9;exact wrt))⟩) ?_
  clear q F
  intro w6 m6 q
  have F:=q.f2
  go_wp2_with fail
  go_light
  exact Mf.rt (q.lk 2 (t.pos i) 0 0 SS aL hsz) Tryz.results90 1 (by rw[←HAP.out];unfold r9;exact bS)
end
def vV (t:Tk) (fu:Nat):GP (List Nr):=bnd (dh t) (fun q=>bnd (bG t) (fun s=>bnd (iM t false fu) (fun ks=>ret (nd 11 q 0 0 s ks))))
theorem G9 {w:World} {rb tb i:Nat} {cap:Cp} {t:Tk} (h:Rd w rb tb cap t i 0 0):
 Calls Tryz.prog 194 #[.pointer (some ⟨rb,0,none⟩)] w (aP w rb tb cap t i True (fun n=>vV t n)):=by
 have hl:=h.l
 have aL:=h.eP
 go_enter Tryz.func194,Tryz.ntmps194
 have q:=Mf.start h
 go_wp2_with fail
 refine(Ja (q.ne' (sz w) (aJ)).st.rd).mono ?_
 rintro e w1 (⟨s1,i1,rfl,hs1,hx1,m1⟩|⟨p,rfl,hk,hw⟩)
 rotate_left
 ·exact⟨rfl,.inr ((q.ne' (sz w) (aJ)).aR hk (by unfold vV;exact wrt))⟩
 replace q:=(q.ne' (sz w) (aJ)).yh hx1
 clear hx1
 have F:=q.f1
 go_wp2_with fail
 refine(q.ne' (sz w1) (ah 11 (t.pos i) 0 0 s1 nl)).ln (fun hr=>Ma (lives:=false) hr (k:=220) (fi:=#[.pointer (some ⟨rb,0,none⟩)]) (ca:=#[]) aaZ (fun{w' j} hr'=>by simpa using aa0 hr')) (fun w' p hk hw=>⟨rfl,.inr ((q.ne' (sz w1) (ah 11 (t.pos i) 0 0 s1 nl)).aR hk (by unfold vV;exact wrt))⟩) ?_
 clear q F
 intro w2 Mc cp2 vs2 i2 V2 hl2 m2 q
 have F:=q.f2
 have hl3:vs2.length≤6001:=by have:=hl2.out.2;have:=q.st.rd.lt;have:=h.good.few;omega
 go_wp2_with fail
 go_light
 exact Mf.rt ((q.fE (.slice Mc vs2.length cp2)).fo 11 (t.pos i) 0 0 s1 (by omega) aL hs1) Tryz.results194 1 (by unfold vV;exact bS)
section
variable {w:World} {rb tb i:Nat} {cap:Cp} {t:Tk}
def qH (t:Tk) (U:GP (List Nr)) (at_:Int):GP (List Nr):=bnd (jC t) (fun n=>bnd U (fun y=>ret (nd 27 at_ n 0 E0 [y])))
theorem Mf.yw {w W:World} {rb tb i j:Nat} {cap:Cp} {t:Tk} {g:Prop} {L:List (Nat × Array Value)} {T:List (List Value)} {kv:Value} {vs:List (List Value)} {X V:List (List Nr)} {Q:Ending→World→Prop} (q:Mf w rb tb cap t i g W j L T kv vs X V) (hj:j+1<t.len) (K:∀w',Mf w rb tb cap t i True w' (j+1) L T kv vs X V→Q (.returned (.agg #[.int .i64 (t.kind j),.int .i64 (t.pos j),.string (t.text j),.int .i64 (t.num j)])) w'):Calls Tryz.prog 145 #[.pointer (some ⟨rb,0,none⟩)] W Q:=(BF q.st.rd hj).mono fun e w' p=>by
 obtain⟨rfl,hx⟩:=p
 exact K w' (q.yh hx)
theorem UN {N:Nat} (hU:bH 201 N (fun t n=>gG t n 2)) {w:World} {rb tb i:Nat} {cap:Cp} {t:Tk} (h:Rd w rb tb cap t i 0 0) (hN:t.len - i≤N) {at_:Int} (hat:0≤at_∧at_≤7000):
 Calls Tryz.prog 221 #[.pointer (some ⟨rb,0,none⟩),.int .i64 at_] w (aP w rb tb cap t i True (fun n=>qH t (gG t n 2) at_)):=by
 have hl:=h.l
 have aL:=h.eP
 go_enter Tryz.func221,Tryz.ntmps221
 have q:=Mf.start h
 go_wp2_with fail
 refine((q.ne' (sz w) (aJ)).ne' (sz w+1) (ah 27 at_ 0 0 ⟨#[]⟩ nl)).et (cO · _ (ask)) ?_
 clear q
 intro w1 b1 i1 hE1 m1 q
 have F:=q.f2
 go_wp2_with fail
 ·go_wp2_with fail
  refine(q.pV 1).nd (fun hr=>hU hr (by have:=hr.lt;have:=q.le;omega)) (fun w' p hk hw=>⟨rfl,.inr ((q.pV 1).aR hk (by unfold qH;unfold jC;exact wrt))⟩) ?_
  clear q F
  intro w2 x3 i3 y3 hl3 m3 q
  have F:=q.f2
  go_wp2_with fail
  go_light
  refine Mf.rt ((q.fE (sl (sz w2) 1)).l1 (sz w2) 27 at_ 1 0 ⟨#[]⟩ hat) Tryz.results221 1 (by unfold qH;unfold jC;exact bS) ?_
  simp[bC,World.setCell_alloc_past,F,Nat.lt_succ_of_lt]
 ·go_wp2_with fail
  refine q.nd (fun hr=>hU hr (by have:=hr.lt;have:=q.le;omega)) (fun w' p hk hw=>⟨rfl,.inr (q.aR hk (by unfold qH;unfold jC;exact wrt))⟩) ?_
  clear q F
  intro w3 x3 i3 y3 hl3 m3 q
  have F:=q.f2
  go_wp2_with fail
  go_light
  refine Mf.rt ((q.fE (sl (sz w3) 1)).l1 (sz w3) 27 at_ 0 0 ⟨#[]⟩ hat) Tryz.results221 1 (by unfold qH;unfold jC;exact bS) ?_
  simp[bC,World.setCell_alloc_past,F,Nat.lt_succ_of_lt]
theorem Lh {N:Nat} (hE:bH 81 N (fun t n=>gG t n 1)) (hO:∀{w:World} {rb tb i:Nat} {cap:Cp} {t:Tk},Rd w rb tb cap t i 0 0→t.len - i≤N+1→Calls Tryz.prog 160 #[.pointer (some ⟨rb,0,none⟩),.int .i64 2] w (aP w rb tb cap t i True (fun n=>tC t (gG t n 2) n))) {w:World} {rb tb i:Nat} {cap:Cp} {t:Tk} (h:Rd w rb tb cap t i 0 0) (hN:t.len - i≤N+1):
 Calls Tryz.prog 81 #[.pointer (some ⟨rb,0,none⟩)] w (aP w rb tb cap t i True (fun n=>jN t (gG t n 1) (gG t n 2) n)):=by
 have hl:=h.l
 have aL:=h.eP
 go_enter Tryz.func81,Tryz.ntmps81
 have q:=Mf.start h
 go_wp2_with fail
 refine(q.ne' (sz w) (aJ)).nd (fun hr=>hO hr hN) (fun w' p hk hw=>⟨rfl,.inr ((q.ne' (sz w) (aJ)).aR hk (by unfold jN;exact wrt))⟩) ?_
 clear q
 intro w1 x1 i1 y1 hl1 m1 q
 have F:=q.f1
 go_wp2_with fail
 refine(q.ne' (sz w1) (x1.a)).lf (iX · _ (ask)) ?_
 clear q F
 intro w2 q
 have F:=q.f2
 have lZ:(0:Int)≤(t.pos i1:Int)∧(t.pos i1:Int)≤7000:=by have:=h.good.qg i1;omega
 go_wp2_with fail
 ·go_wp2_with fail
  go_light
  exact Mf.rt (q) Tryz.results81 1 (by unfold jN;exact bS)
 ·have hbe:au t i1 0 0 ⟨#[61]⟩=true:=by simpa using ‹(!au t i1 0 0 ⟨#[61]⟩)=false›
  go_wp2_with fail
  refine q.lf (dx · 32) ?_
  clear q F
  intro w3 q
  have F:=q.f2
  go_wp2_with fail
  refine(q.ne' (sz w3) (nk 32 (t.pos i1) nl)).yw (iY h.good q.st.rd.lt hbe).2 ?_
  clear q F
  intro w4 q
  have F:=q.f3
  go_wp2_with fail
  go_region_law (replace q:=q.drew;go_simp;refine q.nd (fun hr=>hE hr (by have:=hr.lt;have:=q.go trivial;omega)) (fun w' p hk hw=>⟨rfl,.inr (q.aR hk (by unfold jN;exact wrt))⟩) ?_;clear q F;intro w5 x4 i4 y4 hl4 m4 q;have F:=q.f3)
  all_goals
   go_wp2_with fail
   go_light
   refine Mf.rt (((q.swap).fE (sl (sz w5) 2)).l2 (sz w5) 32 (t.pos i1) 0 0 ⟨#[]⟩ lZ) Tryz.results81 2 (by unfold jN;exact bS) ?_
   simp[bC,World.setCell_alloc_past,F,Nat.lt_succ_of_lt]
end
theorem Li {t:Tk} {n:Nat}:jU t true n=iR t:=by
 funext s
 rfl
theorem Ct {t:Tk} {i:Nat} (hb:bf t i 0 0 4=true):Ev (fun _=>dW t) ⟨i,0,0⟩ (t.text i,⟨i+1,0,0⟩):=by
 have hl:Ev (fun _=>iR t) ⟨i,0,0⟩ (nd 19 (t.pos i) 0 0 (t.text i) [],⟨i+1,0,0⟩):=by
  unfold iR
  exact bS
 exact Ev.ak hl Ev.ret'
theorem Cu {t:Tk} {i:Nat} (hb:bf t i 0 0 4=false):Wr (fun _=>dW t) ⟨i,0,0⟩ (t.pos i):=by
 have hl:Wr (fun _=>iR t) ⟨i,0,0⟩ (t.pos i):=by
  unfold iR
  exact wrt
 exact Wr.fst hl (fun _ _=>Sy.ret)
def vW (t:Tk) (fu:Nat):GP (List Nr):=bnd (dh t) (fun q=>bnd (dW t) (fun s=>bnd (iM t true fu) (fun ks=>ret (nd 10 q 0 0 s ks))))
theorem He {w:World} {rb tb i:Nat} {cap:Cp} {t:Tk} (h:Rd w rb tb cap t i 0 0):
 Calls Tryz.prog 193 #[.pointer (some ⟨rb,0,none⟩)] w (aP w rb tb cap t i True (fun n=>vW t n)):=by
 have hl:=h.l
 have aL:=h.eP
 have hs1:=h.good.nK i
 go_enter Tryz.func193,Tryz.ntmps193
 have q:=Mf.start h
 go_wp2_with fail
 refine(Jb (q.ne' (sz w) (aJ)).st.rd).mono ?_
 rintro e w1 (⟨rfl,hx1,hb1⟩|⟨rfl,hk,hb1⟩)
 rotate_left
 ·have hw:=Cu hb1
  exact⟨rfl,.inr ((q.ne' (sz w) (aJ)).aR hk (by unfold vW;exact wrt))⟩
 have m1:=Ct hb1
 replace q:=(q.ne' (sz w) (aJ)).yh hx1
 clear hx1
 have F:=q.f1
 go_wp2_with fail
 refine(q.ne' (sz w1) (ah 10 (t.pos i) 0 0 (t.text i) nl)).ln (fun hr=>Ma (lives:=true) hr (k:=195) (fi:=#[.pointer (some ⟨rb,0,none⟩)]) (ca:=#[]) Pq (fun{w' j} hr'=>by simpa[Li] using Nv hr')) (fun w' p hk hw=>⟨rfl,.inr ((q.ne' (sz w1) (ah 10 (t.pos i) 0 0 (t.text i) nl)).aR hk (by unfold vW;exact wrt))⟩) ?_
 clear q F
 intro w2 Mc cp2 vs2 i2 V2 hl2 m2 q
 have F:=q.f2
 have hl3:vs2.length≤6001:=by have:=hl2.out.2;have:=q.st.rd.lt;have:=h.good.few;omega
 go_wp2_with fail
 go_light
 exact Mf.rt ((q.fE (.slice Mc vs2.length cp2)).fo 10 (t.pos i) 0 0 (t.text i) (by omega) aL (by omega)) Tryz.results193 1 (by unfold vW;exact bS)
theorem Xx {w:World} {rb tb i:Nat} {cap:Cp} {t:Tk} (h:Rd w rb tb cap t i 0 0):
 Calls Tryz.prog 141 #[.pointer (some ⟨rb,0,none⟩)] w (aP w rb tb cap t i False (fun _=>bnd (dh t) (fun q=>ret (nd 9 q 0 0 E0 [])))):=by
 have hl:=h.l
 have aL:=h.eP
 go_enter Tryz.func141,Tryz.ntmps141
 have q:=Mf.start h
 go_wp2_with fail
 refine(q.ne' (sz w) (aJ)).lf (dx · 9) ?_
 clear q
 intro w1 q
 have F:=q.f1
 go_wp2_with fail
 go_light
 exact Mf.rt (q.lk 9 (t.pos i) 0 0 ⟨#[]⟩ aL) Tryz.results141 0 (by exact bS)
theorem adQ {P:Program} {f:Nat} {a:Value} {w:World} {Q:Ending→World→Prop} (h:Calls P f #[a] w Q):Calls P f (#[a]++#[]) w Q:=by simpa using h
theorem NM {w W:World} {rb tb i j:Nat} {cap:Cp} {t:Tk} {g:Prop} {L:List (Nat × Array Value)} {T:List (List Value)} {kv:Value} {vs:List (List Value)} {X V:List (List Nr)} {b:Nat} {ki po n m:Int} {na:ByteArray} {v:Value} {Q:Ending→World→Prop} (q:Mf w rb tb cap t i g W j ((b,ah ki po n m na v)::L) T kv vs X V)
 (K1:bf t j 0 0 1=true→∀w',Mf w rb tb cap t i True w' (j+1) ((b,ah ki po (t.num j) m na v)::L) T kv vs X V→Q (.returned (.tuple #[])) w')
 (K2:bf t j 0 0 1=false→∀w' s i',s.size≤20000→Hid (j<i')→Ev (fun _=>bG t) ⟨j,0,0⟩ (s,⟨i',0,0⟩)→Mf w rb tb cap t i True w' i' ((b,ah ki po n m s v)::L) T kv vs X V→Q (.returned (.tuple #[])) w')
 (KB:bf t j 0 0 1=false→∀w' (p:Nat),Kp W.heap.size rb W w'→Wr (fun _=>bG t) ⟨j,0,0⟩ p→Q (iQ p) w'):
 Calls Tryz.prog 240 #[.pointer (some ⟨rb,0,none⟩),.pointer (some ⟨b,0,none⟩)] W Q:=by
 have jT:=nT
 have AJ:=CP
 have hl:=q.st.rd.l
 cases hk:bf t j 0 0 1
 ·have hk0:((t.kind j:Int)==1)=false:=(fQ q.st.rd.lt 1).symm.trans hk
  have H2:=aD (K2 hk)
  have HB:=aD (KB hk)
  clear K1 K2 KB hk
  go_enter Tryz.func240,Tryz.ntmps240
  go_wp2_with fail
  refine(jD q.st.rd).mono ?_
  rintro e w1 ⟨rfl,hb1⟩
  have HK:Hid (Kp W.heap.size rb W w1∧W.heap.size≤w1.heap.size):=⟨Kp.of_below hb1,hb1.size⟩
  replace q:=q.below hb1
  clear hb1
  have F:=q.f1
  go_wp2_with fail
  refine q.nm (kD ·) (fun w' p hk hw=>⟨rfl,HB.out w' p (HK.out.1.trans (hk.mono HK.out.2)) hw⟩) ?_
  clear q F
  intro w2 s2 i2 hs2 hl2 m2 q
  have F:=q.f1
  go_wp2_with fail
  go_end0
  exact H2.out _ s2 i2 hs2 hl2 m2 (q.jm s2)
 ·have hk0:((t.kind j:Int)==1)=true:=(fQ q.st.rd.lt 1).symm.trans hk
  have H1:=aD (K1 hk)
  have hj1:=Df q.st.rd.good q.st.rd.lt (by decide) hk
  clear K1 K2 KB hk
  go_enter Tryz.func240,Tryz.ntmps240
  go_wp2_with fail
  refine(jD q.st.rd).mono ?_
  rintro e w1 ⟨rfl,hb1⟩
  replace q:=q.below hb1
  clear hb1
  have F:=q.f1
  go_wp2_with fail
  refine q.yw hj1 ?_
  clear q F
  intro w2 q
  have F:=q.f1
  go_wp2_with fail
  go_end0
  exact H1.out _ (q.pV (t.num j))
theorem Pz {N:Nat} (hE:bH 81 N (fun t n=>gG t n 1)) (hP:bH 239 (N+1) (fun t n=>gG t n 6)) {w:World} {rb tb i:Nat} {cap:Cp} {t:Tk} (h:Rd w rb tb cap t i 0 0) (hN:t.len - i≤N+1):
 Calls Tryz.prog 222 #[.pointer (some ⟨rb,0,none⟩)] w (aP w rb tb cap t i True (fun n=>fK t (gG t n 1) (gG t n 6) n)):=by
 have hl:=h.l
 go_enter Tryz.func222,Tryz.ntmps222
 have q:=Mf.start h
 go_wp2_with fail
 refine(q.ne' (sz w) (aJ)).nd (fun hr=>hP hr hN) (fun w' p hk hw=>⟨rfl,.inr ((q.ne' (sz w) (aJ)).aR hk (Wr.fst hw (fun _ _=>by
  have h1:∀e fu,Sy (eB t (gG t fu 1) fu e):=fun e fu=>by unfold eB;exact aA
  exact Sy.loop (fun e=>h1 e _) _ _)))⟩) ?_
 clear q
 intro w1 x1 i1 y1 hl1 m1 q
 have F:=q.f1
 have HI1:Hid (i<i1):=hl1.out
 clear hl1
 have HS:Hid (∀n e,Sy (eB t (gG t n 1) n e)):=fun n e=>by unfold eB;exact aA
 go_wp2_with fail
 go_loopg [4] (t.len - i1) (fun g _ wr=>∃(x:Nf) (y:List Nr) (j:Nat),g=t.len - j∧Mf w rb tb cap t i True wr j [(sz w1,x.a),(sz w,aJ)] [x.t] nl [] [y] []∧Hid ((∀r,EvL (fun n=>eB t (gG t n 1) n) y ⟨j,0,0⟩ r→EvL (fun n=>eB t (gG t n 1) n) y1 ⟨i1,0,0⟩ r)∧∀p,bZ (fun n=>eB t (gG t n 1) n) y ⟨j,0,0⟩ p→bZ (fun n=>eB t (gG t n 1) n) y1 ⟨i1,0,0⟩ p))
 case atStart=>exact⟨x1,y1,i1,rfl,q.ne' (sz w1) x1.a,⟨fun r h=>h,fun p h=>h⟩⟩
 case round=>
  clear F q
  obtain⟨x,y,j,eD,q,HM⟩:=hrel
  have HG:=@aG _ @eD
  clear eD
  have F:=q.f2
  have lZ:(0:Int)≤(t.pos j:Int)∧(t.pos j:Int)≤7000:=by have:=h.good.qg j;omega
  have hjl:=q.st.rd.lt
  have hij:=q.go trivial
  cases hb1:au t j 0 0 ⟨#[40]⟩
  ·have K1:=aD hb1
   cases hb2:au t j 0 0 ⟨#[46]⟩
   ·have K2:=aD hb2
    clear hb1 hb2
    go_wp2_with fail
    refine q.lf (dx · 24) ?_
    clear q F
    intro w3 q
    have F:=q.f2
    go_wp2_with fail
    refine((q.ne' (sz w3) (nk 24 (t.pos j) (sl (sz w3+1) 1))).m1 (sz w3+1)).et (cO · _ (ask)) ?_
    clear q F
    intro w4 b4 i4 nC m4 q
    have F:=q.f3
    obtain rfl:b4=false:=nC.jE.trans K1.out
    obtain rfl:j=i4:=(nC.no rfl).symm
    go_wp2_with fail
    refine q.et (cO · _ (ask)) ?_
    clear q F
    intro w5 b5 i5 Aa m5 q
    have F:=q.f3
    obtain rfl:b5=false:=Aa.jE.trans K2.out
    obtain rfl:j=i5:=(Aa.no rfl).symm
    go_wp2_with fail
    go_light
    exact Mf.rt q.Um Tryz.results222 2 (Ev.ak m1 (HM.out.1 _ (EvL.stop (by have k1:=K1.out;have k2:=K2.out;unfold eB;exact bS))).ev)
   ·have K2:=aD hb2
    clear hb1 hb2
    go_wp2_with fail
    refine q.lf (dx · 24) ?_
    clear q F
    intro w3 q
    have F:=q.f2
    go_wp2_with fail
    refine((q.ne' (sz w3) (nk 24 (t.pos j) (sl (sz w3+1) 1))).m1 (sz w3+1)).et (cO · _ (ask)) ?_
    clear q F
    intro w4 b4 i4 nC m4 q
    have F:=q.f3
    obtain rfl:b4=false:=nC.jE.trans K1.out
    obtain rfl:j=i4:=(nC.no rfl).symm
    go_wp2_with fail
    refine q.et (cO · _ (ask)) ?_
    clear q F
    intro w5 b5 i5 Aa m5 q
    have F:=q.f3
    obtain rfl:b5=true:=Aa.jE.trans K2.out
    obtain rfl:=(Aa.yes rfl).1
    go_wp2_with fail
    refine NM (q.IK 25) ?_ ?_ ?_
    ·intro hk w6 q6
     clear q F
     have q:=q6
     clear q6
     have HK:=aD hk
     clear hk
     have F:=q.f3
     go_wp2_with fail
     have PD:=q.st.rd.lt
     replace q:=(((q.fo 25 (t.pos j) (t.num (j+1)) 0 ⟨#[]⟩ (by simp) lZ).F7 25 (t.pos j) (t.num (j+1)) 0 ⟨#[]⟩ (sl (sz w3+1) 1))).pop
     go_roundg (t.len - (j+1+1))
     case measure=>rw[HG.out];omega
     case rel=>exact⟨⟨25,t.pos j,t.num (j+1),0,⟨#[]⟩,_,1,1⟩,_,j+1+1,rfl,q,⟨fun r hr=>HM.out.1 r (EvL.on (by have k1:=K1.out;have k2:=K2.out;have k3:=HK.out;unfold eB;exact bS) hr),fun p hp=>HM.out.2 p (bZ.on (by have k1:=K1.out;have k2:=K2.out;have k3:=HK.out;unfold eB;exact bS) hp)⟩⟩
    ·intro hk w6 s6 i6 hs6 mq m6 q6
     clear q F
     have q:=q6
     clear q6
     have HK:=aD hk
     clear hk
     have F:=q.f3
     go_wp2_with fail
     have PD:=q.st.rd.lt
     have mq:=mq.out
     replace q:=(((q.fo 25 (t.pos j) 0 0 s6 (by simp) lZ hs6).F7 25 (t.pos j) 0 0 s6 (sl (sz w3+1) 1))).pop
     go_roundg (t.len - i6)
     case measure=>rw[HG.out];omega
     case rel=>exact⟨⟨25,t.pos j,0,0,s6,_,1,1⟩,_,i6,rfl,q,⟨fun r hr=>HM.out.1 r (EvL.on (by have k1:=K1.out;have k2:=K2.out;have k3:=HK.out;unfold eB;exact bS) hr),fun p hp=>HM.out.2 p (bZ.on (by have k1:=K1.out;have k2:=K2.out;have k3:=HK.out;unfold eB;exact bS) hp)⟩⟩
    ·intro hk w6 p hkp hw
     exact⟨rfl,.inr (Mf.aR (q.IK 25) hkp (Wr.snd m1 (HM.out.2 _ (bZ.here (by have k1:=K1.out;have k2:=K2.out;unfold eB;exact wrt) HS.out)).wr))⟩
  ·have K1:=aD hb1
   clear hb1
   go_wp2_with fail
   refine q.lf (dx · 24) ?_
   clear q F
   intro w3 q
   have F:=q.f2
   go_wp2_with fail
   refine((q.ne' (sz w3) (nk 24 (t.pos j) (sl (sz w3+1) 1))).m1 (sz w3+1)).et (cO · _ (ask)) ?_
   clear q F
   intro w4 b4 i4 nC m4 q
   have F:=q.f3
   obtain rfl:b4=true:=nC.jE.trans K1.out
   obtain rfl:=(nC.yes rfl).1
   go_wp2_with fail
   have HTH:Hid (∀p,Wr (fun n=>fC t (gG t n 1) ⟨#[41]⟩ n) ⟨j+1,0,0⟩ p→Wr (fun n=>fK t (gG t n 1) (gG t n 6) n) ⟨i,0,0⟩ p):=fun p hw=>Wr.snd m1 (HM.out.2 _ (bZ.here (by have k1:=K1.out;unfold eB;exact wrt) HS.out)).wr
   have HNN:Hid (∀m,j+1≤m→m<t.len→t.len - m≤N):=fun m h1 h2=>by omega
   go_region_law (first|(refine q.Px Jc AL (by simp) (by have:=xQ.out.2.1;have:=q.st.rd.lt;have:=h.good.few;omega) ?_;clear q F AL;intro w7 zY yj q;have F:=q.f3)|(go_simp;refine q.lh (fun hr=>oN hr (mm:=fun n=>fC t (gG t n 1) ⟨#[41]⟩ n) (ask) (fun _=>ask) (fun _=>lit) UF (mH (t:=t) (en:=⟨#[41]⟩) (fun n=>dM _ _ _) |>.maybe (lit) (lit)).1 (mH (t:=t) (en:=⟨#[41]⟩) (fun n=>dM _ _ _) |>.maybe (lit) (lit)).2 (fun{w' j} hr' hj=>adQ (hE hr' (HNN.out _ hj hr'.lt)))) (fun w' p hk hw=>⟨rfl,.inr (q.aR hk (HTH.out _ hw))⟩) ?_;clear q F;intro w6 aa2 aa3 ng i5 V5 xQ Jc AL m5 q;have F:=q.f3)|(replace q:=q.drew;go_simp;refine q.lf (fun _=>Av _) ?_;clear q F;intro w5 q;have F:=q.f3))
   all_goals
    replace q:=q.fE (.slice zY (1+ng.length) yj)
    have F:=q.f3
    go_wp2_with fail
    have PD:=q.st.rd.lt
    have mq:=xQ.out.1
    have zZ:=xQ.out.2.1
    have oC:=h.good.few
    replace q:=(((q.fo 24 (t.pos j) 0 0 ⟨#[]⟩ (by simp;omega) lZ).F7 24 (t.pos j) 0 0 ⟨#[]⟩ (.slice zY (1+ng.length) yj))).pop
    go_roundg (t.len - i5)
    case measure=>rw[HG.out];omega
    case rel=>exact⟨⟨24,t.pos j,0,0,⟨#[]⟩,zY,1+ng.length,yj⟩,_,i5,rfl,q,⟨fun r hr=>HM.out.1 r (EvL.on (by have k1:=K1.out;unfold eB;exact bS) hr),fun p hp=>HM.out.2 p (bZ.on (by have k1:=K1.out;unfold eB;exact bS) hp)⟩⟩
end Go.Proofs.YtdplogkmkgekdaaGreatDoor.Pj
