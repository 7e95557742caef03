/- The project's parser: lists. -/
import Derived.Test.YtdplogkmkgekdaaGreatDoorPkj
import Derived.Test.YtdplogkmkgekdaaGreatDoorTypes
set_option linter.all false
set_option maxRecDepth 100000
set_option maxHeartbeats 4000000
namespace Go.Proofs.YtdplogkmkgekdaaGreatDoor.Pj
open Go.RowKit
@[go_sem] theorem run_stf (P:Program) (w:World) (a:Addr) (m:Mode) (fn:Fn) (first captured:Array Value):(store a (.func fn first captured) m).run P w=stored P w a (.func fn first captured) m:=run_store P w a _ m rfl
def eH (t:Tk) (i:Nat) (es:List gZ):Option gZ:=es.find? (fun e=>au t i 0 0 e.txt)
def uT (w:World) (bd vb:Nat) (lC:List (Nat × List gZ)):Prop:=∃cs:Array Value,w.heap[vb]? =some (.cells cs 72 (0,0))∧∀(k a:Nat) (es:List gZ),lC[k]? =some (a,es)→cs[k]? =some (Value.slice (some ⟨a,0,none⟩) es.length es.length)∧mY w bd a es∧(∀e∈es,e.txt∈gL)∧es.length≤10
def aeV (w:World) (bd:Nat) (t:Tk) (i:Nat) (es:List gZ) (v:Value):Prop:=(∃e,eH t i es=some e∧nP w bd e v)∨(eH t i es=none∧v=.nilFunc)
theorem Pg {t:Tk} {i:Nat} {lC:List (Nat × List gZ)} {k m a:Nat} {es:List gZ} {e:gZ} (hk:lC[k]? =some (a,es)) (hm:es[m]? =some e) (h1:∀x∈(lC.take k).flatMap (·.2),au t i 0 0 x.txt=false) (h2:∀x∈es.take m,au t i 0 0 x.txt=false) (h:au t i 0 0 e.txt=true):eH t i (lC.flatMap (·.2))=some e:=by
 have e1:lC=lC.take k++(a,es)::lC.drop (k+1):=by
  obtain⟨hlt,hv⟩:=List.getElem?_eq_some_iff.1 hk
  rw[←hv,←List.drop_eq_getElem_cons hlt,List.take_append_drop]
 have e2:es=es.take m++e::es.drop (m+1):=by
  obtain⟨hlt,hv⟩:=List.getElem?_eq_some_iff.1 hm
  rw[←hv,←List.drop_eq_getElem_cons hlt,List.take_append_drop]
 unfold eH
 rw[e1,List.flatMap_append,List.find?_append,List.find?_eq_none.2 (fun x hx=>by simp[h1 x hx])]
 rw[List.flatMap_cons]
 show((es++_).find? _)=_
 rw[e2,List.append_assoc,List.find?_append,List.find?_eq_none.2 (fun x hx=>by simp[h2 x hx])]
 simp[h]
theorem Ga {α:Type} {l:List α} {m:Nat} {e:α} (hm:l[m]? =some e):l.take (m+1)=l.take m++[e]:=by
 rw[List.take_add_one,hm];rfl
theorem nP.func {w:World} {bd:Nat} {e:gZ} {v:Value} (h:nP w bd e v):∃c ts,v=.func c #[] ts:=by
 unfold nP at h
 split at h
 ·obtain⟨b1,b2,_,_,h3,_⟩:=h
  exact⟨_,_,h3⟩
 ·exact⟨_,_,h⟩
theorem IU {w:World} {rb tb i:Nat} {cap:Cp} {t:Tk} (h:Rd w rb tb cap t i 0 0) {vb n:Nat} {lC:List (Nat × List gZ)} (hv:uT w cap.bd vb lC) (hn:n=lC.length) (hn2:n≤2):
 Calls Tryz.prog 197 #[.pointer (some ⟨rb,0,none⟩),.slice (some ⟨vb,0,none⟩) n n] w fun e w'=>∃v,e=.returned v∧aeV w' cap.bd t i (lC.flatMap (·.2)) v∧Below w.heap.size w w':=by
 subst hn
 go_enter Tryz.func197,Tryz.ntmps197
 obtain⟨cs,hvb,hcs⟩:=hv
 have hvl:vb<w.heap.size:=(Array.getElem?_eq_some_iff.1 hvb).1
 have HV:=@aG _ @hvb
 have HC:=aD hcs
 have hbr:=h.bl
 have hrl:=h.l
 clear hvb hcs
 go_wp2_with fail
 go_loopg [11] (lC.length) (fun g v wr=>∃k:Nat,g=lC.length - k∧v=.int .i64 k∧k≤lC.length∧Below w.heap.size w wr∧Hid (∀x∈(lC.take k).flatMap (·.2),au t i 0 0 x.txt=false))
 case atStart=>exact⟨0,rfl,rfl,by omega,Below.refl _ _,fun x hx=>by simp at hx⟩
 case round=>
  obtain⟨k,eD,rfl,hkn,hb1,HF⟩:=hrel
  have HG:=@aG _ @eD
  clear eD
  rcases Nat.lt_or_ge k lC.length with hk|hk
  ·obtain⟨⟨a,es⟩,hes⟩:∃x,lC[k]? =some x:=⟨_,List.getElem?_eq_getElem (by omega)⟩
   obtain⟨x1,x2,x3,x4⟩:=HC.out k a es hes
   have hes10:=x4
   have ck:wr.cell? ⟨vb,k,none⟩=some (.slice (some ⟨a,0,none⟩) es.length es.length):=by
    rw[cell_of_row wr vb k _ 72 (0,0) ((hb1.block vb hvl).trans HV.out)]
    exact x1
   have Uy:(k:Int)<(lC.length:Int):=by omega
   have X2:=@aG _ @x2
   have X3:=@aG _ @x3
   have HES:=@aG _ @hes
   clear x1 x2 x3 hes
   go_wp2_with fail
   go_loopg [17] (es.length) (fun g v wr2=>∃m:Nat,g=es.length - m∧v=.int .i64 m∧m≤es.length∧Below w.heap.size w wr2∧Hid (∀x∈es.take m,au t i 0 0 x.txt=false))
   case atStart=>exact⟨0,rfl,rfl,by omega,hb1,fun x hx=>by simp at hx⟩
   case round=>
    obtain⟨m,hgm,rfl,hmn,hb2,IV⟩:=hrel
    have HG2:=@aG _ @hgm
    clear hgm
    rcases Nat.lt_or_ge m es.length with hm|hm
    ·obtain⟨e,he⟩:∃x,es[m]? =some x:=⟨_,List.getElem?_eq_getElem hm⟩
     obtain⟨ha,cs2,hc2,hcs2⟩:=X2.out
     obtain⟨y1,v,y2,y3⟩:=hcs2 m e he
     have hal:a<w.heap.size:=by omega
     have c0:wr.cell? ⟨a,m*2,none⟩=some (.string e.txt):=by
      rw[cell_of_row wr a _ _ 94 (0,0) ((hb2.block a hal).trans hc2)]
      exact y1
     have c1:wr.cell? ⟨a,m*2+1,none⟩=some v:=by
      rw[cell_of_row wr a _ _ 94 (0,0) ((hb2.block a hal).trans hc2)]
      exact y2
     have hmI:(m:Int)<(es.length:Int):=by omega
     have HE:=@aG _ @he
     have HA:Hid (e.txt∈gL):=X3.out e (List.mem_of_getElem? he)
     obtain⟨cc,ts,rfl⟩:=nP.func y3
     have HV2:=@aG _ @y3
     have hrd:=h.below hb2
     have hsz:=hb2.size
     clear y1 y2 y3 hc2 hcs2 he
     cases hb:au t i 0 0 e.txt
     ·have HB:=@aG _ @hb
      go_wp2_with (go_at_call 89;refine(iX (hrd.alloc _) _ HA.out).mono ?_;rintro e w3 ⟨rfl,hb3⟩)
      have hb4:Below w.heap.size w w3:=(hb2.alloc hsz _).trans (hb3.mono (by simp;omega))
      go_roundg (es.length - (m+1))
      case measure=>rw[HG2.out];omega
      case rel=>exact⟨m+1,rfl,by go_num,by omega,hb4,fun x hx=>by
       rw[Ga HE.out] at hx
       rcases List.mem_append.1 hx with hx|hx
       ·exact IV.out x hx
       ·obtain rfl:x=e:=by simpa using hx
        exact HB.out⟩
     ·have HB:=@aG _ @hb
      go_wp2_with (go_at_call 89;refine(iX (hrd.alloc _) _ HA.out).mono ?_;rintro e w3 ⟨rfl,hb3⟩;obtain⟨hc3,hf3⟩:=Nc hb3)
      go_ret
      have hb4:Below w.heap.size w w3:=(hb2.alloc hsz _).trans (hb3.mono (by simp;omega))
      exact⟨_,rfl,.inl ⟨e,Pg HES.out HE.out HF.out IV.out HB.out,HV2.out.of (fun j hj=>hb4.block j (by omega))⟩,hb4⟩
    ·have hmI:((m:Int)<(es.length:Int))=False:=by simp;omega
     have HM:Hid (m=es.length):=by show m=es.length;omega
     go_wp2_with fail
     go_roundg (lC.length - (k+1))
     case measure=>rw[HG.out];omega
     case rel=>exact⟨k+1,rfl,by go_num,by omega,hb2,fun x hx=>by
      rw[Ga HES.out,List.flatMap_append] at hx
      rcases List.mem_append.1 hx with hx|hx
      ·exact HF.out x hx
      ·have hx2:x∈es:=by simpa using hx
       exact IV.out x (by rw[HM.out,List.take_length];exact hx2)⟩
  ·have Uy:((k:Int)<(lC.length:Int))=False:=by simp;omega
   have HK:Hid (k=lC.length):=by show k=lC.length;omega
   go_wp2_with fail
   go_ret
   refine⟨_,rfl,.inr ⟨List.find?_eq_none.2 (fun x hx=>?_),rfl⟩,hb1⟩
   have:=HF.out x (by rw[HK.out,List.take_length];exact hx)
   simp[this]
@[go_sem] theorem eql_func (fn:Fn) (a b:Array Value) (w:World):(binOp .eql 92 (.func fn a b) .nilFunc).run Tryz.prog w=.ok (.bool false) w:=by kernel_rfl
@[go_sem] theorem eql_nil (w:World):(binOp .eql 92 .nilFunc .nilFunc).run Tryz.prog w=.ok (.bool true) w:=by kernel_rfl
def nQ (w:World) (bd:Nat) (e:gZ) (ts:Array Value):Prop:=if e.fn=144 then ∃b1 b2,b1<bd∧b2<bd∧ts=#[.pointer (some ⟨b1,0,none⟩),.pointer (some ⟨b2,0,none⟩)]∧w.heap[b1]? =some (.cells #[.int .i64 e.bk] 3 (0,0))∧w.heap[b2]? =some (.cells #[.int .i64 e.bn] 3 (0,0)) else ts=#[]
theorem nP.parts {w:World} {bd:Nat} {e:gZ} {v:Value} (h:nP w bd e v):∃ts,v=.func (.func e.fn) #[] ts∧nQ w bd e ts:=by
 unfold nP at h
 unfold nQ
 split at h
 ·rename_i hf
  obtain⟨b1,b2,h1,h2,h3,h4,h5⟩:=h
  exact⟨_,by rw[hf];exact h3,by rw[if_pos hf];exact⟨b1,b2,h1,h2,rfl,h4,h5⟩⟩
 ·rename_i hf
  exact⟨_,h,by rw[if_neg hf]⟩
theorem uT.of {w w':World} {bd vb:Nat} {lC:List (Nat × List gZ)} (h:uT w bd vb lC) (h1:w'.heap[vb]? =w.heap[vb]?) (hb:∀k,k<bd→w'.heap[k]? =w.heap[k]?):uT w' bd vb lC:=by
 obtain⟨cs,h2,h3⟩:=h
 refine⟨cs,h1.trans h2,fun k a es he=>?_⟩
 obtain⟨x1,x2,x3,x4⟩:=h3 k a es he
 exact⟨x1,x2.of hb,x3,x4⟩
theorem uT.alloc {w:World} {bd vb:Nat} {lC:List (Nat × List gZ)} (h:uT w bd vb lC) (o:Obj) (hbd:bd≤w.heap.size):uT (w.alloc o) bd vb lC:=
 h.of (Below.heap_alloc _ _ _ (by obtain⟨cs,h2,_⟩:=h;exact(Array.getElem?_eq_some_iff.1 h2).1)) (fun k hk=>Below.heap_alloc _ _ _ (by omega))
def fZ (f:Nat):Prop:=∀args w,(callFunc f args).run Tryz.prog w=.ok (.enter f args) w
theorem dN {f : Nat} {fn : Func} {c : Code} (hf : Tryz.prog.funcs[f]? = some fn) (hname : (fn.name == "runtime.NumGoroutine") = false) (hb : fn.body = some c) : fZ f := fun args w => by
 have h1 : ¬ fn.name = "runtime.NumGoroutine" := by simpa using hname
 simp[callFunc,hf,h1,hb]
theorem adu:fZ 61:=dN (f:=61) (fn:=Tryz.f61) (by kernel_rfl) (by kernel_rfl) rfl
theorem adv:fZ 62:=dN (f:=62) (fn:=Tryz.f62) (by kernel_rfl) (by kernel_rfl) rfl
theorem adw:fZ 63:=dN (f:=63) (fn:=Tryz.f63) (by kernel_rfl) (by kernel_rfl) rfl
theorem adx:fZ 64:=dN (f:=64) (fn:=Tryz.f64) (by kernel_rfl) (by kernel_rfl) rfl
theorem ady:fZ 66:=dN (f:=66) (fn:=Tryz.f66) (by kernel_rfl) (by kernel_rfl) rfl
theorem Uz:fZ 67:=dN (f:=67) (fn:=Tryz.f67) (by kernel_rfl) (by kernel_rfl) rfl
theorem adz:fZ 68:=dN (f:=68) (fn:=Tryz.f68) (by kernel_rfl) (by kernel_rfl) rfl
theorem adA:fZ 71:=dN (f:=71) (fn:=Tryz.f71) (by kernel_rfl) (by kernel_rfl) rfl
theorem adB:fZ 72:=dN (f:=72) (fn:=Tryz.f72) (by kernel_rfl) (by kernel_rfl) rfl
theorem adC:fZ 73:=dN (f:=73) (fn:=Tryz.f73) (by kernel_rfl) (by kernel_rfl) rfl
theorem adD:fZ 74:=dN (f:=74) (fn:=Tryz.f74) (by kernel_rfl) (by kernel_rfl) rfl
theorem adE:fZ 75:=dN (f:=75) (fn:=Tryz.f75) (by kernel_rfl) (by kernel_rfl) rfl
theorem adF:fZ 76:=dN (f:=76) (fn:=Tryz.f76) (by kernel_rfl) (by kernel_rfl) rfl
theorem adG:fZ 77:=dN (f:=77) (fn:=Tryz.f77) (by kernel_rfl) (by kernel_rfl) rfl
theorem adH:fZ 78:=dN (f:=78) (fn:=Tryz.f78) (by kernel_rfl) (by kernel_rfl) rfl
theorem adI:fZ 79:=dN (f:=79) (fn:=Tryz.f79) (by kernel_rfl) (by kernel_rfl) rfl
theorem adJ:fZ 80:=dN (f:=80) (fn:=Tryz.f80) (by kernel_rfl) (by kernel_rfl) rfl
theorem adK:fZ 82:=dN (f:=82) (fn:=Tryz.f82) (by kernel_rfl) (by kernel_rfl) rfl
theorem adL:fZ 83:=dN (f:=83) (fn:=Tryz.f83) (by kernel_rfl) (by kernel_rfl) rfl
theorem adM:fZ 84:=dN (f:=84) (fn:=Tryz.f84) (by kernel_rfl) (by kernel_rfl) rfl
theorem adN:fZ 85:=dN (f:=85) (fn:=Tryz.f85) (by kernel_rfl) (by kernel_rfl) rfl
theorem rD:fZ 144:=dN (f:=144) (fn:=Tryz.f144) (by kernel_rfl) (by kernel_rfl) rfl
theorem l9:∀e∈qb,fZ e.fn:=by
 intro e he
 simp only[qb,List.mem_cons,List.not_mem_nil,or_false] at he
 rcases he with rfl|rfl|rfl|rfl
 ·exact adu
 ·exact adv
 ·exact adw
 ·exact adx
theorem mg:∀e∈qb,e.txt∈gL:=by
 intro e he
 simp only[qb,List.mem_cons,List.not_mem_nil,or_false] at he
 rcases he with rfl|rfl|rfl|rfl
 all_goals exact ask
theorem Ld:∀e∈qV,fZ e.fn:=by
 intro e he
 simp only[qV,List.mem_cons,List.not_mem_nil,or_false] at he
 rcases he with rfl|rfl|rfl|rfl|rfl|rfl
 ·exact rD
 ·exact rD
 ·exact ady
 ·exact Uz
 ·exact Uz
 ·exact adz
theorem Lf:∀e∈qV,e.txt∈gL:=by
 intro e he
 simp only[qV,List.mem_cons,List.not_mem_nil,or_false] at he
 rcases he with rfl|rfl|rfl|rfl|rfl|rfl
 all_goals exact ask
theorem Cq:∀e∈fJ,fZ e.fn:=by
 intro e he
 simp only[fJ,List.mem_cons,List.not_mem_nil,or_false] at he
 rcases he with rfl|rfl|rfl|rfl|rfl
 ·exact adA
 ·exact adB
 ·exact adC
 ·exact adD
 ·exact adE
theorem xM:∀e∈fJ,e.txt∈gL:=by
 intro e he
 simp only[fJ,List.mem_cons,List.not_mem_nil,or_false] at he
 rcases he with rfl|rfl|rfl|rfl|rfl
 all_goals exact ask
theorem IW:∀e∈oD,fZ e.fn:=by
 intro e he
 simp only[oD,List.mem_cons,List.not_mem_nil,or_false] at he
 rcases he with rfl|rfl|rfl|rfl|rfl|rfl|rfl|rfl|rfl|rfl
 ·exact rD
 ·exact rD
 ·exact rD
 ·exact rD
 ·exact rD
 ·exact adF
 ·exact adG
 ·exact adH
 ·exact adI
 ·exact adJ
theorem IX:∀e∈oD,e.txt∈gL:=by
 intro e he
 simp only[oD,List.mem_cons,List.not_mem_nil,or_false] at he
 rcases he with rfl|rfl|rfl|rfl|rfl|rfl|rfl|rfl|rfl|rfl
 all_goals exact ask
theorem Ny:∀e∈tJ,fZ e.fn:=by
 intro e he
 simp only[tJ,List.mem_cons,List.not_mem_nil,or_false] at he
 rcases he with rfl|rfl|rfl|rfl|rfl|rfl|rfl
 ·exact rD
 ·exact rD
 ·exact rD
 ·exact adK
 ·exact adL
 ·exact adM
 ·exact adN
theorem Nz:∀e∈tJ,e.txt∈gL:=by
 intro e he
 simp only[tJ,List.mem_cons,List.not_mem_nil,or_false] at he
 rcases he with rfl|rfl|rfl|rfl|rfl|rfl|rfl
 all_goals exact ask
theorem pO {t:Tk} {i:Nat} {es:List gZ} {e:gZ} (h:eH t i es=some e):e∈es:=List.mem_of_find?_eq_some h
theorem UC {w:World} {rb tb i:Nat} {cap:Cp} {t:Tk} (h:Rd w rb tb cap t i 0 0) {vb n:Nat} {lC:List (Nat × List gZ)} {m:Nat→GP (List Nr)} (hv:uT w cap.bd vb lC) (hn:n=lC.length) (hn2:n≤2) (HI:∀e∈lC.flatMap (·.2),fZ e.fn)
 (H:∀e w' ts,eH t i (lC.flatMap (·.2))=some e→nQ w' cap.bd e ts→Rd w' rb tb cap t i 0 0→Calls Tryz.prog e.fn (#[.pointer (some ⟨rb,0,none⟩)]++ts) w' (aP w' rb tb cap t i True m)) (H0:eH t i (lC.flatMap (·.2))=none→Wr m ⟨i,0,0⟩ (t.pos i)):
 Calls Tryz.prog 151 #[.pointer (some ⟨rb,0,none⟩),.slice (some ⟨vb,0,none⟩) n n] w (aP w rb tb cap t i True m):=by
 subst hn
 have HH:=aD H
 have HH0:=aD H0
 have HV:=aD (hv.alloc (.cells aJ 28) (by have:=h.bl;have:=h.l;omega))
 have hl:=h.l
 clear H H0 hv
 go_enter Tryz.func151,Tryz.ntmps151
 have q:=Mf.start h
 go_wp2_with fail
 refine(IU (q.ne' (sz w) aJ).st.rd HV.out rfl hn2).mono ?_
 rintro e w1 ⟨v,rfl,(⟨en,he,hv⟩|⟨he,rfl⟩),hb1⟩
 ·obtain⟨ts,rfl,hc⟩:=hv.parts
  replace q:=(q.ne' (sz w) aJ).below hb1
  have HE:=aD he
  have HC:=aD hc
  clear hv he hc hb1
  have F:=q.f1
  have hin:∀args w,(callFunc en.fn args).run Tryz.prog w=.ok (.enter en.fn args) w:=HI en (pO HE.out)
  go_wp2_with fail
  refine q.nd (fun hr=>HH.out en w1 ts HE.out HC.out hr) (fun w' p hk hw=>⟨rfl,.inr (q.aR hk hw)⟩) ?_
  clear q F
  intro w2 x2 i2 y2 hl2 m2 q
  have F:=q.f1
  go_wp2_with fail
  go_light
  exact Mf.rt q Tryz.results151 0 m2
 ·replace q:=(q.ne' (sz w) aJ).below hb1
  have HE:=aD he
  clear he hb1
  have hrd:=q.st.rd
  go_wp2_with (go_at_call 164;refine(D9 hrd).mono ?_;rintro e w2 ⟨rfl,hb2⟩)
  exact⟨rfl,.inr (q.aR (Kp.of_below hb2) (HH0.out HE.out))⟩
abbrev ru:=(List (List Nr) × Nat) ⊕ Int
def dY (t:Tk) (X:Nat→GP (List Nr)) (dU en:ByteArray) (lo:Bool) (j:Nat) (F:List (List Nr)) (r:ru):Prop:=∀P:Nat→List (List Nr)→ru→Prop,
 (∀{j:Nat} {F:List (List Nr)},en.toList.isEmpty=false→au t j 0 0 dU=false→au t j 0 0 en=true→P j F (.inl (F,j+1)))→
 (∀{j:Nat} {F:List (List Nr)},en.toList.isEmpty=true→au t j 0 0 dU=false→P j F (.inl (F,j)))→
 (∀{j:Nat} {F:List (List Nr)},en.toList.isEmpty=false→au t j 0 0 dU=false→au t j 0 0 en=false→P j F (.inr (t.pos j)))→
 (∀{j:Nat} {F:List (List Nr)},lo=true→au t j 0 0 dU=true→au t (j+1) 0 0 en=true→P j F (.inl (F,j+2)))→
 (∀{j:Nat} {F:List (List Nr)} {y:List Nr} {j2:Nat} {r:ru},au t j 0 0 dU=true→(lo=true→au t (j+1) 0 0 en=false)→Ev X ⟨j+1,0,0⟩ (y,⟨j2,0,0⟩)→P j2 (F++[y]) r→P j F r)→
 (∀{j:Nat} {F:List (List Nr)} {p:Int},au t j 0 0 dU=true→(lo=true→au t (j+1) 0 0 en=false)→Wr X ⟨j+1,0,0⟩ p→P j F (.inr p))→P j F r
section
variable {t:Tk} {X:Nat→GP (List Nr)} {dU en:ByteArray} {lo:Bool}
theorem dY.stop {j:Nat} {F:List (List Nr)}:en.toList.isEmpty=false→au t j 0 0 dU=false→au t j 0 0 en=true→dY t X dU en lo j F (.inl (F,j+1)):=fun h1 h2 h3 P wE uK rX pQ wF zx=>wE h1 h2 h3
theorem dY.tL {j:Nat} {F:List (List Nr)}:en.toList.isEmpty=true→au t j 0 0 dU=false→dY t X dU en lo j F (.inl (F,j)):=fun h1 h2 P wE uK rX pQ wF zx=>uK h1 h2
theorem dY.oZ {j:Nat} {F:List (List Nr)}:en.toList.isEmpty=false→au t j 0 0 dU=false→au t j 0 0 en=false→dY t X dU en lo j F (.inr (t.pos j)):=fun h1 h2 h3 P wE uK rX pQ wF zx=>rX h1 h2 h3
theorem dY.mZ {j:Nat} {F:List (List Nr)}:lo=true→au t j 0 0 dU=true→au t (j+1) 0 0 en=true→dY t X dU en lo j F (.inl (F,j+2)):=fun h1 h2 h3 P wE uK rX pQ wF zx=>pQ h1 h2 h3
theorem dY.next {j:Nat} {F:List (List Nr)} {y:List Nr} {j2:Nat} {r:ru}:au t j 0 0 dU=true→(lo=true→au t (j+1) 0 0 en=false)→Ev X ⟨j+1,0,0⟩ (y,⟨j2,0,0⟩)→dY t X dU en lo j2 (F++[y]) r→dY t X dU en lo j F r:=fun h1 h2 h3 h4 P wE uK rX pQ wF zx=>wF h1 h2 h3 (h4 P wE uK rX pQ wF zx)
theorem dY.aR {j:Nat} {F:List (List Nr)} {p:Int}:au t j 0 0 dU=true→(lo=true→au t (j+1) 0 0 en=false)→Wr X ⟨j+1,0,0⟩ p→dY t X dU en lo j F (.inr p):=fun h1 h2 h3 P wE uK rX pQ wF zx=>zx h1 h2 h3
theorem dY.ind {motive:∀(j:Nat) (F:List (List Nr)) (r:ru),dY t X dU en lo j F r→Prop}
 (stop:∀{j:Nat} {F:List (List Nr)} (h0:en.toList.isEmpty=false) (h1:au t j 0 0 dU=false) (h2:au t j 0 0 en=true),motive _ _ _ (dY.stop h0 h1 h2 (t:=t) (X:=X) (dU:=dU) (en:=en) (lo:=lo) (F:=F)))
 (tL:∀{j:Nat} {F:List (List Nr)} (h0:en.toList.isEmpty=true) (h1:au t j 0 0 dU=false),motive _ _ _ (dY.tL h0 h1 (t:=t) (X:=X) (dU:=dU) (en:=en) (lo:=lo) (F:=F)))
 (oZ:∀{j:Nat} {F:List (List Nr)} (h0:en.toList.isEmpty=false) (h1:au t j 0 0 dU=false) (h2:au t j 0 0 en=false),motive _ _ _ (dY.oZ h0 h1 h2 (t:=t) (X:=X) (dU:=dU) (en:=en) (lo:=lo) (F:=F)))
 (mZ:∀{j:Nat} {F:List (List Nr)} (h0:lo=true) (h1:au t j 0 0 dU=true) (h2:au t (j+1) 0 0 en=true),motive _ _ _ (dY.mZ h0 h1 h2 (t:=t) (X:=X) (dU:=dU) (en:=en) (lo:=lo) (F:=F)))
 (next:∀{j:Nat} {F:List (List Nr)} {y:List Nr} {j2:Nat} {r:ru} (h1:au t j 0 0 dU=true) (h2:(lo=true→au t (j+1) 0 0 en=false)) (h3:Ev X ⟨j+1,0,0⟩ (y,⟨j2,0,0⟩)) (h4:dY t X dU en lo j2 (F++[y]) r) (ih:motive _ _ _ h4),motive _ _ _ (dY.next h1 h2 h3 h4 (t:=t) (X:=X) (dU:=dU) (en:=en) (lo:=lo)))
 (aR:∀{j:Nat} {F:List (List Nr)} {p:Int} (h1:au t j 0 0 dU=true) (h2:(lo=true→au t (j+1) 0 0 en=false)) (h3:Wr X ⟨j+1,0,0⟩ p),motive _ _ _ (dY.aR h1 h2 h3 (t:=t) (X:=X) (dU:=dU) (en:=en) (lo:=lo) (F:=F)))
 {j:Nat} {F:List (List Nr)} {r:ru} (h:dY t X dU en lo j F r):motive j F r h:=
 (h (fun j F r=>∃h,motive j F r h) (fun h0 h1 h2=>⟨.stop h0 h1 h2,stop h0 h1 h2⟩) (fun h0 h1=>⟨.tL h0 h1,tL h0 h1⟩) (fun h0 h1 h2=>⟨.oZ h0 h1 h2,oZ h0 h1 h2⟩) (fun h0 h1 h2=>⟨.mZ h0 h1 h2,mZ h0 h1 h2⟩) (fun h1 h2 h3 ⟨h4,ih⟩=>⟨.next h1 h2 h3 h4,next h1 h2 h3 h4 ih⟩) (fun h1 h2 h3=>⟨.aR h1 h2 h3,aR h1 h2 h3⟩)).elim (fun _ k=>k)
def jk (t:Tk) (X:Nat→GP (List Nr)) (dU en:ByteArray) (no lo:Bool) (i:Nat) (r:ru):Prop:=
 (no=true∧au t i 0 0 en=true∧r=.inl ([],i+1))∨(∃y j,(no=true→au t i 0 0 en=false)∧Ev X ⟨i,0,0⟩ (y,⟨j,0,0⟩)∧dY t X dU en lo j [y] r)∨∃p,(no=true→au t i 0 0 en=false)∧Wr X ⟨i,0,0⟩ p∧r=.inr p
variable {no:Bool} {i:Nat}
theorem jk.empty (h1:no=true) (h2:au t i 0 0 en=true):jk t X dU en no lo i (.inl ([],i+1)):=.inl ⟨h1,h2,rfl⟩
theorem jk.some {y:List Nr} {j:Nat} {r:ru} (h1:no=true→au t i 0 0 en=false) (h2:Ev X ⟨i,0,0⟩ (y,⟨j,0,0⟩)) (h3:dY t X dU en lo j [y] r):jk t X dU en no lo i r:=.inr (.inl ⟨y,j,h1,h2,h3⟩)
theorem jk.aR {p:Int} (h1:no=true→au t i 0 0 en=false) (h2:Wr X ⟨i,0,0⟩ p):jk t X dU en no lo i (.inr p):=.inr (.inr ⟨p,h1,h2,rfl⟩)
theorem jk.ind {motive:∀r:ru,jk t X dU en no lo i r→Prop} (empty:∀(h1:no=true) (h2:au t i 0 0 en=true),motive _ (jk.empty h1 h2)) (some:∀{y:List Nr} {j:Nat} {r:ru} (h1:no=true→au t i 0 0 en=false) (h2:Ev X ⟨i,0,0⟩ (y,⟨j,0,0⟩)) (h3:dY t X dU en lo j [y] r),motive r (jk.some h1 h2 h3)) (aR:∀{p:Int} (h1:no=true→au t i 0 0 en=false) (h2:Wr X ⟨i,0,0⟩ p),motive _ (jk.aR h1 h2)) {r:ru} (h:jk t X dU en no lo i r):motive r h:=by
 have h':=h
 rcases h' with⟨h1,h2,rfl⟩|⟨y,j,h1,h2,h3⟩|⟨p,h1,h2,rfl⟩
 ·exact empty h1 h2
 ·exact some h1 h2 h3
 ·exact aR h1 h2
end
theorem NA {w W:World} {rb:Nat} {v0 v1 v2 v3:Value} (hl:rb<w.heap.size) (hk:Kp (w.alloc (.cells #[v0,v1,v2,v3] 113)).heap.size rb (w.alloc (.cells #[v0,v1,v2,v3] 113)) W):∀o,W.cell? ⟨w.heap.size,o,none⟩=(#[v0,v1,v2,v3]:Array Value)[o]? :=fun o=>
 cell_of_row W w.heap.size o _ 113 (0,0) ((hk.block _ (by simp) (by omega)).trans (heap_alloc_new w _))
theorem zy {α:Type} {w w1 W w':World} {rb tb i j:Nat} {cap:Cp} {t:Tk} {g:Prop} {L:List (Nat × Array Value)} {T:List (List Value)} {kv:Value} {vs:List (List Value)} {X V:List (List Nr)} (h:Kp w.heap.size rb w w1) (q:Mf w1 rb tb cap t i g W j L T kv vs X V) {p:Nat} (hk:Kp W.heap.size rb W w') {m:Nat→GP α} (hw:Wr m ⟨i,0,0⟩ p):tK w rb ⟨i,0,0⟩ m (iQ p) w':=
 ⟨p,rfl,h.trans ((q.st.kp.trans (hk.mono q.st.size)).mono h.size),hw⟩
theorem o9 {w W:World} {rb tb i j:Nat} {cap:Cp} {t:Tk} {ob:Obj} {kv:Value} {vs:List (List Value)} {F:List (List Nr)} {mm:Nat→GP (List (List Nr))} (h:Rd w rb tb cap t i 0 0) (q:Mf (w.alloc ob) rb tb cap t i True W j [] [] kv vs [] F) (hl:vs.length≤j - i) (hm:Ev mm ⟨i,0,0⟩ (F,⟨j,0,0⟩)):rO w rb tb cap t i True mm (.returned kv) W:=
 (((Mf.start h).alloc ob).list (must:=True) ⟨q.st.rd,q.st.kp,q.le,fun e=>e,fun _ _=>q.go trivial⟩ q.z.kids q.fv |>.up (g':=True) (fun _=>q.go trivial)).post (fun x=>x) hl hm
theorem Mf.wb {sx:ByteArray} {w W:World} {rb tb i j:Nat} {cap:Cp} {t:Tk} {g:Prop} {L:List (Nat × Array Value)} {T:List (List Value)} {kv:Value} {vs:List (List Value)} {X V:List (List Nr)} {f:Nat} {args:Array Value} {R:Value} {Q:Ending→World→Prop} (q:Mf w rb tb cap t i g W j L T kv vs X V) (h:Rd W rb tb cap t j 0 0→Calls Tryz.prog f args W fun e w'=>(e=.returned R∧Nx W rb tb cap t j 0 True w' (j+1) 0 0∧au t j 0 0 sx=true)∨(e=iQ (t.pos j)∧Kp W.heap.size rb W w'∧au t j 0 0 sx=false)) (KB:∀w',Kp W.heap.size rb W w'→Hid (au t j 0 0 sx=false)→Q (iQ (t.pos j)) w') (K:∀w',Hid (au t j 0 0 sx=true)→Mf w rb tb cap t i True w' (j+1) L T kv vs X V→Q (.returned R) w'):Calls Tryz.prog f args W Q:=(h q.st.rd).mono fun e w' p=>by
 rcases p with⟨rfl,hx,hb⟩|⟨rfl,hk,hb⟩
 ·exact K w' hb (q.yh hx)
 ·exact KB w' hk hb
theorem oN {w:World} {rb tb i:Nat} {cap:Cp} {t:Tk} (h:Rd w rb tb cap t i 0 0) {dU en:ByteArray} {no lo:Bool} {k:Nat} {fi ca:Array Value} {X:Nat→GP (List Nr)} {mm:Nat→GP (List (List Nr))} (aaO:dU∈gL) (hen:en.toList.isEmpty=false→en∈gL) (he2:no=true∨lo=true→en.toList.isEmpty=false) (hin:fZ k)
 (hm1:∀F j,jk t X dU en no lo i (.inl (F,j))→Ev mm ⟨i,0,0⟩ (F,⟨j,0,0⟩)) (hm2:∀p,jk t X dU en no lo i (.inr p)→Wr mm ⟨i,0,0⟩ p) (HX:∀{w' j},Rd w' rb tb cap t j 0 0→i≤j→Calls Tryz.prog k (fi++ca) w' (aP w' rb tb cap t j True X)):
 Calls Tryz.prog 136 #[.pointer (some ⟨rb,0,none⟩),.agg #[.string dU,.string en,.bool no,.bool lo],.func (.func k) fi ca] w (rO w rb tb cap t i True mm):=by
 have HX:=@aG _ @HX
 have hl:=h.l
 have Ph:=aD hen
 have aaP:=aD aaO
 have HE2:=aD he2
 have om:=aD (And.intro hm1 hm2)
 clear hen aaO he2 hm1 hm2
 have hin2:∀args w,(callFunc k args).run Tryz.prog w=.ok (.enter k args) w:=hin
 clear hin
 cases no
 ·go_enter Tryz.func136,Tryz.ntmps136
  have hk0:Kp w.heap.size rb w (w.alloc (.cells #[.string dU,.string en,.bool false,.bool lo] 113)):=(Kp.refl _ _ _).alloc (Nat.le_refl _) _
  have q:=Mf.start (h.alloc (.cells #[.string dU,.string en,.bool false,.bool lo] 113))
  have IY:Hid (false=true→au t i 0 0 en=false):=fun e=>absurd e (by decide)
  have HC:Hid (∀W:World,Kp (w.alloc (.cells #[.string dU,.string en,.bool false,.bool lo] 113)).heap.size rb (w.alloc (.cells #[.string dU,.string en,.bool false,.bool lo] 113)) W→∀o,W.cell? ⟨w.heap.size,o,none⟩=(#[.string dU,.string en,.bool false,.bool lo]:Array Value)[o]?):=fun W hk=>NA hl hk
  go_wp2_with fail
  refine q.nd (HX.out · (Nat.le_refl _)) (fun w' p hk hw=>⟨rfl,.inr (zy hk0 q hk (om.out.2 _ (.aR (fun e=>IY.out (by simpa using e)) hw)))⟩) ?_
  clear q
  intro wA xA iA yA hlA mA q
  go_wp2_with fail
  replace om:Hid ((∀F j,dY t X dU en lo iA [yA] (.inl (F,j))→Ev mm ⟨i,0,0⟩ (F,⟨j,0,0⟩))∧∀p,dY t X dU en lo iA [yA] (.inr p)→Wr mm ⟨i,0,0⟩ p):=⟨fun F j h=>om.out.1 F j (.some (fun e=>IY.out (by simpa using e)) mA h),fun p h=>om.out.2 p (.some (fun e=>IY.out (by simpa using e)) mA h)⟩
  go_loopg [7] (t.len - iA) (fun g v wr=>∃ao cp vs F j,g=t.len - j∧v=.slice ao vs.length cp∧Mf (w.alloc (.cells #[.string dU,.string en,.bool false,.bool lo] 113)) rb tb cap t i True wr j [] [] v vs [] F∧vs.length≤j - i∧Hid (∀r,dY t X dU en lo j F r→dY t X dU en lo iA [yA] r))
  case atStart=>exact⟨some ⟨sz wA,0,none⟩,1,[xA.a.toList],[yA],iA,rfl,rfl,q.m1 (sz wA),by have:=hlA.out;simp;omega,fun r hr=>hr⟩
  case round=>
   obtain⟨ao,cp,vs,F,j,eD,rfl,q,hvs,HM⟩:=hrel
   have HG:=@aG _ @eD
   clear eD
   have cR:=HC.out wr q.st.kp
   have hjl:=q.st.rd.lt
   have hij:=q.go trivial
   have oC:=h.good.few
   have tN:=@aG _ @hvs
   have lR:w.heap.size<wr.heap.size:=by have:=q.st.size;simp at this;omega
   go_wp2_with fail
   refine q.et (cO · _ aaP.out) ?_
   clear q cR lR
   intro w3 b3 j3 eu m3 q
   have cR:=HC.out w3 q.st.kp
   have lR:w.heap.size<w3.heap.size:=by have:=q.st.size;simp at this;omega
   have hj3:=eu.le
   have Eb:=eu.yes
   have HB:=aD eu.jE.symm
   cases b3
   ·have HJ:Hid (j3=j):=eu.no rfl
    clear eu
    cases hem:en.toList.isEmpty
    ·have Au:=aD hem
     go_wp2_with fail
     refine q.wb (dw · _ (Ph.out Au.out)) (fun w' hk hb=>⟨rfl,.inr (zy hk0 q hk (om.out.2 _ (HM.out _ (by rw[HJ.out] at hb⊢;exact .oZ Au.out HB.out hb.out))))⟩) ?_
     clear q cR
     intro w4 hb4 q
     go_wp2_with fail
     go_ret
     exact o9 (h:=h) q (by have:=tN.out;have:=HJ.out;omega) (om.out.1 _ _ (HM.out _ (by have hb4:=hb4.out;rw[HJ.out] at hb4⊢;exact .stop Au.out HB.out hb4)))
    ·have Au:=aD hem
     go_wp2_with fail
     go_ret
     exact o9 (h:=h) q (by have:=tN.out;have:=HJ.out;omega) (om.out.1 _ _ (HM.out _ (by rw[HJ.out];exact .tL Au.out HB.out)))
   ·clear eu
    have HJ:Hid (j3=j+1):=(Eb rfl).1
    cases lo
    ·go_wp2_with fail
     refine q.nd (HX.out · (by omega)) (fun w' p hk hw=>⟨rfl,.inr (zy hk0 q hk (om.out.2 _ (HM.out _ (.aR HB.out (fun e=>absurd e (by decide)) (HJ.out▸hw)))))⟩) ?_
     clear q cR
     intro w5 x5 i5 y5 hl5 m5 q
     have cR:=HC.out w5 q.st.kp
     go_wp2_with (at_builtin;refine q.ap (sz w5) (Nat.le_trans tN.out (by omega)) ?_;clear q cR;intro w6 mh mo q)
     have hgo:=fun r hr=>HM.out r (.next HB.out (fun e=>absurd e (by decide)) (HJ.out▸m5) hr)
     have IZ:=hl5.out
     have Hu:=q.st.rd.lt
     have UD:=HJ.out
     go_roundg (t.len - i5)
     case measure=>rw[HG.out];omega
     case rel=>exact⟨mh,mo,vs++[x5.t],F++[y5],i5,rfl,by rw[List.length_append];rfl,q,by rw[List.length_append];have:=tN.out;simp;omega,hgo⟩
    ·go_wp2_with fail
     refine q.et (cO · _ (Ph.out (HE2.out (.inr (by simp))))) ?_
     clear q cR lR
     intro w7 b7 j7 wG m7 q
     have cR:=HC.out w7 q.st.kp
     have lR:w.heap.size<w7.heap.size:=by have:=q.st.size;simp at this;omega
     have hj7:=wG.le
     cases b7
     ·have Ec:Hid (au t (j+1) 0 0 en=false):=by show au t (j+1) 0 0 en=false;rw[←HJ.out];exact wG.jE.symm
      replace HJ:Hid (j7=j+1):=(wG.no rfl).trans HJ.out
      clear wG
      go_wp2_with fail
      refine q.nd (HX.out · (by omega)) (fun w' p hk hw=>⟨rfl,.inr (zy hk0 q hk (om.out.2 _ (HM.out _ (.aR HB.out (fun _=>Ec.out) (HJ.out▸hw)))))⟩) ?_
      clear q cR
      intro w5 x5 i5 y5 hl5 m5 q
      have cR:=HC.out w5 q.st.kp
      go_wp2_with (at_builtin;refine q.ap (sz w5) (Nat.le_trans tN.out (by omega)) ?_;clear q cR;intro w6 mh mo q)
      have hgo:=fun r hr=>HM.out r (.next HB.out (fun _=>Ec.out) (HJ.out▸m5) hr)
      have IZ:=hl5.out
      have Hu:=q.st.rd.lt
      have UD:=HJ.out
      go_roundg (t.len - i5)
      case measure=>rw[HG.out];omega
      case rel=>exact⟨mh,mo,vs++[x5.t],F++[y5],i5,rfl,by rw[List.length_append];rfl,q,by rw[List.length_append];have:=tN.out;simp;omega,hgo⟩
     ·have Ec:Hid (au t (j+1) 0 0 en=true):=by show au t (j+1) 0 0 en=true;rw[←HJ.out];exact wG.jE.symm
      have RS:j7=j+2:=by have:=(wG.yes rfl).1;have:=HJ.out;omega
      clear wG
      go_wp2_with fail
      go_ret
      exact o9 (h:=h) q (by have:=tN.out;omega) (om.out.1 _ _ (HM.out _ (by rw[RS];exact .mZ rfl HB.out Ec.out)))
 ·go_enter Tryz.func136,Tryz.ntmps136
  have hk0:Kp w.heap.size rb w (w.alloc (.cells #[.string dU,.string en,.bool true,.bool lo] 113)):=(Kp.refl _ _ _).alloc (Nat.le_refl _) _
  have q:=Mf.start (h.alloc (.cells #[.string dU,.string en,.bool true,.bool lo] 113))
  go_wp2_with fail
  refine q.et (cO · _ (Ph.out (HE2.out (.inl (by simp))))) ?_
  clear q
  intro w0 b0 j0 hE0 m0 q
  have hj0:=hE0.le
  have HB0:=aD hE0.jE.symm
  cases b0
  ·obtain rfl:i=j0:=(hE0.no rfl).symm
   have cR:=NA hl q.st.kp
   have lR:w.heap.size<w0.heap.size:=by have:=q.st.size;simp at this;omega
   have IY:Hid (true=true→au t i 0 0 en=false):=fun _=>HB0.out
   clear hE0 m0 hj0
   have HC:Hid (∀W:World,Kp (w.alloc (.cells #[.string dU,.string en,.bool true,.bool lo] 113)).heap.size rb (w.alloc (.cells #[.string dU,.string en,.bool true,.bool lo] 113)) W→∀o,W.cell? ⟨w.heap.size,o,none⟩=(#[.string dU,.string en,.bool true,.bool lo]:Array Value)[o]?):=fun W hk=>NA hl hk
   go_wp2_with fail
   refine q.nd (HX.out · (Nat.le_refl _)) (fun w' p hk hw=>⟨rfl,.inr (zy hk0 q hk (om.out.2 _ (.aR (fun e=>IY.out (by simpa using e)) hw)))⟩) ?_
   clear q
   intro wA xA iA yA hlA mA q
   go_wp2_with fail
   replace om:Hid ((∀F j,dY t X dU en lo iA [yA] (.inl (F,j))→Ev mm ⟨i,0,0⟩ (F,⟨j,0,0⟩))∧∀p,dY t X dU en lo iA [yA] (.inr p)→Wr mm ⟨i,0,0⟩ p):=⟨fun F j h=>om.out.1 F j (.some (fun e=>IY.out (by simpa using e)) mA h),fun p h=>om.out.2 p (.some (fun e=>IY.out (by simpa using e)) mA h)⟩
   go_loopg [7] (t.len - iA) (fun g v wr=>∃ao cp vs F j,g=t.len - j∧v=.slice ao vs.length cp∧Mf (w.alloc (.cells #[.string dU,.string en,.bool true,.bool lo] 113)) rb tb cap t i True wr j [] [] v vs [] F∧vs.length≤j - i∧Hid (∀r,dY t X dU en lo j F r→dY t X dU en lo iA [yA] r))
   case atStart=>exact⟨some ⟨sz wA,0,none⟩,1,[xA.a.toList],[yA],iA,rfl,rfl,q.m1 (sz wA),by have:=hlA.out;simp;omega,fun r hr=>hr⟩
   case round=>
    obtain⟨ao,cp,vs,F,j,eD,rfl,q,hvs,HM⟩:=hrel
    have HG:=@aG _ @eD
    clear eD
    have cR:=HC.out wr q.st.kp
    have hjl:=q.st.rd.lt
    have hij:=q.go trivial
    have oC:=h.good.few
    have tN:=@aG _ @hvs
    have lR:w.heap.size<wr.heap.size:=by have:=q.st.size;simp at this;omega
    go_wp2_with fail
    refine q.et (cO · _ aaP.out) ?_
    clear q cR lR
    intro w3 b3 j3 eu m3 q
    have cR:=HC.out w3 q.st.kp
    have lR:w.heap.size<w3.heap.size:=by have:=q.st.size;simp at this;omega
    have hj3:=eu.le
    have Eb:=eu.yes
    have HB:=aD eu.jE.symm
    cases b3
    ·have HJ:Hid (j3=j):=eu.no rfl
     clear eu
     cases hem:en.toList.isEmpty
     ·have Au:=aD hem
      go_wp2_with fail
      refine q.wb (dw · _ (Ph.out Au.out)) (fun w' hk hb=>⟨rfl,.inr (zy hk0 q hk (om.out.2 _ (HM.out _ (by rw[HJ.out] at hb⊢;exact .oZ Au.out HB.out hb.out))))⟩) ?_
      clear q cR
      intro w4 hb4 q
      go_wp2_with fail
      go_ret
      exact o9 (h:=h) q (by have:=tN.out;have:=HJ.out;omega) (om.out.1 _ _ (HM.out _ (by have hb4:=hb4.out;rw[HJ.out] at hb4⊢;exact .stop Au.out HB.out hb4)))
     ·have Au:=aD hem
      go_wp2_with fail
      go_ret
      exact o9 (h:=h) q (by have:=tN.out;have:=HJ.out;omega) (om.out.1 _ _ (HM.out _ (by rw[HJ.out];exact .tL Au.out HB.out)))
    ·clear eu
     have HJ:Hid (j3=j+1):=(Eb rfl).1
     cases lo
     ·go_wp2_with fail
      refine q.nd (HX.out · (by omega)) (fun w' p hk hw=>⟨rfl,.inr (zy hk0 q hk (om.out.2 _ (HM.out _ (.aR HB.out (fun e=>absurd e (by decide)) (HJ.out▸hw)))))⟩) ?_
      clear q cR
      intro w5 x5 i5 y5 hl5 m5 q
      have cR:=HC.out w5 q.st.kp
      go_wp2_with (at_builtin;refine q.ap (sz w5) (Nat.le_trans tN.out (by omega)) ?_;clear q cR;intro w6 mh mo q)
      have hgo:=fun r hr=>HM.out r (.next HB.out (fun e=>absurd e (by decide)) (HJ.out▸m5) hr)
      have IZ:=hl5.out
      have Hu:=q.st.rd.lt
      have UD:=HJ.out
      go_roundg (t.len - i5)
      case measure=>rw[HG.out];omega
      case rel=>exact⟨mh,mo,vs++[x5.t],F++[y5],i5,rfl,by rw[List.length_append];rfl,q,by rw[List.length_append];have:=tN.out;simp;omega,hgo⟩
     ·go_wp2_with fail
      refine q.et (cO · _ (Ph.out (HE2.out (.inr (by simp))))) ?_
      clear q cR lR
      intro w7 b7 j7 wG m7 q
      have cR:=HC.out w7 q.st.kp
      have lR:w.heap.size<w7.heap.size:=by have:=q.st.size;simp at this;omega
      have hj7:=wG.le
      cases b7
      ·have Ec:Hid (au t (j+1) 0 0 en=false):=by show au t (j+1) 0 0 en=false;rw[←HJ.out];exact wG.jE.symm
       replace HJ:Hid (j7=j+1):=(wG.no rfl).trans HJ.out
       clear wG
       go_wp2_with fail
       refine q.nd (HX.out · (by omega)) (fun w' p hk hw=>⟨rfl,.inr (zy hk0 q hk (om.out.2 _ (HM.out _ (.aR HB.out (fun _=>Ec.out) (HJ.out▸hw)))))⟩) ?_
       clear q cR
       intro w5 x5 i5 y5 hl5 m5 q
       have cR:=HC.out w5 q.st.kp
       go_wp2_with (at_builtin;refine q.ap (sz w5) (Nat.le_trans tN.out (by omega)) ?_;clear q cR;intro w6 mh mo q)
       have hgo:=fun r hr=>HM.out r (.next HB.out (fun _=>Ec.out) (HJ.out▸m5) hr)
       have IZ:=hl5.out
       have Hu:=q.st.rd.lt
       have UD:=HJ.out
       go_roundg (t.len - i5)
       case measure=>rw[HG.out];omega
       case rel=>exact⟨mh,mo,vs++[x5.t],F++[y5],i5,rfl,by rw[List.length_append];rfl,q,by rw[List.length_append];have:=tN.out;simp;omega,hgo⟩
      ·have Ec:Hid (au t (j+1) 0 0 en=true):=by show au t (j+1) 0 0 en=true;rw[←HJ.out];exact wG.jE.symm
       have RS:j7=j+2:=by have:=(wG.yes rfl).1;have:=HJ.out;omega
       clear wG
       go_wp2_with fail
       go_ret
       exact o9 (h:=h) q (by have:=tN.out;omega) (om.out.1 _ _ (HM.out _ (by rw[RS];exact .mZ rfl HB.out Ec.out)))
  ·have hy0:=(hE0.yes rfl).1
   clear hE0
   go_wp2_with fail
   go_ret
   exact o9 (h:=h) (q.up (g':=True) (fun _=>by omega)) (by simp) (om.out.1 _ _ (by rw[hy0];exact .empty rfl HB0.out))
end Go.Proofs.YtdplogkmkgekdaaGreatDoor.Pj
