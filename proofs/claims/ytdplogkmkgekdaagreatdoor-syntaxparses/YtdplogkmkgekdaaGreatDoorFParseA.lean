/- The tree of a text, by the grammar: its two results; a fault of the tokens. -/
import Derived.Test.YtdplogkmkgekdaaGreatDoorFDeep
import Derived.Test.YtdplogkmkgekdaaGreatDoorRefTok
set_option linter.all false
set_option maxRecDepth 100000
set_option maxHeartbeats 4000000
namespace Go.Proofs.YtdplogkmkgekdaaGreatDoor
open Go.RowKit
structure TokR where
 kind:Nat
 pos:Nat
 text:ByteArray
 num:Nat
def TokR.cells (r:TokR):List Value:=tokCells r.kind r.pos r.text r.num
structure TokR.ok (r:TokR):Prop where
 name:r.kind=2→nameOK r.text
 posb:r.pos≤6000
 textb:r.text.size≤6000
 numb:r.num≤9223372036854775807
theorem data_len (x:ByteArray):x.data.toList.length=x.size:=by rw[Array.length_toList];rfl
theorem name_ok {s:ByteArray} {i:Nat} (hi:i<s.size) (hl:letN (bat s i)=true):nameOK (s.extract i (runEnd namN s i)):=by
 have hn:namN (bat s i)=true:=by simp[namN,hl]
 have h1:=runEnd_pos hi hn
 have h2:=runEnd_le namN s i (Nat.le_of_lt hi)
 have hsz:(s.extract i (runEnd namN s i)).size=runEnd namN s i - i:=by simp;omega
 refine⟨fun e=>?_,fun hm=>?_⟩
 ·have:(s.extract i (runEnd namN s i)).toList.length=0:=by rw[e];rfl
  rw[Lib.toList_data,data_len] at this
  omega
 ·rw[Lib.toList_data] at hm
  obtain⟨k,hk,e⟩:=List.getElem_of_mem hm
  have hk':k<runEnd namN s i - i:=by
   have h4:=data_len (s.extract i (runEnd namN s i))
   omega
  have hb:(s.extract i (runEnd namN s i))[k]'(by omega)=s[i+k]'(by omega):=by
   rw[ByteArray.getElem_extract]
  have hx:s[i+k]'(by omega)=58:=by rw[←hb];exact e
  have hp:=runEnd_all namN s i (i+k) (by omega) (by omega)
  rw[bat_eq (by omega),hx] at hp
  exact absurd hp (by decide)
theorem one_good {s:ByteArray} {i:Nat} (hs:s.size≤6000) (hi:i<s.size) (he:(one s i).err=0):TokR.ok ⟨(one s i).kind,i,oneText s i (one s i),(one s i).n⟩:=by
 have hstop:=one_stop hi he
 refine⟨fun hk=>?_,by show i≤6000;omega,?_,?_⟩
 ·have hk:(one s i).kind=2:=hk
  show nameOK (oneText s i (one s i))
  by_cases hl:letN (bat s i)=true
  ·have e:=one_letter hl
   unfold oneText
   rw[if_neg (by omega)]
   rw[e] at hk⊢
   by_cases hw:isWord (s.extract i (runEnd namN s i)).toList=true
   ·rw[if_pos hw] at hk
    exact absurd hk (fun e=>by simp at e)
   ·rw[if_neg hw] at hk⊢
    by_cases h20:20<runEnd namN s i - i
    ·rw[if_pos h20] at hk
     exact absurd hk (fun e=>by simp at e)
    ·rw[if_neg h20]
     exact name_ok hi hl
  ·exfalso
   unfold one at hk
   simp only[hl] at hk
   by_cases h1:digN (bat s i)=true
   ·rw[if_pos h1] at hk
    by_cases h2:numVal s i (runEnd digN s i - i)≤9223372036854775807
    ·rw[if_pos h2] at hk;exact absurd hk (fun e=>by simp at e)
    ·rw[if_neg h2] at hk;exact absurd hk (fun e=>by simp at e)
   ·rw[if_neg h1] at hk
    rw[if_neg (by decide)] at hk
    by_cases h2:(bat s i==39&&letN (bat s (i+1)))=true
    ·rw[if_pos h2] at hk
     by_cases h3:21<runEnd namN s (i+1) - i
     ·rw[if_pos h3] at hk;exact absurd hk (fun e=>by simp at e)
     ·rw[if_neg h3] at hk;exact absurd hk (fun e=>by simp at e)
    ·rw[if_neg h2] at hk
     by_cases h3:signLen s i=0
     ·rw[if_pos h3] at hk;exact absurd hk (fun e=>by simp at e)
     ·rw[if_neg h3] at hk;exact absurd hk (fun e=>by simp at e)
 ·show(oneText s i (one s i)).size≤6000
  unfold oneText
  split
  ·decide
  ·simp;omega
 ·show(one s i).n≤9223372036854775807
  unfold one
  by_cases h1:digN (bat s i)=true
  ·rw[if_pos h1]
   by_cases h2:numVal s i (runEnd digN s i - i)≤9223372036854775807
   ·rw[if_pos h2];exact h2
   ·rw[if_neg h2];exact Nat.zero_le _
  ·rw[if_neg h1]
   split
   ·split
    ·exact Nat.zero_le _
    ·split<;>exact Nat.zero_le _
   ·split
    ·split<;>exact Nat.zero_le _
    ·split<;>exact Nat.zero_le _
theorem lex_good {s:ByteArray} (hs:s.size≤6000):∀(b i:Nat) (rs:List TokR) (ts:List (List Value)),i≤s.size→rs.length≤i→(∀r∈rs,r.ok)→lexFrom b s i (rs.map TokR.cells)=.inr ts→
 ∃rs':List TokR,ts=(rs'++[(⟨0,s.size,⟨#[]⟩,0⟩:TokR)]).map TokR.cells∧rs'.length≤6000∧∀r∈rs',r.ok:=by
 intro b
 induction b with
 |zero=>
  intro i rs ts hi hl hr h
  have h':Sum.inr (rs.map TokR.cells++[tokCells 0 s.size ⟨#[]⟩ 0])=(Sum.inr ts:LexOut):=h
  refine⟨rs,?_,by omega,hr⟩
  have:=Sum.inr.inj h'
  rw[←this]
  simp[TokR.cells]
 |succ b ih=>
  intro i rs ts hi hl hr h
  by_cases hlt:i<s.size
  ·cases hb:blankN (bat s i)
   ·by_cases h35:bat s i=35
    ·rw[lex_rem hlt h35] at h
     have h1:=runEnd_le remN s i hi
     have h2:=runEnd_ge remN s i
     exact ih _ rs ts h1 (by omega) hr h
    ·by_cases he:(one s i).err=0
     ·rw[lex_tok hlt hb h35 he] at h
      have h1:=one_stop hlt he
      have h2:=one_good hs hlt he
      refine ih (one s i).stop (rs++[⟨(one s i).kind,i,oneText s i (one s i),(one s i).n⟩]) ts h1.2 (by simp;omega) ?_ (by simpa[TokR.cells,oneCells] using h)
      intro r hm
      rcases List.mem_append.1 hm with hm|hm
      ·exact hr r hm
      ·obtain rfl:r=_:=by simpa using hm
       exact h2
     ·rw[lex_bad hlt hb h35 he] at h
      exact absurd h (by simp)
   ·rw[lex_blank hlt hb] at h
    exact ih _ rs ts (by omega) (by omega) hr h
  ·rw[lex_end hlt] at h
   refine⟨rs,?_,by omega,hr⟩
   have:=Sum.inr.inj h
   rw[←this]
   simp[TokR.cells]
theorem flat_get4 {us:List (List Value)} (h4:∀x∈us,x.length=4):∀{idx:Nat} {x:List Value},us[idx]? =some x→∀o,o<4→us.flatten[idx*4+o]? =x[o]? :=by
 induction us with
 |nil=>intro idx x h;simp at h
 |cons y r ih=>
  intro idx x h o ho
  have hy:=h4 y (List.mem_cons_self ..)
  rw[List.flatten_cons]
  cases idx with
  |zero=>
   obtain rfl:y=x:=by simpa using h
   rw[List.getElem?_append_left (by omega)]
   congr 1
   omega
  |succ idx=>
   rw[List.getElem?_append_right (by omega),hy]
   have:=ih (fun z hz=>h4 z (List.mem_cons_of_mem _ hz)) (idx:=idx) (x:=x) (by simpa using h) o ho
   rw[←this]
   congr 1
   omega
def tokZ:TokR:=⟨0,0,⟨#[]⟩,0⟩
def tkOf (rs:List TokR):Tk:=⟨rs.length,fun j=>((rs[j]?).getD tokZ).kind,fun j=>((rs[j]?).getD tokZ).pos,fun j=>((rs[j]?).getD tokZ).text,fun j=>((rs[j]?).getD tokZ).num⟩
def tkv (ts:List (List Value)):Tk:=⟨ts.length,fun j=>(intOf ((ts.getD j []).getD 0 undef)).toNat,fun j=>(intOf ((ts.getD j []).getD 1 undef)).toNat,fun j=>strOf ((ts.getD j []).getD 2 undef),fun j=>(intOf ((ts.getD j []).getD 3 undef)).toNat⟩
theorem tkv_of (rs:List TokR):tkv (rs.map TokR.cells)=tkOf rs:=by
 have hg:∀j,(rs.map TokR.cells).getD j []=match rs[j]? with|none=>[]|some r=>r.cells:=fun j=>by
  rw[List.getD_eq_getElem?_getD,List.getElem?_map]
  cases rs[j]? <;>rfl
 unfold tkv tkOf
 simp only[List.length_map,hg]
 congr 1<;>(funext j;cases rs[j]? <;>rfl)
theorem tok_reader {s:ByteArray} {w':World} {base:Nat} {v:Value} {ts:List (List Value)} (hs:s.size≤6000) (hl:lexAll s=.inr ts) (ho:w'.ownsRow base 67 4 v ts.length ts.flatten):
 ∃(t:Tk) (tb cap:Nat),t=tkv ts∧v=.slice (some ⟨tb,0,none⟩) t.len cap∧base≤tb∧t.Good∧Row w' tb t:=by
 have hl':lexFrom s.size s 0 ([].map TokR.cells)=.inr ts:=by
  unfold lexAll at hl
  rw[if_neg (by omega)] at hl
  exact hl
 obtain⟨rs',e,hlen,hok⟩:=lex_good hs s.size 0 [] ts (Nat.zero_le _) (Nat.zero_le _) (fun r hr=>by cases hr) hl'
 obtain⟨rs,hrs⟩:∃rs,rs=rs'++[(⟨0,s.size,⟨#[]⟩,0⟩:TokR)]:=⟨_,rfl⟩
 rw[←hrs] at e
 have hokz:∀r∈rs,r.ok:=by
  intro r hr
  rw[hrs] at hr
  rcases List.mem_append.1 hr with hr|hr
  ·exact hok r hr
  ·obtain rfl:r=_:=by simpa using hr
   exact⟨fun h=>absurd h (show ¬(0:Nat)=2 by decide),hs,show(⟨#[]⟩:ByteArray).size≤6000 by decide,Nat.zero_le _⟩
 have hget:∀j:Nat,((rs[j]?).getD tokZ).ok:=by
  intro j
  cases h:rs[j]? with
  |none=>exact⟨fun h=>absurd h (by decide),by decide,by decide,by decide⟩
  |some r=>exact hokz r (List.mem_of_getElem? h)
 have hrl:rs.length=rs'.length+1:=by rw[hrs];simp
 have htl:ts.length=rs.length:=by rw[e];simp
 rcases ho.2 with⟨_,h2⟩|⟨tb,cap,cur,h1,hb,hg,hnc,hcm,hcs,htake⟩
 ·omega
 ·refine⟨tkOf rs,tb,cap,(by rw[e];exact(tkv_of rs).symm),?_,hb,⟨fun j hj=>(hget j).name hj,by show 0<rs.length;omega,by show rs.length≤6001;omega,?_,fun j=>(hget j).posb,fun j=>(hget j).textb,fun j=>(hget j).numb⟩,?_⟩
  ·show v=.slice (some ⟨tb,0,none⟩) rs.length cap
   rw[h1,htl]
  ·show((rs[rs.length - 1]?).getD tokZ).kind=0
   have:rs[rs.length - 1]? =some ⟨0,s.size,⟨#[]⟩,0⟩:=by rw[hrs];simp
   rw[this]
   rfl
  ·have h4:∀x∈ts,x.length=4:=by
    intro x hx
    rw[e] at hx
    obtain⟨r,_,rfl⟩:=List.mem_map.1 hx
    rfl
   have hc:∀j:Nat,j<rs.length→∀o:Nat,o<4→w'.cell? ⟨tb,j*4+o,none⟩=((rs[j]?).getD tokZ).cells[o]? :=by
    intro j hj o ho'
    have hj':rs[j]? =some rs[j]:=List.getElem?_eq_getElem hj
    have hx:ts[j]? =some rs[j].cells:=by rw[e,List.getElem?_map,hj'];rfl
    have hf:=flat_get4 h4 hx o ho'
    have hlt:j*4+o<ts.length*4:=by omega
    rw[cell_of_row w' tb (j*4+o) cur 67 (0,0) hg]
    have e8:(cur.toList.take (ts.length*4))[j*4+o]? =cur[j*4+o]? :=by rw[List.getElem?_take,if_pos hlt];simp
    rw[←e8,htake,hf,hj']
    rfl
   exact⟨(Array.getElem?_eq_some_iff.1 hg).1,fun j hj=>hc j hj 0 (by decide),fun j hj=>hc j hj 1 (by decide),fun j hj=>hc j hj 2 (by decide),fun j hj=>hc j hj 3 (by decide)⟩
end Go.Proofs.YtdplogkmkgekdaaGreatDoor
namespace Go.Proofs.YtdplogkmkgekdaaGreatDoor
open Go.RowKit
def ParseM (s:ByteArray) (k a:Int) (x:List Nr):Prop:=match lexAll s with
 |.inl p=>k=(p.1:Int)∧a=(p.2:Int)
 |.inr ts=>∃r,Ev (fun n=>gProg (tkv ts) n) ⟨0,0,0⟩ r∧(r.2.k≠0→k=r.2.k∧a=r.2.a)∧(r.2.k=0→((∃p,Dp [r.1] 1 (some p)∧k=5∧a=p)∨(Dp [r.1] 1 none∧k=0∧a=0∧x=r.1)))
def ParseF (s:ByteArray) (w0:World) (e:Ending) (w':World):Prop:=
 ∃(kind pos n m:Int) (name:ByteArray) (ko:Option Addr) (kl kc:Nat) (k a:Int) (x:List Nr),e=.returned (.tuple #[.agg (nodeC kind pos n m name (.slice ko kl kc)),.agg #[.int .i64 k,.int .i64 a]])∧Below w0.heap.size w0 w'∧(k=0→kind=0∧NodeIn w0.heap.size True w' (nodeC kind pos n m name (.slice ko kl kc)).toList∧(∀f,nsz f w' (nodeC kind pos n m name (.slice ko kl kc)).toList≤96100)∧Fl w' [(nodeC kind pos n m name (.slice ko kl kc)).toList] [x])∧ParseM s k a x
structure PF (w0 w:World) (rb tb cap:Nat) (t:Tk):Prop where
 rd:Rd w rb tb cap t 0 0 0
 z1:Blk w w0.heap.size zeroC
 z2:w.heap[w0.heap.size+1]? =some (.cells #[.int .i64 0,.int .i64 0] 31 (0,0))
 below:Below w0.heap.size w0 w
 lt:w0.heap.size+1<rb
section
variable {w0 w W:World} {rb tb cap j:Nat} {t:Tk} {kj aj:Int}
theorem PF.keep (hP:PF w0 w rb tb cap t) (st:St w rb tb cap t W j kj aj):Blk W w0.heap.size zeroC∧W.heap[w0.heap.size+1]? =some (.cells #[.int .i64 0,.int .i64 0] 31 (0,0))∧w0.heap.size≠rb∧w0.heap.size+1≠rb∧w0.heap.size≠w0.heap.size+1:=by
 have h1:=hP.lt
 have h2:=st.lb
 exact⟨hP.z1.kp st.kp (by omega),(st.kp.block _ (by omega) (by omega)).trans hP.z2,by omega,by omega,by omega⟩
theorem PF.down (hP:PF w0 w rb tb cap t) (st:St w rb tb cap t W j kj aj):Below w0.heap.size w0 W:=by
 have h1:=hP.lt
 have h2:=st.lb
 have hb:=hP.below
 exact⟨st.kp.os.trans hb.os,st.kp.tape.trans hb.tape,st.kp.output.trans hb.output,Nat.le_trans hb.size st.kp.size,fun k hk=>(st.kp.block k (by have:=hb.size;omega) (by omega)).trans (hb.block k hk)⟩
end
theorem results_two {tmps:Array Value} {b1 b2:Nat} (h1:tmps.getD 2 undef=.pointer (some ⟨b1,0,none⟩)) (h2:tmps.getD 3 undef=.pointer (some ⟨b2,0,none⟩)) {W:World} {c0 c1 c2 c3 c4 c5 c6 c7 c8 c9 c10:Value} {k a:Int} (hB:Blk W b1 #[c0,c1,c2,c3,c4,c5,c6,c7,c8,c9,c10]) (hC:W.heap[b2]? =some (.cells #[.int .i64 k,.int .i64 a] 31 (0,0))):
 (results Tryz.f6 tmps).run Tryz.prog W=.ok (.tuple #[.agg #[c0,c1,c2,c3,c4,c5,c6,c7,c8,c9,c10],.agg #[.int .i64 k,.int .i64 a]]) W:=by
 have y:=hB.cell
 have y2:∀o,W.cell? ⟨b2,o,none⟩=(#[.int .i64 k,.int .i64 a]:Array Value)[o]? :=fun o=>cell_of_row _ _ o _ 31 (0,0) hC
 have h1':tmps[2]?.getD undef=.pointer (some ⟨b1,0,none⟩):=by simpa using h1
 have h2':tmps[3]?.getD undef=.pointer (some ⟨b2,0,none⟩):=by simpa using h2
 simp[results,Tryz.results6,h1',h2',go_sem,y,y2]
theorem parse_ret {act:Act} {w0 wf:World} (hd:act.defers=[]) (h1:act.tmps.getD 2 undef=.pointer (some ⟨w0.heap.size,0,none⟩)) (h2:act.tmps.getD 3 undef=.pointer (some ⟨w0.heap.size+1,0,none⟩)) {kind pos n m:Int} {name:ByteArray} {ko:Option Addr} {kl kc:Nat} {k a:Int}
 (hB:Blk wf w0.heap.size (nodeC kind pos n m name (.slice ko kl kc))) (hC:wf.heap[w0.heap.size+1]? =some (.cells #[.int .i64 k,.int .i64 a] 31 (0,0))) (hb:Below w0.heap.size w0 wf) {s:ByteArray} {x:List Nr} (hn:k=0→kind=0∧NodeIn w0.heap.size True wf (nodeC kind pos n m name (.slice ko kl kc)).toList∧(∀f,nsz f wf (nodeC kind pos n m name (.slice ko kl kc)).toList≤96100)∧Fl wf [(nodeC kind pos n m name (.slice ko kl kc)).toList] [x]) (hM:ParseM s k a x):
 bodyPost Tryz.prog Tryz.f6 (ParseF s w0) .ret act wf:=
 bodyPost_ret (results_two h1 h2 hB hC) hd ⟨kind,pos,n,m,name,ko,kl,kc,k,a,x,rfl,hb,hn,hM⟩
theorem stored_a {W:World} {b:Nat} (hB:Blk W b zeroC) (hC:W.heap[b+1]? =some (.cells #[.int .i64 0,.int .i64 0] 31 (0,0))) (c0 c1 c2 c3 c4 c5 c6 c7 c8 c9 c10:Value) (k a:Int):
 Blk (((set11 W b c0 c1 c2 c3 c4 c5 c6 c7 c8 c9 c10).setCell ⟨b+1,0,none⟩ (.int .i64 k)).setCell ⟨b+1,1,none⟩ (.int .i64 a)) b #[c0,c1,c2,c3,c4,c5,c6,c7,c8,c9,c10]∧(((set11 W b c0 c1 c2 c3 c4 c5 c6 c7 c8 c9 c10).setCell ⟨b+1,0,none⟩ (.int .i64 k)).setCell ⟨b+1,1,none⟩ (.int .i64 a)).heap[b+1]? =some (.cells #[.int .i64 k,.int .i64 a] 31 (0,0)):=by
 have h1:b≠b+1:=by omega
 refine⟨((Blk.set11 hB c0 c1 c2 c3 c4 c5 c6 c7 c8 c9 c10).other (p:=⟨b+1,0,none⟩) h1 _).other (p:=⟨b+1,1,none⟩) h1 _,?_⟩
 have hs:(set11 W b c0 c1 c2 c3 c4 c5 c6 c7 c8 c9 c10).heap[b+1]? =W.heap[b+1]? :=Same.set11 (S:=fun x=>x=b+1) (by omega) c0 c1 c2 c3 c4 c5 c6 c7 c8 c9 c10 (b+1) rfl (Array.getElem?_eq_some_iff.1 hC).1
 have e1:((set11 W b c0 c1 c2 c3 c4 c5 c6 c7 c8 c9 c10).setCell ⟨b+1,0,none⟩ (.int .i64 k)).heap[b+1]? =some (.cells #[.int .i64 k,.int .i64 0] 31 (0,0)):=by
  rw[heap_setCell_same _ (b+1) 0 _ 31 _ (hs.trans hC)]
  rfl
 rw[heap_setCell_same _ (b+1) 1 _ 31 _ e1]
 rfl
theorem below_a {w0 W:World} (h:Below w0.heap.size w0 W) (c0 c1 c2 c3 c4 c5 c6 c7 c8 c9 c10 d e:Value):Below w0.heap.size w0 (((set11 W w0.heap.size c0 c1 c2 c3 c4 c5 c6 c7 c8 c9 c10).setCell ⟨w0.heap.size+1,0,none⟩ d).setCell ⟨w0.heap.size+1,1,none⟩ e):=
 ((Below.set11 h (Nat.le_refl _) c0 c1 c2 c3 c4 c5 c6 c7 c8 c9 c10).setCell (p:=⟨w0.heap.size+1,0,none⟩) (Nat.le_succ _) d).setCell (p:=⟨w0.heap.size+1,1,none⟩) (Nat.le_succ _) e
theorem kind_yes {w:World} {rb tb cap i:Nat} {t:Tk} {k a:Int} (h:Rd w rb tb cap t i k a) (ahead:Nat) (ha:ahead≤2) (q:Int) (hb:kindB t i k ahead q=true):Calls Tryz.prog 19 #[.pointer (some ⟨rb,0,none⟩),.int .i64 ahead,.int .i64 q] w fun e w'=>e=.returned (.bool true)∧Below w.heap.size w w':=by
 have:=kind22 h ahead ha q
 rwa [hb] at this
theorem kind_no {w:World} {rb tb cap i:Nat} {t:Tk} {k a:Int} (h:Rd w rb tb cap t i k a) (ahead:Nat) (ha:ahead≤2) (q:Int) (hb:kindB t i k ahead q=false):Calls Tryz.prog 19 #[.pointer (some ⟨rb,0,none⟩),.int .i64 ahead,.int .i64 q] w fun e w'=>e=.returned (.bool false)∧Below w.heap.size w w':=by
 have:=kind22 h ahead ha q
 rwa [hb] at this
theorem lex_inl {s:ByteArray} {k i:Nat} (h:lexAll s=.inl (k,i)):k≠0:=by
 have go:∀(b i':Nat) (acc:List (List Value)),lexFrom b s i' acc=.inl (k,i)→k≠0:=by
  intro b
  induction b with
  |zero=>intro i' acc h;exact absurd h (by simp[lexFrom])
  |succ b ih=>
   intro i' acc h
   by_cases hlt:i'<s.size
   ·cases hb:blankN (bat s i')
    ·by_cases h35:bat s i'=35
     ·rw[lex_rem hlt h35] at h;exact ih _ _ h
     ·by_cases he:(one s i').err=0
      ·rw[lex_tok hlt hb h35 he] at h;exact ih _ _ h
      ·rw[lex_bad hlt hb h35 he] at h
       simp at h
       rw[←h.1]
       exact he
    ·rw[lex_blank hlt hb] at h;exact ih _ _ h
   ·rw[lex_end hlt] at h;exact absurd h (by simp)
 unfold lexAll at h
 split at h
 ·simp at h;omega
 ·exact go _ _ _ h
theorem two_new (w0:World):Blk ((w0.alloc (.cells zeroC 28)).alloc (.cells #[.int .i64 0,.int .i64 0] 31)) w0.heap.size zeroC∧((w0.alloc (.cells zeroC 28)).alloc (.cells #[.int .i64 0,.int .i64 0] 31)).heap[w0.heap.size+1]? =some (.cells #[.int .i64 0,.int .i64 0] 31 (0,0))∧Below w0.heap.size w0 ((w0.alloc (.cells zeroC 28)).alloc (.cells #[.int .i64 0,.int .i64 0] 31)):=by
 refine⟨(Blk.new w0 zeroC).alloc _,?_,below2 w0 _ _⟩
 have:=heap_alloc_new (w0.alloc (.cells zeroC 28)) (.cells #[.int .i64 0,.int .i64 0] 31)
 simpa using this
theorem parse_ret_ad {act:Act} {w0 W:World} (hd:act.defers=[]) (h1:act.tmps.getD 2 undef=.pointer (some ⟨w0.heap.size,0,none⟩)) (h2:act.tmps.getD 3 undef=.pointer (some ⟨w0.heap.size+1,0,none⟩)) {kind pos n m:Int} {name:ByteArray} {ko:Option Addr} {kl kc:Nat} {k a:Int} (o:Obj)
 (hS:Blk W w0.heap.size (nodeC kind pos n m name (.slice ko kl kc))∧W.heap[w0.heap.size+1]? =some (.cells #[.int .i64 k,.int .i64 a] 31 (0,0))) (hb:Below w0.heap.size w0 W) (hk:k≠0) {s:ByteArray} {x:List Nr} (hM:ParseM s k a x):
 bodyPost Tryz.prog Tryz.f6 (ParseF s w0) .ret act (W.alloc o).drew:=
 parse_ret hd h1 h2 (hS.1.alloc o).drew ((Below.heap_alloc _ _ _ (Array.getElem?_eq_some_iff.1 hS.2).1).trans hS.2) ((hb.alloc hb.size o).drew) (fun e=>absurd e hk) hM
theorem parse_ret_d {act:Act} {w0 W:World} (hd:act.defers=[]) (h1:act.tmps.getD 2 undef=.pointer (some ⟨w0.heap.size,0,none⟩)) (h2:act.tmps.getD 3 undef=.pointer (some ⟨w0.heap.size+1,0,none⟩)) {kind pos n m:Int} {name:ByteArray} {ko:Option Addr} {kl kc:Nat} {k a:Int}
 (hS:Blk W w0.heap.size (nodeC kind pos n m name (.slice ko kl kc))∧W.heap[w0.heap.size+1]? =some (.cells #[.int .i64 k,.int .i64 a] 31 (0,0))) (hb:Below w0.heap.size w0 W) (hk:k≠0) {s:ByteArray} {x:List Nr} (hM:ParseM s k a x):
 bodyPost Tryz.prog Tryz.f6 (ParseF s w0) .ret act W.drew:=
 parse_ret hd h1 h2 hS.1.drew hS.2 hb.drew (fun e=>absurd e hk) hM
theorem parse_ret_p {act:Act} {w0 W:World} (hd:act.defers=[]) (h1:act.tmps.getD 2 undef=.pointer (some ⟨w0.heap.size,0,none⟩)) (h2:act.tmps.getD 3 undef=.pointer (some ⟨w0.heap.size+1,0,none⟩)) {kind pos n m:Int} {name:ByteArray} {ko:Option Addr} {kl kc:Nat} {k a:Int}
 (hS:Blk W w0.heap.size (nodeC kind pos n m name (.slice ko kl kc))∧W.heap[w0.heap.size+1]? =some (.cells #[.int .i64 k,.int .i64 a] 31 (0,0))) (hb:Below w0.heap.size w0 W) {s:ByteArray} {x:List Nr} (hn:k=0→kind=0∧NodeIn w0.heap.size True W (nodeC kind pos n m name (.slice ko kl kc)).toList∧(∀f,nsz f W (nodeC kind pos n m name (.slice ko kl kc)).toList≤96100)∧Fl W [(nodeC kind pos n m name (.slice ko kl kc)).toList] [x]) (hM:ParseM s k a x):
 bodyPost Tryz.prog Tryz.f6 (ParseF s w0) .ret act W:=parse_ret hd h1 h2 hS.1 hS.2 hb hn hM
theorem parse_inl (s:ByteArray) (w0:World) (hm:s.size≤maxLen) {kk ii:Nat} (hL:lexAll s=.inl (kk,ii)):Calls Tryz.prog 6 #[.string s] w0 (ParseF s w0):=by
 have hk0:=lex_inl hL
 have hkI:(((kk:Nat):Int)==0)=false:=by simp;omega
 obtain⟨n1,n2,n3⟩:=two_new w0
 go_enter Tryz.func6,Tryz.ntmps6
 go_wp2_with fail
 refine(tokens7_any s _ hm).mono ?_
 rintro e w1 ⟨hT,hb1⟩
 unfold TokPost at hT
 rw[hL] at hT
 obtain rfl:=hT
 have z1:Blk w1 w0.heap.size zeroC:=n1.below hb1
 have z2:w1.heap[w0.heap.size+1]? =some (.cells #[.int .i64 0,.int .i64 0] 31 (0,0)):=(hb1.block _ (by simp)).trans n2
 have hb:Below w0.heap.size w0 w1:=n3.trans (hb1.mono n3.size)
 clear n1 n2 n3 hb1
 have HB:Hid (Below w0.heap.size w0 w1):=hb
 clear hb
 have c1:=z1.cell
 have f1:=z1.fz
 have l1:=z1.lt
 have c2:∀o,w1.cell? ⟨w0.heap.size+1,o,none⟩=(#[.int .i64 0,.int .i64 0]:Array Value)[o]? :=fun o=>cell_of_row _ _ o _ 31 (0,0) z2
 have f2:∀o,w1.frozen? ⟨w0.heap.size+1,o,none⟩=false:=fun o=>frozen_of_row _ _ o _ 31 z2
 have l2:=(Array.getElem?_eq_some_iff.1 z2).1
 have ne12:w0.heap.size≠w0.heap.size+1:=by omega
 have ne21:w0.heap.size+1≠w0.heap.size:=by omega
 go_wp2_with fail
 go_region
 all_goals
  go_wp2_with fail
  go_light
  exact parse_ret_ad (kind:=0) (pos:=0) (n:=0) (m:=0) (name:=⟨#[]⟩) (ko:=none) (kl:=0) (kc:=0) (k:=(kk:Int)) (a:=(ii:Int)) rfl rfl rfl (.cells #[.int .i64 (kk:Int),.int .i64 (ii:Int)] 31) (stored_a z1 z2 (.int .i64 0) (.int .i64 0) (.int .i64 0) (.int .i64 0) (.string ⟨#[]⟩) (.slice none 0 0) (.int .i64 0) (.int .i64 0) (.slice none 0 0) (.slice none 0 0) (.slice none 0 0) (kk:Int) (ii:Int)) (below_a HB.out (.int .i64 0) (.int .i64 0) (.int .i64 0) (.int .i64 0) (.string ⟨#[]⟩) (.slice none 0 0) (.int .i64 0) (.int .i64 0) (.slice none 0 0) (.slice none 0 0) (.slice none 0 0) (.int .i64 (kk:Int)) (.int .i64 (ii:Int))) (by simpa using hkI) (x:=[]) (by unfold ParseM;rw[hL];exact⟨rfl,rfl⟩)
end Go.Proofs.YtdplogkmkgekdaaGreatDoor
