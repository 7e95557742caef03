/- The tree of a text, by the grammar: its two results; a fault of the tokens. -/
import Derived.Test.YtdplogkmkgekdaaGreatDoorFDeep
import Derived.Test.YtdplogkmkgekdaaGreatDoorTypes
set_option linter.all false
set_option maxRecDepth 100000
set_option maxHeartbeats 4000000
namespace Go.Proofs.YtdplogkmkgekdaaGreatDoor
open Go.RowKit
structure cK where
 kind:Nat
 pos:Nat
 text:ByteArray
 num:Nat
def cK.cells (r:cK):List Value:=oz r.kind r.pos r.text r.num
structure cK.ok (r:cK):Prop where
 name:r.kind=2→wu r.text
 qg:r.pos≤6000
 nK:r.text.size≤6000
 Rp:r.num≤9223372036854775807
theorem kQ (x:ByteArray):x.data.toList.length=x.size:=by rw[Array.length_toList];rfl
theorem WC {s:ByteArray} {i:Nat} (hi:i<s.size) (hl:dL (aK s i)=true):wu (s.extract i (aH bq s i)):=by
 have hn:bq (aK s i)=true:=by simp[bq,hl]
 have h1:=kW hi hn
 have h2:=iI bq s i (Nat.le_of_lt hi)
 have hsz:(s.extract i (aH bq s i)).size=aH bq s i - i:=by simp;omega
 refine⟨fun e=>?_,fun hm=>?_⟩
 ·have:(s.extract i (aH bq s i)).toList.length=0:=by rw[e];rfl
  rw[Lib.toList_data,kQ] at this
  omega
 ·rw[Lib.toList_data] at hm
  obtain⟨k,hk,e⟩:=List.getElem_of_mem hm
  have hk':k<aH bq s i - i:=by
   have h4:=kQ (s.extract i (aH bq s i))
   omega
  have hb:(s.extract i (aH bq s i))[k]'(by omega)=s[i+k]'(by omega):=by
   rw[ByteArray.getElem_extract]
  have hx:s[i+k]'(by omega)=58:=by rw[←hb];exact e
  have hp:=lV bq s i (i+k) (by omega) (by omega)
  rw[mO (by omega),hx] at hp
  exact absurd hp (by decide)
theorem Rz {s:ByteArray} {i:Nat} (hs:s.size≤6000) (hi:i<s.size) (he:(one s i).err=0):cK.ok ⟨(one s i).kind,i,dD s i (one s i),(one s i).n⟩:=by
 have hstop:=rT hi he
 refine⟨fun hk=>?_,by show i≤6000;omega,?_,?_⟩
 ·have hk:(one s i).kind=2:=hk
  show wu (dD s i (one s i))
  by_cases hl:dL (aK s i)=true
  ·have e:=pG hl
   unfold dD
   rw[if_neg (by omega)]
   rw[e] at hk⊢
   by_cases hw:isWord (s.extract i (aH bq s i)).toList=true
   ·rw[if_pos hw] at hk
    exact absurd hk (fun e=>by simp at e)
   ·rw[if_neg hw] at hk⊢
    by_cases h20:20<aH bq s i - i
    ·rw[if_pos h20] at hk
     exact absurd hk (fun e=>by simp at e)
    ·rw[if_neg h20]
     exact WC hi hl
  ·exfalso
   unfold one at hk
   simp only[hl] at hk
   by_cases h1:bV (aK s i)=true
   ·rw[if_pos h1] at hk
    by_cases h2:dV s i (aH bV s i - i)≤9223372036854775807
    ·rw[if_pos h2] at hk;exact absurd hk (fun e=>by simp at e)
    ·rw[if_neg h2] at hk;exact absurd hk (fun e=>by simp at e)
   ·rw[if_neg h1] at hk
    rw[if_neg (by decide)] at hk
    by_cases h2:(aK s i==39&&dL (aK s (i+1)))=true
    ·rw[if_pos h2] at hk
     by_cases h3:21<aH bq s (i+1) - i
     ·rw[if_pos h3] at hk;exact absurd hk (fun e=>by simp at e)
     ·rw[if_neg h3] at hk;exact absurd hk (fun e=>by simp at e)
    ·rw[if_neg h2] at hk
     by_cases h3:bR s i=0
     ·rw[if_pos h3] at hk;exact absurd hk (fun e=>by simp at e)
     ·rw[if_neg h3] at hk;exact absurd hk (fun e=>by simp at e)
 ·show(dD s i (one s i)).size≤6000
  unfold dD
  split
  ·decide
  ·simp;omega
 ·show(one s i).n≤9223372036854775807
  unfold one
  by_cases h1:bV (aK s i)=true
  ·rw[if_pos h1]
   by_cases h2:dV s i (aH bV s i - i)≤9223372036854775807
   ·rw[if_pos h2];exact h2
   ·rw[if_neg h2];exact Nat.zero_le _
  ·rw[if_neg h1]
   split
   ·split
    ·exact Nat.zero_le _
    ·split<;>exact Nat.zero_le _
   ·split
    ·split<;>exact Nat.zero_le _
    ·split<;>exact Nat.zero_le _
theorem Iy {s:ByteArray} (hs:s.size≤6000):∀(b i:Nat) (rs:List cK) (ts:List (List Value)),i≤s.size→rs.length≤i→(∀r∈rs,r.ok)→lexFrom b s i (rs.map cK.cells)=.inr ts→
 ∃rs':List cK,ts=(rs'++[(⟨0,s.size,⟨#[]⟩,0⟩:cK)]).map cK.cells∧rs'.length≤6000∧∀r∈rs',r.ok:=by
 intro b
 induction b with
 |zero=>
  intro i rs ts hi hl hr h
  have h':Sum.inr (rs.map cK.cells++[oz 0 s.size ⟨#[]⟩ 0])=(Sum.inr ts:DF):=h
  refine⟨rs,?_,by omega,hr⟩
  have:=Sum.inr.inj h'
  rw[←this]
  simp[cK.cells]
 |succ b ih=>
  intro i rs ts hi hl hr h
  by_cases hlt:i<s.size
  ·cases hb:iH (aK s i)
   ·by_cases wZ:aK s i=35
    ·rw[Bu hlt wZ] at h
     have h1:=iI kK s i hi
     have h2:=qE kK s i
     exact ih _ rs ts h1 (by omega) hr h
    ·by_cases he:(one s i).err=0
     ·rw[uD hlt hb wZ he] at h
      have h1:=rT hlt he
      have h2:=Rz hs hlt he
      refine ih (one s i).stop (rs++[⟨(one s i).kind,i,dD s i (one s i),(one s i).n⟩]) ts h1.2 (by simp;omega) ?_ (by simpa[cK.cells,jX] using h)
      intro r hm
      rcases List.mem_append.1 hm with hm|hm
      ·exact hr r hm
      ·obtain rfl:r=_:=by simpa using hm
       exact h2
     ·rw[Bv hlt hb wZ he] at h
      exact absurd h (by simp)
   ·rw[uY hlt hb] at h
    exact ih _ rs ts (by omega) (by omega) hr h
  ·rw[xU hlt] at h
   refine⟨rs,?_,by omega,hr⟩
   have:=Sum.inr.inj h
   rw[←this]
   simp[cK.cells]
theorem OO {us:List (List Value)} (h4:∀x∈us,x.length=4):∀{idx:Nat} {x:List Value},us[idx]? =some x→∀o,o<4→us.flatten[idx*4+o]? =x[o]? :=by
 induction us with
 |nil=>intro idx x h;simp at h
 |cons y r ih=>
  intro idx x h o ho
  have hy:=h4 y (List.mem_cons_self ..)
  rw[List.flatten_cons]
  cases idx with
  |zero=>
   obtain rfl:y=x:=by simpa using h
   rw[List.getElem?_append_left (by omega)]
   congr 1
   omega
  |succ idx=>
   rw[List.getElem?_append_right (by omega),hy]
   have:=ih (fun z hz=>h4 z (List.mem_cons_of_mem _ hz)) (idx:=idx) (x:=x) (by simpa using h) o ho
   rw[←this]
   congr 1
   omega
def vJ:cK:=⟨0,0,⟨#[]⟩,0⟩
def CY (rs:List cK):Tk:=⟨rs.length,fun j=>((rs[j]?).getD vJ).kind,fun j=>((rs[j]?).getD vJ).pos,fun j=>((rs[j]?).getD vJ).text,fun j=>((rs[j]?).getD vJ).num⟩
def Iz (ts:List (List Value)):Tk:=⟨ts.length,fun j=>(intOf ((ts.getD j []).getD 0 undef)).toNat,fun j=>(intOf ((ts.getD j []).getD 1 undef)).toNat,fun j=>strOf ((ts.getD j []).getD 2 undef),fun j=>(intOf ((ts.getD j []).getD 3 undef)).toNat⟩
theorem xZ (rs:List cK):Iz (rs.map cK.cells)=CY rs:=by
 have hg:∀j,(rs.map cK.cells).getD j []=match rs[j]? with|none=>[]|some r=>r.cells:=fun j=>by
  rw[List.getD_eq_getElem?_getD,List.getElem?_map]
  cases rs[j]? <;>rfl
 unfold Iz CY
 simp only[List.length_map,hg]
 congr 1<;>(funext j;cases rs[j]? <;>rfl)
theorem Nt {s:ByteArray} {w':World} {base:Nat} {v:Value} {ts:List (List Value)} (hs:s.size≤6000) (hl:iE s=.inr ts) (ho:w'.ownsRow base 67 4 v ts.length ts.flatten):
 ∃(t:Tk) (tb cap:Nat),t=Iz ts∧v=.slice (some ⟨tb,0,none⟩) t.len cap∧base≤tb∧t.Good∧Row w' tb t:=by
 have hl':lexFrom s.size s 0 ([].map cK.cells)=.inr ts:=by
  unfold iE at hl
  rw[if_neg (by omega)] at hl
  exact hl
 obtain⟨rs',e,hlen,hok⟩:=Iy hs s.size 0 [] ts (Nat.zero_le _) (Nat.zero_le _) (fun r hr=>by cases hr) hl'
 obtain⟨rs,hrs⟩:∃rs,rs=rs'++[(⟨0,s.size,⟨#[]⟩,0⟩:cK)]:=⟨_,rfl⟩
 rw[←hrs] at e
 have aeI:∀r∈rs,r.ok:=by
  intro r hr
  rw[hrs] at hr
  rcases List.mem_append.1 hr with hr|hr
  ·exact hok r hr
  ·obtain rfl:r=_:=by simpa using hr
   exact⟨fun h=>absurd h (show ¬(0:Nat)=2 by decide),hs,show(⟨#[]⟩:ByteArray).size≤6000 by decide,Nat.zero_le _⟩
 have hget:∀j:Nat,((rs[j]?).getD vJ).ok:=by
  intro j
  cases h:rs[j]? with
  |none=>exact⟨fun h=>absurd h (by decide),by decide,by decide,by decide⟩
  |some r=>exact aeI r (List.mem_of_getElem? h)
 have hrl:rs.length=rs'.length+1:=by rw[hrs];simp
 have htl:ts.length=rs.length:=by rw[e];simp
 rcases ho.2 with⟨_,h2⟩|⟨tb,cap,cur,h1,hb,hg,hnc,hcm,hcs,htake⟩
 ·omega
 ·refine⟨CY rs,tb,cap,(by rw[e];exact(xZ rs).symm),?_,hb,⟨fun j hj=>(hget j).name hj,by show 0<rs.length;omega,by show rs.length≤6001;omega,?_,fun j=>(hget j).qg,fun j=>(hget j).nK,fun j=>(hget j).Rp⟩,?_⟩
  ·show v=.slice (some ⟨tb,0,none⟩) rs.length cap
   rw[h1,htl]
  ·show((rs[rs.length - 1]?).getD vJ).kind=0
   have:rs[rs.length - 1]? =some ⟨0,s.size,⟨#[]⟩,0⟩:=by rw[hrs];simp
   rw[this]
   rfl
  ·have h4:∀x∈ts,x.length=4:=by
    intro x hx
    rw[e] at hx
    obtain⟨r,_,rfl⟩:=List.mem_map.1 hx
    rfl
   have hc:∀j:Nat,j<rs.length→∀o:Nat,o<4→w'.cell? ⟨tb,j*4+o,none⟩=((rs[j]?).getD vJ).cells[o]? :=by
    intro j hj o ho'
    have hj':rs[j]? =some rs[j]:=List.getElem?_eq_getElem hj
    have hx:ts[j]? =some rs[j].cells:=by rw[e,List.getElem?_map,hj'];rfl
    have hf:=OO h4 hx o ho'
    have hlt:j*4+o<ts.length*4:=by omega
    rw[cell_of_row w' tb (j*4+o) cur 67 (0,0) hg]
    have e8:(cur.toList.take (ts.length*4))[j*4+o]? =cur[j*4+o]? :=by rw[List.getElem?_take,if_pos hlt];simp
    rw[←e8,htake,hf,hj']
    rfl
   exact⟨(Array.getElem?_eq_some_iff.1 hg).1,fun j hj=>hc j hj 0 (by decide),fun j hj=>hc j hj 1 (by decide),fun j hj=>hc j hj 2 (by decide),fun j hj=>hc j hj 3 (by decide)⟩
section
variable {w0 w W:World} {rb tb cap j:Nat} {t:Tk} {kj aj:Int}
end
theorem IB {W:World} {b:Nat} (hB:bW W b aJ) (hC:W.heap[b+1]? =some (.cells #[.int .i64 0,.int .i64 0] 31 (0,0))) (c0 c1 c2 c3 c4 c5 c6 c7 c8 c9 c10:Value) (k a:Int):
 bW (((bC W b c0 c1 c2 c3 c4 c5 c6 c7 c8 c9 c10).setCell ⟨b+1,0,none⟩ (.int .i64 k)).setCell ⟨b+1,1,none⟩ (.int .i64 a)) b #[c0,c1,c2,c3,c4,c5,c6,c7,c8,c9,c10]∧(((bC W b c0 c1 c2 c3 c4 c5 c6 c7 c8 c9 c10).setCell ⟨b+1,0,none⟩ (.int .i64 k)).setCell ⟨b+1,1,none⟩ (.int .i64 a)).heap[b+1]? =some (.cells #[.int .i64 k,.int .i64 a] 31 (0,0)):=by
 have h1:b≠b+1:=by omega
 refine⟨((bW.bC hB c0 c1 c2 c3 c4 c5 c6 c7 c8 c9 c10).other (p:=⟨b+1,0,none⟩) h1 _).other (p:=⟨b+1,1,none⟩) h1 _,?_⟩
 have hs:(bC W b c0 c1 c2 c3 c4 c5 c6 c7 c8 c9 c10).heap[b+1]? =W.heap[b+1]? :=Same.bC (S:=fun x=>x=b+1) (by omega) c0 c1 c2 c3 c4 c5 c6 c7 c8 c9 c10 (b+1) rfl (Array.getElem?_eq_some_iff.1 hC).1
 have e1:((bC W b c0 c1 c2 c3 c4 c5 c6 c7 c8 c9 c10).setCell ⟨b+1,0,none⟩ (.int .i64 k)).heap[b+1]? =some (.cells #[.int .i64 k,.int .i64 0] 31 (0,0)):=by
  rw[heap_setCell_same _ (b+1) 0 _ 31 _ (hs.trans hC)]
  rfl
 rw[heap_setCell_same _ (b+1) 1 _ 31 _ e1]
 rfl
theorem WE {w0 W:World} (h:Below w0.heap.size w0 W) (c0 c1 c2 c3 c4 c5 c6 c7 c8 c9 c10 d e:Value):Below w0.heap.size w0 (((bC W w0.heap.size c0 c1 c2 c3 c4 c5 c6 c7 c8 c9 c10).setCell ⟨w0.heap.size+1,0,none⟩ d).setCell ⟨w0.heap.size+1,1,none⟩ e):=
 ((Below.bC h (Nat.le_refl _) c0 c1 c2 c3 c4 c5 c6 c7 c8 c9 c10).setCell (p:=⟨w0.heap.size+1,0,none⟩) (Nat.le_succ _) d).setCell (p:=⟨w0.heap.size+1,1,none⟩) (Nat.le_succ _) e
theorem LJ {s:ByteArray} {k i:Nat} (h:iE s=.inl (k,i)):k≠0:=by
 have go:∀(b i':Nat) (acc:List (List Value)),lexFrom b s i' acc=.inl (k,i)→k≠0:=by
  intro b
  induction b with
  |zero=>intro i' acc h;exact absurd h (by simp[lexFrom])
  |succ b ih=>
   intro i' acc h
   by_cases hlt:i'<s.size
   ·cases hb:iH (aK s i')
    ·by_cases wZ:aK s i'=35
     ·rw[Bu hlt wZ] at h;exact ih _ _ h
     ·by_cases he:(one s i').err=0
      ·rw[uD hlt hb wZ he] at h;exact ih _ _ h
      ·rw[Bv hlt hb wZ he] at h
       simp at h
       rw[←h.1]
       exact he
    ·rw[uY hlt hb] at h;exact ih _ _ h
   ·rw[xU hlt] at h;exact absurd h (by simp)
 unfold iE at h
 split at h
 ·simp at h;omega
 ·exact go _ _ _ h
theorem LK (w0:World):bW ((w0.alloc (.cells aJ 28)).alloc (.cells #[.int .i64 0,.int .i64 0] 31)) w0.heap.size aJ∧((w0.alloc (.cells aJ 28)).alloc (.cells #[.int .i64 0,.int .i64 0] 31)).heap[w0.heap.size+1]? =some (.cells #[.int .i64 0,.int .i64 0] 31 (0,0))∧Below w0.heap.size w0 ((w0.alloc (.cells aJ 28)).alloc (.cells #[.int .i64 0,.int .i64 0] 31)):=by
 refine⟨(bW.new w0 aJ).alloc _,?_,YM w0 _ _⟩
 have:=heap_alloc_new (w0.alloc (.cells aJ 28)) (.cells #[.int .i64 0,.int .i64 0] 31)
 simpa using this
end Go.Proofs.YtdplogkmkgekdaaGreatDoor
