/- The middle of a call that reads, its trees counted: how many nodes there are, by the tokens that have been gone through. -/
import Derived.Test.YtagdihffmjopaaaGreatDoorSmall
namespace Go.Proofs.YtagdihffmjopaaaGreatDoor
set_option linter.all false
open Go.RowKit
theorem Bd.any2 {N:Nat} {t:Tk} {i:Nat} {k:Int} {r:Nat} (h:Bd (N+1) t i k r) (hk:k=0) (hl:i<t.len):∀i' k' r',(k'=0→i<i')→r'<64→Bd N t i' k' r':=by
 intro i' k' r' h1 h2
 have h3:=h.1 hk
 have h4:1*64≤(t.len - i)*64:=Nat.mul_le_mul_right _ (by omega)
 refine⟨fun e=>?_,by omega⟩
 have:=h1 e
 have h5:(t.len - i'+1)*64≤(t.len - i)*64:=Nat.mul_le_mul_right _ (by omega)
 omega
theorem bd_some (t:Tk) (i:Nat) (k:Int) (r:Nat):Bd ((t.len - i)*64+r) t i k r:=⟨fun _=>Nat.le_refl _,by omega⟩
section
variable{w W w':World} {rb tb cap i j:Nat} {t:Tk} {k kj aj:Int} {g:Prop} {L:List (Nat × Array Value)} {T:List (List Value)} {kv:Value} {vs:List (List Value)}
def Rest (c:Array Value) (vs:List (List Value)) (cp:Nat):Prop:=vs.length≤cp∧cp≤maxLen∧c.size=cp*11∧c.toList.take (vs.length*11)=vs.flatten∧vs.flatten.length=vs.length*11
theorem Mid.park {gb cp:Nat} (q:Mid w rb tb cap t i k g W j kj aj L T (.slice (some ⟨gb,0,none⟩) vs.length cp) vs):∃c,Rest c vs cp∧Mid w rb tb cap t i k g W j kj aj ((gb,c)::L) (vs++T) (.slice none 0 0) []:=by
 obtain⟨h,ha⟩:=q.all
 have hr:=q.row
 rcases hr.2 with⟨h1,_⟩|⟨g',cap',cur,h1,hb,hg,hnc,hcm,hcs,htake⟩
 ·simp at h1
 ·obtain⟨rfl,rfl⟩:gb=g'∧cp=cap':=by simpa using h1
  have hout:gb∉L.map adr:=q.rown gb rfl
  refine⟨cur,⟨hnc,hcm,hcs,htake,hr.1⟩,q.st,q.le,q.ok,q.go,?_,?_,World.ownsRow_nil _ _ _ _,fun b e=>by simp[Value.ownBlock] at e,h,fun x hx=>?_⟩
  ·intro n p e
   cases n with
   |zero=>
    obtain rfl:(gb,cur)=p:=by simpa using e
    exact⟨hb,hg⟩
   |succ n=>exact q.blk n p (by simpa using e)
  ·rw[List.map_cons,List.nodup_cons]
   exact⟨hout,q.nd⟩
  ·refine isNode.weaken (fun b hb=>⟨hb.1,?_,by simp[Value.ownBlock]⟩) (fun x=>x) _ _ (ha x ?_)
   ·rcases hx with hx|hx
    ·simp at hx
    ·exact List.mem_append.1 hx
   ·rw[List.map_cons,List.mem_cons]
    rintro(e|e)
    ·exact hb.2.2 (by rw[e];rfl)
    ·exact hb.2.1 e
theorem Mid.unpark {gb cp:Nat} {c:Array Value} (hR:Rest c vs cp) (q:Mid w rb tb cap t i k g W j kj aj ((gb,c)::L) (vs++T) (.slice none 0 0) []):Mid w rb tb cap t i k g W j kj aj L T (.slice (some ⟨gb,0,none⟩) vs.length cp) vs:=by
 obtain⟨h,ha⟩:=q.all
 obtain⟨h1,h2,h3,h4,h5⟩:=hR
 have hnd:=q.nd
 rw[List.map_cons,List.nodup_cons] at hnd
 have hb:=q.blk 0 (gb,c) rfl
 refine⟨q.st,q.le,q.ok,q.go,fun n x e=>q.blk (n+1) x (by simpa using e),hnd.2,⟨h5,.inr ⟨gb,cp,c,rfl,hb.1,hb.2,h1,h2,h3,h4⟩⟩,?_,h,fun x hx=>?_⟩
 ·intro b e
  obtain rfl:gb=b:=by simpa[Value.ownBlock] using e
  exact hnd.1
 ·refine isNode.weaken (fun b hb=>⟨hb.1,fun e=>hb.2.1 (by rw[List.map_cons];exact List.mem_cons_of_mem _ e),fun e=>hb.2.1 ?_⟩) (fun x=>x) _ _ (ha x (.inr (List.mem_append.2 hx)))
  obtain rfl:gb=b:=by simpa[Value.ownBlock] using e
  rw[List.map_cons]
  exact List.mem_cons_self ..
theorem lab_ne {kind n m:Int} {a:ByteArray} {l:Nat} (h:(kind≠4∧kind≠5∧kind≠8∧kind≠12)∧kind<100):lab kind n m a l=kind:=by
 unfold lab
 rw[if_neg h.1.2.2.1,if_neg h.1.1,if_neg h.1.2.1,if_neg h.1.2.2.2,if_neg (by omega)]
theorem name_size {s:ByteArray} (h:nameOK s):s.size≠0:=fun e=>h.1 (by
 have:s.data=#[]:=Array.eq_empty_of_size_eq_zero e
 obtain⟨d⟩:=s
 subst this
 simp[Lib.toList_data])
theorem lab_param {po n m:Int} {s:ByteArray} {v:Value} (h:nameOK s):labOf (nodeC 12 po n m s v).toList=12:=by
 show lab 12 n m s (lenOf v)=12
 unfold lab
 rw[if_neg (by decide),if_neg (by decide),if_neg (by decide),if_pos rfl,if_neg (name_size h)]
theorem lab_field {po n m:Int} {s:ByteArray} {v:Value} (h:nameOK s):labOf (nodeC 5 po n m s v).toList=105:=by
 show lab 5 n m s (lenOf v)=105
 unfold lab
 rw[if_neg (by decide),if_neg (by decide),if_pos rfl,if_neg (name_size h)]
theorem lab_variant {po n m:Int} {s:ByteArray} {v:Value} (h:nameOK s):labOf (nodeC 4 po n m s v).toList=4:=by
 show lab 4 n m s (lenOf v)=4
 unfold lab
 rw[if_neg (by decide),if_pos rfl,if_neg (name_size h)]
theorem noK_lab {ki po n m:Int} {na:ByteArray} {v:Value} (h:noK ki):noK (labOf (nodeC ki po n m na v).toList):=by
 show noK (lab ki n m na (lenOf v))
 rw[lab_ne (by unfold noK at h;omega)]
 exact h
end
end Go.Proofs.YtagdihffmjopaaaGreatDoor
namespace Go.Proofs.YtagdihffmjopaaaGreatDoor
set_option linter.all false
open Go.RowKit
section
variable{w W w':World} {rb tb cap i j:Nat} {t:Tk} {k kj aj:Int} {g:Prop} {L:List (Nat × Array Value)} {T:List (List Value)} {kv:Value} {vs:List (List Value)}
theorem Mid.swapL {a b:Nat × Array Value} (q:Mid w rb tb cap t i k g W j kj aj (a::b::L) T kv vs):Mid w rb tb cap t i k g W j kj aj (b::a::L) T kv vs:=by
 obtain⟨h,ha⟩:=q.all
 have hp:∀x,x∈(b::a::L).map adr↔x∈(a::b::L).map adr:=by
  intro x
  simp only[List.map_cons,List.mem_cons]
  constructor<;>(rintro(e|e|e)<;>simp[e])
 refine⟨q.st,q.le,q.ok,q.go,?_,?_,q.row,fun x hx e=>q.rown x hx ((hp x).1 e),h,fun x hx=>isNode.weaken (fun y hy=>⟨hy.1,fun e=>hy.2.1 ((hp y).1 e),hy.2.2⟩) (fun x=>x) _ _ (ha x hx)⟩
 ·intro n p e
  match n,e with
  |0,e=>exact q.blk 1 p e
  |1,e=>exact q.blk 0 p e
  |n+2,e=>exact q.blk (n+2) p e
 ·have hnd:=q.nd
  simp only[List.map_cons,List.nodup_cons,List.mem_cons,not_or] at hnd⊢
  exact⟨⟨fun e=>hnd.1.1 e.symm,hnd.2.1⟩,hnd.1.2,hnd.2.2⟩
theorem Mid.shapeS (q:Mid w rb tb cap t i k g W j kj aj L T kv vs) (h:1≤vs.length):∃gb cp,kv=.slice (some ⟨gb,0,none⟩) vs.length cp:=by
 rcases q.row.2 with⟨_,h2⟩|⟨b,cap,cur,h1,_⟩
 ·omega
 ·exact⟨_,_,h1⟩
theorem Mid.shapeT {ao:Option Addr} {cp:Nat} (q:Mid w rb tb cap t i k g W j kj aj L T (.slice ao vs.length cp) vs) (h:1≤vs.length):∃gb,ao=some ⟨gb,0,none⟩:=by
 obtain⟨gb,cp',e⟩:=q.shapeS h
 exact⟨gb,by simp at e;exact e.1⟩
end
end Go.Proofs.YtagdihffmjopaaaGreatDoor
namespace Go.Proofs.YtagdihffmjopaaaGreatDoor
set_option linter.all false
open Go.RowKit
theorem flat_get {us:List (List Value)} (h11:∀x∈us,x.length=11):∀{idx:Nat} {x:List Value},us[idx]? =some x→∀o,o<11→us.flatten[idx*11+o]? =x[o]? :=by
 induction us with
 |nil=>intro idx x h;simp at h
 |cons y r ih=>
  intro idx x h o ho
  have hy:=h11 y (List.mem_cons_self ..)
  rw[List.flatten_cons]
  cases idx with
  |zero=>
   obtain rfl:y=x:=by simpa using h
   rw[List.getElem?_append_left (by omega)]
   congr 1
   omega
  |succ idx=>
   rw[List.getElem?_append_right (by omega),hy]
   have:=ih (fun z hz=>h11 z (List.mem_cons_of_mem _ hz)) (idx:=idx) (x:=x) (by simpa using h) o ho
   rw[←this]
   congr 1
   omega
section
variable{w W w':World} {rb tb cap i j:Nat} {t:Tk} {k kj aj:Int} {g:Prop} {L:List (Nat × Array Value)} {T:List (List Value)} {kv:Value} {vs:List (List Value)}
theorem Mid.look (q:Mid w rb tb cap t i k g W j kj aj L T kv vs) {x:List Value} (hx:x∈T):∃kind pos n m name ko kl kc,x=(nodeC kind pos n m name (.slice ko kl kc)).toList∧(0≤pos∧pos≤7000):=by
 obtain⟨h,ha⟩:=q.all
 have hn:=ha x (.inr hx)
 cases h with
 |zero=>exact absurd hn (fun x=>x)
 |succ h=>
  obtain⟨kind,pos,n,m,name,kv',vs',e1,e2,e3,e3',e4,e5,e6,e7⟩:=hn
  have hsh:∃ko kl kc,kv'=.slice ko kl kc:=by
   rcases e4.2 with⟨x1,_⟩|⟨x,y,z,x1,_⟩
   ·exact⟨_,_,_,x1⟩
   ·exact⟨_,_,_,x1⟩
  obtain⟨ko,kl,kc,rfl⟩:=hsh
  exact⟨kind,pos,n,m,name,ko,kl,kc,e1,e3⟩
theorem Mid.nth {gb cp:Nat} {c:Array Value} {us:List (List Value)} (q:Mid w rb tb cap t i k g W j kj aj L T kv vs) (hR:Rest c us cp) (n:Nat) (hn:L[n]? =some (gb,c)) (hT:∀x∈us,x∈T) {idx:Nat} (hi:idx<us.length):
 ∃kind pos n m name ko kl kc,us[idx]? =some (nodeC kind pos n m name (.slice ko kl kc)).toList∧(0≤pos∧pos≤7000)∧∀o,o<11→W.cell? ⟨gb,idx*11+o,none⟩=(nodeC kind pos n m name (.slice ko kl kc))[o]? :=by
 have hx:us[idx]? =some us[idx]:=List.getElem?_eq_getElem hi
 have hm:us[idx]∈us:=List.getElem_mem hi
 obtain⟨kind,pos,n',m,name,ko,kl,kc,e,hp⟩:=q.look (hT _ hm)
 refine⟨kind,pos,n',m,name,ko,kl,kc,by rw[hx,e],hp,fun o ho=>?_⟩
 obtain⟨h,ha⟩:=q.all
 have h11:∀x∈us,x.length=11:=fun x hx=>(isNode.ones _ _ (ha x (.inr (hT x hx)))).1
 have hg:=flat_get h11 hx o ho
 have hB:=(q.blk n _ hn).2
 have hlt:idx*11+o<us.length*11:=by omega
 have e2:W.cell? ⟨gb,idx*11+o,none⟩=c[idx*11+o]? :=hB.cell _
 rw[e2]
 have e3:(c.toList.take (us.length*11))[idx*11+o]? =c[idx*11+o]? :=by rw[List.getElem?_take,if_pos hlt];simp
 rw[←e3,hR.2.2.2.1,hg,e]
 simp
end
end Go.Proofs.YtagdihffmjopaaaGreatDoor
namespace Go.Proofs.YtagdihffmjopaaaGreatDoor
set_option linter.all false
open Go.RowKit
variable{wt:Nat}
def kidsAt (w:World):Value→List (List Value)
 |.slice (some p) n _=>(List.range n).map (fun i=>(List.range 11).map (fun o=>(w.cell? ⟨p.block,i*11+o,none⟩).getD undef))
 |_=>[]
theorem kidsAt_owns {w:World} {base e:Nat} {v:Value} {vs:List (List Value)} (h:w.ownsRow base e 11 v vs.length vs.flatten) (hl:∀x∈vs,x.length=11):kidsAt w v=vs:=by
 rcases h.2 with⟨h1,h2⟩|⟨g,cap,cur,h1,hb,hg,hnc,hcm,hcs,htake⟩
 ·obtain rfl:vs=[]:=List.eq_nil_of_length_eq_zero h2
  rw[h1]
  rfl
 ·rw[h1]
  unfold kidsAt
  apply List.ext_getElem?
  intro i
  by_cases hi:i<vs.length
  ·have hx:vs[i]? =some vs[i]:=List.getElem?_eq_getElem hi
   have hxl:=hl _ (List.getElem_mem hi)
   rw[List.getElem?_map,List.getElem?_range hi,hx]
   show some _=some _
   congr 1
   apply List.ext_getElem?
   intro o
   by_cases ho:o<11
   ·rw[List.getElem?_map,List.getElem?_range ho]
    have hlt:i*11+o<vs.length*11:=by omega
    show some ((w.cell? ⟨g,i*11+o,none⟩).getD undef)=_
    have e2:(cur.toList.take (vs.length*11))[i*11+o]? =cur[i*11+o]? :=by rw[List.getElem?_take,if_pos hlt];simp
    rw[cell_of_row w g (i*11+o) cur e (0,0) hg,←e2,htake,flat_get hl hx o ho,List.getElem?_eq_getElem (by omega)]
    rfl
   ·rw[List.getElem?_eq_none (by simp;omega),List.getElem?_eq_none (by omega)]
  ·rw[List.getElem?_eq_none (by simp;omega),List.getElem?_eq_none (by omega)]
def nsz:Nat→World→List Value→Nat
 |0,_,_=>0
 |f+1,w,cs=>1+((kidsAt w (cs.getD 5 undef)).map (nsz f w)).sum
theorem nsz_eq {S:Nat→Prop} {g:Prop} {h f base:Nat} {w:World} {kind pos n m:Int} {name:ByteArray} {kv:Value} {vs:List (List Value)} (h4:w.ownsRow base 28 11 kv vs.length vs.flatten) (h6:∀x∈vs,isNode S g h w x):nsz (f+1) w (nodeC kind pos n m name kv).toList=1+(vs.map (nsz f w)).sum:=by
 have e:=kidsAt_owns h4 (fun x hx=>(isNode.ones _ _ (h6 x hx)).1)
 show 1+((kidsAt w kv).map (nsz f w)).sum=_
 rw[e]
theorem nsz_frame {S:Nat→Prop} {g:Prop} {w w':World} (hs:Same S w w'):(h:Nat)→(cs:List Value)→isNode S g h w cs→∀f,nsz f w' cs=nsz f w cs
 |0,_,hn,_=>absurd hn (fun x=>x)
 |_+1,_,_,0=>rfl
 |h+1,_,⟨kind,pos,n,m,name,kv,vs,h1,h2,h3,h3',h4,h5,h6,h7⟩,f+1=>by
  subst h1
  rw[nsz_eq h4 h6,nsz_eq (ownsRow_same h4 (fun b hb hl=>hs b (h5 b hb) hl)) (fun x hx=>isNode.frame hs h x (h6 x hx))]
  have:vs.map (nsz f w')=vs.map (nsz f w):=List.map_congr_left (fun x hx=>nsz_frame hs h x (h6 x hx) f)
  rw[this]
theorem sum_le_sum {f g:List Value→Nat} (vs:List (List Value)) (h:∀x∈vs,f x≤g x):(vs.map f).sum≤(vs.map g).sum:=by
 induction vs with
 |nil=>simp
 |cons x r ih=>
  simp only[List.map_cons,List.sum_cons]
  have h1:=h x (List.mem_cons_self ..)
  have h2:=ih (fun y hy=>h y (List.mem_cons_of_mem _ hy))
  omega
def nsy (wt:Nat):Nat→World→List Value→Nat
 |0,_,_=>0
 |f+1,w,cs=>wt+((kidsAt w (cs.getD 5 undef)).map (nsy wt f w)).sum
theorem nsy_eq {S:Nat→Prop} {g:Prop} {h f base:Nat} {w:World} {kind pos n m:Int} {name:ByteArray} {kv:Value} {vs:List (List Value)} (h4:w.ownsRow base 28 11 kv vs.length vs.flatten) (h6:∀x∈vs,isNode S g h w x):nsy wt (f+1) w (nodeC kind pos n m name kv).toList=wt+(vs.map (nsy wt f w)).sum:=by
 have e:=kidsAt_owns h4 (fun x hx=>(isNode.ones _ _ (h6 x hx)).1)
 show wt+((kidsAt w kv).map (nsy wt f w)).sum=_
 rw[e]
theorem nsy_frame {S:Nat→Prop} {g:Prop} {w w':World} (hs:Same S w w'):(h:Nat)→(cs:List Value)→isNode S g h w cs→∀f,nsy wt f w' cs=nsy wt f w cs
 |0,_,hn,_=>absurd hn (fun x=>x)
 |_+1,_,_,0=>rfl
 |h+1,_,⟨kind,pos,n,m,name,kv,vs,h1,h2,h3,h3',h4,h5,h6,h7⟩,f+1=>by
  subst h1
  rw[nsy_eq h4 h6,nsy_eq (ownsRow_same h4 (fun b hb hl=>hs b (h5 b hb) hl)) (fun x hx=>isNode.frame hs h x (h6 x hx))]
  have:vs.map (nsy wt f w')=vs.map (nsy wt f w):=List.map_congr_left (fun x hx=>nsy_frame hs h x (h6 x hx) f)
  rw[this]
theorem nsy_one:(f:Nat)→(w:World)→(cs:List Value)→nsy wt f w cs≤nsy wt (f+1) w cs
 |0,_,_=>Nat.zero_le _
 |f+1,w,cs=>by
  show wt+((kidsAt w (cs.getD 5 undef)).map (nsy wt f w)).sum≤wt+((kidsAt w (cs.getD 5 undef)).map (nsy wt (f+1) w)).sum
  have:=sum_le_sum (f:=nsy wt f w) (g:=nsy wt (f+1) w) (kidsAt w (cs.getD 5 undef)) (fun x _=>nsy_one f w x)
  omega
theorem nsy_mono wt (f:Nat) (w:World) (vs:List (List Value)):(vs.map (nsy wt f w)).sum≤(vs.map (nsy wt (f+1) w)).sum:=sum_le_sum vs (fun x _=>nsy_one f w x)
theorem nsy_nsz:(f:Nat)→(w:World)→(cs:List Value)→nsy wt f w cs=wt*nsz f w cs
 |0,_,_=>rfl
 |f+1,w,cs=>by
  show wt+((kidsAt w (cs.getD 5 undef)).map (nsy wt f w)).sum=wt*(1+((kidsAt w (cs.getD 5 undef)).map (nsz f w)).sum)
  have:∀vs:List (List Value),(vs.map (nsy wt f w)).sum=wt*(vs.map (nsz f w)).sum:=by
   intro vs
   induction vs with
   |nil=>rfl
   |cons x vs ih=>rw[List.map_cons,List.map_cons,List.sum_cons,List.sum_cons,ih,nsy_nsz f w x,Nat.mul_add]
  rw[this,Nat.mul_add,Nat.mul_one]
def tot (wt f:Nat) (w:World) (vs:List (List Value)):Int:=(((vs.map (nsy wt f w)).sum:Nat):Int)
theorem tot_nil (f:Nat) (w:World):tot wt f w []=0:=rfl
theorem tot_cons (f:Nat) (w:World) (x:List Value) (vs:List (List Value)):tot wt f w (x::vs)=(nsy wt f w x:Int)+tot wt f w vs:=by simp[tot]
theorem tot_append (f:Nat) (w:World) (a b:List (List Value)):tot wt f w (a++b)=tot wt f w a+tot wt f w b:=by simp[tot]
theorem tot_nonneg (wt f:Nat) (w:World) (vs:List (List Value)):0≤tot wt f w vs:=by unfold tot;omega
theorem tot_wt (f:Nat) (w:World) (vs:List (List Value)):tot wt f w vs=(wt:Int)*tot 1 f w vs:=by
 induction vs with
 |nil=>simp[tot]
 |cons x vs ih=>rw[tot_cons,tot_cons,ih,nsy_nsz,nsy_nsz,Int.mul_add];simp
structure Mz (wt:Nat) (w:World) (rb tb cap:Nat) (t:Tk) (i:Nat) (k:Int) (g:Prop) (s:Int) (W:World) (j:Nat) (kj aj:Int) (L:List (Nat × Array Value)) (T:List (List Value)) (kv:Value) (vs:List (List Value)):Prop where
 mid:Mid w rb tb cap t i k g W j kj aj L T kv vs
 sz:kj=0→∀f,tot wt f W vs+tot wt f W T≤16*((j:Int) - (i:Int))+s
def NodeZ (wt:Nat) (w:World) (rb tb cap:Nat) (t:Tk) (i:Nat) (k:Int) (must:Prop) (d:Int) (C:Int→Prop) (e:Ending) (w':World):Prop:=
 ∃(kind pos n m:Int) (name:ByteArray) (ko:Option Addr) (kl kc:Nat) (i':Nat) (k' a':Int),e=.returned (.agg (nodeC kind pos n m name (.slice ko kl kc)))∧Nx w rb tb cap t i k must w' i' k' a'∧NodeIn w.heap.size (k'=0) w' (nodeC kind pos n m name (.slice ko kl kc)).toList∧(k'=0→C (labOf (nodeC kind pos n m name (.slice ko kl kc)).toList))∧(k'=0→∀f,(nsy wt f w' (nodeC kind pos n m name (.slice ko kl kc)).toList:Int)+d≤16*((i':Int) - (i:Int)))
def ListZ (wt:Nat) (w:World) (rb tb cap:Nat) (t:Tk) (i:Nat) (k:Int) (must:Prop) (d:Int) (C:List Int→Prop) (e:Ending) (w':World):Prop:=
 ∃(ao:Option Addr) (cp:Nat) (vs:List (List Value)) (i':Nat) (k' a':Int),e=.returned (.slice ao vs.length cp)∧Nx w rb tb cap t i k must w' i' k' a'∧Kids w.heap.size (k'=0) w' (.slice ao vs.length cp) vs∧vs.length≤6002∧(k'=0→C (vs.map labOf))∧(k'=0→∀f,tot wt f w' vs+d≤16*((i':Int) - (i:Int)))
section
variable{w W w':World} {rb tb cap i j:Nat} {t:Tk} {k kj aj:Int} {g:Prop} {s:Int} {L:List (Nat × Array Value)} {T:List (List Value)} {kv:Value} {vs:List (List Value)}
theorem Mid.tots (q:Mid w rb tb cap t i k g W j kj aj L T kv vs) (hs:Same (Out w (L.map adr) kv) W w') (f:Nat):tot wt f w' vs=tot wt f W vs∧tot wt f w' T=tot wt f W T:=by
 obtain⟨h,ha⟩:=q.all
 constructor
 ·unfold tot;rw[List.map_congr_left (fun x hx=>nsy_frame hs _ _ (ha x (.inl hx)) f)]
 ·unfold tot;rw[List.map_congr_left (fun x hx=>nsy_frame hs _ _ (ha x (.inr hx)) f)]
theorem Mid.tots_kp (q:Mid w rb tb cap t i k g W j kj aj L T kv vs) (h2:Kp W.heap.size rb W w') (f:Nat):tot wt f w' vs=tot wt f W vs∧tot wt f w' T=tot wt f W T:=
 q.tots (wt:=wt) (Same.kp h2 (fun e=>by have:=e.1;have:=q.st.lb;omega)) f
theorem Mz.start {a:Int} (h:Rd w rb tb cap t i k a):Mz wt w rb tb cap t i k False 0 w i k a [] [] (.slice none 0 0) []:=⟨Mid.start h,fun _ f=>by rw[tot_nil];omega⟩
theorem Mz.less (q:Mz wt w rb tb cap t i k g s W j kj aj L T kv vs) {s':Int} (h:s≤s'):Mz wt w rb tb cap t i k g s' W j kj aj L T kv vs:=⟨q.mid,fun e f=>by have:=q.sz e f;omega⟩
theorem Mz.rk (q:Mz wt w rb tb cap t i k g s W j kj aj L T kv vs) {i':Nat} {k' a':Int} (h1:Rd w' rb tb cap t i' k' a') (h2:Kp W.heap.size rb W w') (hle:j≤i') (hok:k'=0→kj=0):Mz wt w rb tb cap t i k g s w' i' k' a' L T kv vs:=
 ⟨q.mid.rk h1 h2 hle hok,fun e f=>by have h:=q.sz (hok e) f;have h3:=q.mid.tots_kp (wt:=wt) h2 f;rw[h3.1,h3.2];omega⟩
theorem Mz.nx (q:Mz wt w rb tb cap t i k g s W j kj aj L T kv vs) {must:Prop} {i':Nat} {k' a':Int} (hx:Nx W rb tb cap t j kj must w' i' k' a'):Mz wt w rb tb cap t i k g s w' i' k' a' L T kv vs:=q.rk hx.rd hx.kp hx.le hx.ok
theorem Mz.up (q:Mz wt w rb tb cap t i k g s W j kj aj L T kv vs) {g':Prop} (hg:g'→kj=0→i<j):Mz wt w rb tb cap t i k g' s W j kj aj L T kv vs:=⟨q.mid.up hg,q.sz⟩
theorem Mz.nxm (q:Mz wt w rb tb cap t i k g s W j kj aj L T kv vs) {i':Nat} {k' a':Int} (hx:Nx W rb tb cap t j kj True w' i' k' a'):Mz wt w rb tb cap t i k True (s - 16) w' i' k' a' L T kv vs:=
 ⟨q.mid.nxm hx,fun e f=>by have h:=q.sz (hx.ok e) f;have h3:=q.mid.tots_kp (wt:=wt) hx.kp f;have h4:=hx.go trivial e;rw[h3.1,h3.2];omega⟩
theorem Mz.below (q:Mz wt w rb tb cap t i k g s W j kj aj L T kv vs) (hb:Below W.heap.size W w'):Mz wt w rb tb cap t i k g s w' j kj aj L T kv vs:=q.nx (Nx.below q.mid.st.rd hb)
theorem Mz.drew (q:Mz wt w rb tb cap t i k g s W j kj aj L T kv vs):Mz wt w rb tb cap t i k g s W.drew j kj aj L T kv vs:=q.below (Below.refl _ _).drew
theorem Mz.alloc (q:Mz wt w rb tb cap t i k g s W j kj aj L T kv vs) (o:Obj):Mz wt w rb tb cap t i k g s (W.alloc o) j kj aj L T kv vs:=q.below ((Below.refl _ _).alloc (Nat.le_refl _) o)
theorem Mz.newAt (q:Mz wt w rb tb cap t i k g s W j kj aj L T kv vs) {ad:Nat} (had:ad=W.heap.size) (c:Array Value):Mz wt w rb tb cap t i k g s (W.alloc (.cells c 28)) j kj aj ((ad,c)::L) T kv vs:=⟨q.mid.newAt had c,(q.alloc _).sz⟩
theorem Mz.put (q:Mz wt w rb tb cap t i k g s W j kj aj L T kv vs) (n:Nat) {b:Nat} {c:Array Value} (hn:L[n]? =some (b,c)) (o:Nat) (u:Value):Mz wt w rb tb cap t i k g s (W.setCell ⟨b,o,none⟩ u) j kj aj (L.set n (b,c.setIfInBounds o u)) T kv vs:=
 ⟨q.mid.put n hn o u,fun e f=>by
  have h3:=q.mid.tots (wt:=wt) (w':=W.setCell ⟨b,o,none⟩ u) (Same.setCell _ ⟨b,o,none⟩ _ (fun x=>x.2.1 (List.mem_map.2 ⟨_,List.mem_of_getElem? hn,rfl⟩))) f
  rw[h3.1,h3.2]
  exact q.sz e f⟩
theorem Mz.put11 (q:Mz wt w rb tb cap t i k g s W j kj aj L T kv vs) (n:Nat) {b:Nat} {d0 d1 d2 d3 d4 d5 d6 d7 d8 d9 d10:Value} (hn:L[n]? =some (b,#[d0,d1,d2,d3,d4,d5,d6,d7,d8,d9,d10])) (c0 c1 c2 c3 c4 c5 c6 c7 c8 c9 c10:Value):Mz wt w rb tb cap t i k g s (set11 W b c0 c1 c2 c3 c4 c5 c6 c7 c8 c9 c10) j kj aj (L.set n (b,#[c0,c1,c2,c3,c4,c5,c6,c7,c8,c9,c10])) T kv vs:=
 ⟨q.mid.put11 n hn c0 c1 c2 c3 c4 c5 c6 c7 c8 c9 c10,fun e f=>by
  have h3:=q.mid.tots (wt:=wt) (w':=set11 W b c0 c1 c2 c3 c4 c5 c6 c7 c8 c9 c10) (Same.set11 (fun x=>x.2.1 (List.mem_map.2 ⟨_,List.mem_of_getElem? hn,rfl⟩)) _ _ _ _ _ _ _ _ _ _ _) f
  rw[h3.1,h3.2]
  exact q.sz e f⟩
theorem Mz.goI (q:Mz wt w rb tb cap t i k g s W j kj aj L T kv vs) {j':Nat} (hj:j'<t.len) (hle:j<j'):Mz wt w rb tb cap t i k True (s - 16) (W.setCell ⟨rb,1,none⟩ (.int .i64 j')) j' kj aj L T kv vs:=
 ⟨q.mid.goI hj hle,fun e f=>by
  have h3:=q.mid.tots_kp (wt:=wt) (w':=W.setCell ⟨rb,1,none⟩ (.int .i64 j')) (Kp.setCell (p:=⟨rb,1,none⟩) (Kp.refl _ _ _) (.inr rfl) _) f
  have h4:=q.sz e f
  rw[h3.1,h3.2]
  omega⟩
theorem Mz.node (q:Mz wt w rb tb cap t i k g s W j kj aj L T kv vs) {must:Prop} {i':Nat} {k' a':Int} (hx:Nx W rb tb cap t j kj must w' i' k' a') {c:List Value} (hn:NodeIn W.heap.size (k'=0) w' c) {d:Int} (hz:k'=0→∀f,(nsy wt f w' c:Int)+d≤16*((i':Int) - (j:Int))):Mz wt w rb tb cap t i k g (s - d) w' i' k' a' L (c::T) kv vs:=
 ⟨q.mid.node hx hn,fun e f=>by
  have h:=q.sz (hx.ok e) f
  have h3:=q.mid.tots_kp (wt:=wt) hx.kp f
  have h4:=hz e f
  rw[tot_cons,h3.1,h3.2]
  omega⟩
theorem Mz.nodem (q:Mz wt w rb tb cap t i k g s W j kj aj L T kv vs) {i':Nat} {k' a':Int} (hx:Nx W rb tb cap t j kj True w' i' k' a') {c:List Value} (hn:NodeIn W.heap.size (k'=0) w' c) {d:Int} (hz:k'=0→∀f,(nsy wt f w' c:Int)+d≤16*((i':Int) - (j:Int))):Mz wt w rb tb cap t i k True (s - d) w' i' k' a' L (c::T) kv vs:=
 ⟨q.mid.nodem hx hn,(q.node hx hn hz).sz⟩
theorem Mz.holds (q:Mz wt w rb tb cap t i k g s W j kj aj L T kv vs) {must:Prop} {i':Nat} {k' a':Int} (hx:Nx W rb tb cap t j kj must w' i' k' a') {kv':Value} {vs':List (List Value)} (hK:Kids W.heap.size (k'=0) w' kv' vs') {d:Int} (hz:k'=0→∀f,tot wt f w' vs'+d≤16*((i':Int) - (j:Int))):Mz wt w rb tb cap t i k g (s - d) w' i' k' a' L (vs'++T) kv vs:=
 ⟨q.mid.holds hx hK,fun e f=>by
  have h:=q.sz (hx.ok e) f
  have h3:=q.mid.tots_kp (wt:=wt) hx.kp f
  have h4:=hz e f
  rw[tot_append,h3.1,h3.2]
  omega⟩
theorem Mz.list (q:Mz wt w rb tb cap t i k g s W j kj aj L T (.slice none 0 0) []) {must:Prop} {i':Nat} {k' a':Int} (hx:Nx W rb tb cap t j kj must w' i' k' a') {kv':Value} {vs':List (List Value)} (hK:Kids W.heap.size (k'=0) w' kv' vs') {d:Int} (hz:k'=0→∀f,tot wt f w' vs'+d≤16*((i':Int) - (j:Int))):Mz wt w rb tb cap t i k g (s - d) w' i' k' a' L T kv' vs':=
 ⟨q.mid.list hx hK,fun e f=>by
  have h:=q.sz (hx.ok e) f
  have h3:=q.mid.tots_kp (wt:=wt) hx.kp f
  have h4:=hz e f
  rw[tot_nil] at h
  rw[h3.2]
  omega⟩
theorem Mz.swap {a b:List Value} (q:Mz wt w rb tb cap t i k g s W j kj aj L (a::b::T) kv vs):Mz wt w rb tb cap t i k g s W j kj aj L (b::a::T) kv vs:=
 ⟨q.mid.swap,fun e f=>by have h:=q.sz e f;rw[tot_cons,tot_cons] at h⊢;omega⟩
theorem Mz.pop {p:Nat × Array Value} (q:Mz wt w rb tb cap t i k g s W j kj aj (p::L) T kv vs):Mz wt w rb tb cap t i k g s W j kj aj L T kv vs:=⟨q.mid.pop,q.sz⟩
theorem Mz.toT (q:Mz wt w rb tb cap t i k g s W j kj aj L T kv vs):Mz wt w rb tb cap t i k g s W j kj aj L (vs++T) (.slice none 0 0) []:=
 ⟨q.mid.toT,fun e f=>by have h:=q.sz e f;rw[tot_append,tot_nil];omega⟩
theorem Mz.made {us:List (List Value)} (q:Mz wt w rb tb cap t i k g s W j kj aj L (us++T) (.slice none 0 0) []) (cs:Array Value) (hcs:cs.toList=us.flatten) (hl:us.length≤20000) (h11:∀x∈us,x.length=11) {ad n:Nat} (had:ad=W.heap.size) (hn:n=us.length):
 Mz wt w rb tb cap t i k g s (W.alloc (.cells cs 28)) j kj aj L T (.slice (some ⟨ad,0,none⟩) n n) us:=
 ⟨q.mid.made cs hcs hl h11 had hn,fun e f=>by
  have h:=(q.alloc (.cells cs 28)).sz e f
  rw[tot_append,tot_nil] at h
  omega⟩
theorem Mz.fold (q:Mz wt w rb tb cap t i k g s W j kj aj L T kv vs) (hl:vs.length≤20000) {kind pos n m:Int} {name:ByteArray} (hn:name.size≤20000) (hp:0≤pos∧pos≤7000) (hG:kj=0→Gr kind n m name (vs.map labOf)):Mz wt w rb tb cap t i k g (s+(wt:Int)) W j kj aj L ((nodeC kind pos n m name kv).toList::T) (.slice none 0 0) []:=
 ⟨q.mid.fold hl hn hp hG,fun e f=>by
  obtain⟨h,ha⟩:=q.mid.all
  rw[tot_cons,tot_nil]
  have h0:=q.sz e f
  have h1:=tot_nonneg wt f W vs
  cases f with
  |zero=>
   have h2:nsy wt 0 W (nodeC kind pos n m name kv).toList=0:=rfl
   rw[h2]
   omega
  |succ f=>
   have e1:nsy wt (f+1) W (nodeC kind pos n m name kv).toList=wt+(vs.map (nsy wt f W)).sum:=nsy_eq q.mid.row (fun x hx=>ha x (.inl hx))
   have e2:=q.sz e f
   have e3:(vs.map (nsy wt f W)).sum≤(vs.map (nsy wt (f+1) W)).sum:=nsy_mono wt f W vs
   rw[e1]
   unfold tot at h0⊢
   omega⟩
end
end Go.Proofs.YtagdihffmjopaaaGreatDoor
