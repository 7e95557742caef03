/- The document's writer: operands, results. -/
import Derived.Test.YtagdihffmjopaaaGreatDoorPre
namespace Go.Proofs.YtagdihffmjopaaaGreatDoor
set_option linter.all false
open Go.RowKit
theorem byte58 {s:ByteArray} {i:Nat} (h:i<s.size):s.data.toList[i]? =some (s[i]'h):=by
 rw[Array.getElem?_toList,Array.getElem?_eq_getElem (by exact h)]
 rfl
theorem byte58_yes {s:ByteArray} {i:Nat} (h:i<s.size) (hb:(((s[i]'h).toNat:Int)==58)=true):s.data.toList[i]? =some 58:=by
 rw[byte58 h]
 have h3:(s[i]'h).toNat=58:=by
  have:=eq_of_beq hb
  omega
 congr 1
 exact UInt8.toNat_inj.1 (by rw[h3];rfl)
theorem byte58_no {s:ByteArray} {i:Nat} (h:i<s.size) (hb:(((s[i]'h).toNat:Int)==58)=false):s.data.toList[i]? ≠some 58:=by
 rw[byte58 h]
 intro e
 have e2:s[i]'h=58:=by simpa using e
 rw[e2] at hb
 exact absurd hb (by decide)
theorem extract_list (s:ByteArray) (a b:Nat):(s.extract a b).data.toList=(s.data.toList.drop a).take (b - a):=by
 simp[ByteArray.data_extract,Array.toList_extract,List.extract_eq_drop_take]
section
variable{B:Nat} {w0 w:World} {wb:Nat} {bs:List UInt8}
structure PZ (B:Nat) (w0 w:World) (wb:Nat) (bs:List UInt8) (s:ByteArray) (idx fr:Nat) (wr:World) (ps:List (List UInt8)):Prop where
 st:Wr B w0 wr wb (bs++glue ps)
 f:Fr 5 w wb wr
 rest:ps++pzF s.data.toList (s.size - 1 - idx) idx fr=pzF s.data.toList (s.size - 1) 0 0
 at_:fr≤idx∨(fr=idx+1∧s.data.toList[idx]? =some 58∧s.data.toList[idx+1]? ≠some 58)
 le:fr≤s.size
set_option maxRecDepth 100000 in
set_option maxHeartbeats 1000000 in
theorem path72 (h:Wr B w0 w wb bs) (hne:bs≠[]) (s:ByteArray) (hs:s.size≤20000) (h3:NTl s.data.toList) (hf:(bs++glue [pth s.data.toList]).length≤1099511627776):Calls Tryz.prog 72 #[.pointer (some ⟨wb,0,none⟩),.string s] w (WP B w0 w wb bs [pth s.data.toList]):=by
 have H3:Hid (NTl s.data.toList):=h3
 have hl:s.data.toList.length=s.size:=by rw[Array.length_toList];rfl
 have HP:Hid (glue (pzF s.data.toList (s.size - 1) 0 0)=glue [pth s.data.toList]):=by show _=_;rw[←hl];exact pz_pth h3
 have HF:Hid ((bs++glue (pzF s.data.toList (s.size - 1) 0 0)).length≤1099511627776):=by show _≤_;rw[HP.out];exact hf
 have HNE:Hid (bs≠[]):=hne
 have H0:Hid (PZ B w0 w wb bs s 0 0 w []):=⟨by simpa[glue] using h,Fr.refl _ _,rfl,.inl (Nat.le_refl _),Nat.zero_le _⟩
 clear h3 h hf hne hl
 go_enter Tryz.func72,Tryz.ntmps72
 go_wp2_with fail
 go_loopg [4,5] s.size (fun gg f u wr=>∃(idx fr:Nat) (ps:List (List UInt8)),gg=s.size - idx∧u=.int .i64 idx∧f=.int .i64 fr∧idx≤s.size∧Hid (PZ B w0 w wb bs s idx fr wr ps))
 case atStart=>exact⟨0,0,[],rfl,rfl,rfl,Nat.zero_le _,H0.out⟩
 case round=>
  obtain⟨idx,fr,ps,hgk,rfl,rfl,hidx,Q⟩:=hrel
  have HG:Hid (gk=s.size - idx):=hgk
  clear hgk
  have hfr:fr≤s.size∧fr≤idx+1:=⟨Q.out.le,by rcases Q.out.at_ with e|e<;>omega⟩
  by_cases hlt:idx+1<s.size
  ·have hltI:(idx:Int)+1<(s.size:Int):=by omega
   have hlt0:idx<s.size:=by omega
   have en:s.size - 1 - idx=(s.size - 1 - (idx+1))+1:=by omega
   have NO:Hid (¬(s.data.toList[idx]? =some 58∧s.data.toList[idx+1]? =some 58)→fr≤idx+1→PZ B w0 w wb bs s (idx+1) fr wr ps):=fun hn h5=>⟨Q.out.st,Q.out.f,by
    rw[←Q.out.rest,en]
    show _=ps++(if s.data.toList[idx]? =some 58∧s.data.toList[idx+1]? =some 58 then _ else pzF s.data.toList (s.size - 1 - (idx+1)) (idx+1) fr)
    rw[if_neg hn],.inl h5,Q.out.le⟩
   cases hc:(((s[idx]'hlt0).toNat:Int)==58)
   ·go_wp2_with fail
    go_roundg (s.size - (idx+1))
    case measure=>rw[HG.out];omega
    case rel=>exact⟨idx+1,fr,ps,rfl,by go_num,rfl,by omega,NO.out (fun h5=>byte58_no hlt0 hc h5.1) hfr.2⟩
   ·cases hc2:(((s[idx+1]'hlt).toNat:Int)==58)
    ·go_wp2_with fail
     go_roundg (s.size - (idx+1))
     case measure=>rw[HG.out];omega
     case rel=>exact⟨idx+1,fr,ps,rfl,by go_num,rfl,by omega,NO.out (fun h5=>byte58_no hlt hc2 h5.2) hfr.2⟩
    ·have b1:=byte58_yes hlt0 hc
     have b2:=byte58_yes hlt hc2
     have hfn:fr≤idx:=by
      rcases Q.out.at_ with e|⟨-,-,e⟩
      ·exact e
      ·exact absurd b2 e
     have hfi:(fr:Int)≤(idx:Int):=by omega
     have ER:Hid (ps++((s.extract fr idx).data.toList::[58,58]::pzF s.data.toList (s.size - 1 - (idx+1)) (idx+1) (idx+2))=pzF s.data.toList (s.size - 1) 0 0):=by
      show _=_
      rw[←Q.out.rest,en,extract_list]
      show _=ps++(if s.data.toList[idx]? =some 58∧s.data.toList[idx+1]? =some 58 then(s.data.toList.drop fr).take (idx - fr)::[58,58]::pzF s.data.toList (s.size - 1 - (idx+1)) (idx+1) (idx+2) else _)
      rw[if_pos ⟨b1,b2⟩]
     have BB:Hid (s.data.toList[idx]? =some 58∧s.data.toList[idx+1]? =some 58):=⟨b1,b2⟩
     have F1:Hid ((bs++glue ps++glue [(s.extract fr idx).data.toList]).length≤1099511627776):=by
      show _≤_
      refine Nat.le_trans ?_ HF.out
      rw[←ER.out]
      simp only[glue_append,glue_cons,glue_nil,List.length_append,List.length_cons,List.length_nil]
      omega
     have F2:Hid ((bs++glue ps++glue [(s.extract fr idx).data.toList]++glue [[58,58]]).length≤1099511627776):=by
      show _≤_
      refine Nat.le_trans ?_ HF.out
      rw[←ER.out]
      simp only[glue_append,glue_cons,glue_nil,List.length_append,List.length_cons,List.length_nil]
      omega
     have N1:Hid (bs++glue ps≠[]):=by show _≠_;simp[HNE.out]
     have N2:Hid (bs++glue ps++glue [(s.extract fr idx).data.toList]≠[]):=by show _≠_;simp[HNE.out]
     clear NO b1 b2
     go_wp2_with (first
      |(go_at_call 33;refine(put33 P1.out.1 N2.out ⟨#[58,58]⟩ F2.out).mono ?_;rintro e w2 ⟨rfl,q1,q2⟩;have P2:Hid _:=And.intro q1 (P1.out.2.trans q2);clear q1 q2)
      |(go_at_call 33;refine(put33 Q.out.st N1.out (s.extract fr idx) F1.out).mono ?_;rintro e w1 ⟨rfl,q1,q2⟩;have P1:Hid _:=And.intro q1 (Q.out.f.trans q2);clear q1 q2))
     go_roundg (s.size - (idx+1))
     case measure=>rw[HG.out];omega
     case rel=>
      refine⟨idx+1,idx+2,ps++[(s.extract fr idx).data.toList,[58,58]],rfl,by go_num,by go_num,by omega,⟨?_,P2.out.2,?_,.inr ⟨rfl,BB.out.2,H3.out idx BB.out.1 BB.out.2⟩,by omega⟩⟩
      ·have:=P2.out.1
       have e:bs++glue (ps++[(s.extract fr idx).data.toList,[58,58]])=bs++glue ps++glue [(s.extract fr idx).data.toList]++glue [[58,58]]:=by simp[glue]
       rw[e]
       exact this
      ·rw[←ER.out]
       simp
  ·have hltI:¬(idx:Int)+1<(s.size:Int):=by omega
   have hltD:decide ((idx:Int)+1<(s.size:Int))=false:=by simpa using hltI
   have hfi:(fr:Int)≤(s.size:Int):=by omega
   have en:s.size - 1 - idx=0:=by omega
   have ER:Hid (ps++[(s.extract fr s.size).data.toList]=pzF s.data.toList (s.size - 1) 0 0):=by
    show _=_
    rw[←Q.out.rest,en,extract_list]
    show _=ps++[s.data.toList.drop fr]
    rw[List.take_of_length_le (by rw[List.length_drop,Array.length_toList];exact Nat.le_refl _)]
   have F1:Hid ((bs++glue ps++glue [(s.extract fr s.size).data.toList]).length≤1099511627776):=by
    show _≤_
    refine Nat.le_trans ?_ HF.out
    rw[←ER.out,glue_append,List.append_assoc]
    exact Nat.le_refl _
   have N1:Hid (bs++glue ps≠[]):=by show _≠_;simp[HNE.out]
   go_wp2_with (go_at_call 33;refine(put33 Q.out.st N1.out (s.extract fr s.size) F1.out).mono ?_;rintro e w1 ⟨rfl,q1,q2⟩;have P1:Hid _:=And.intro q1 (Q.out.f.trans q2);clear q1 q2)
   go_end0
   refine⟨rfl,?_,P1.out.2⟩
   have e:bs++glue [pth s.data.toList]=bs++glue ps++glue [(s.extract fr s.size).data.toList]:=by rw[←HP.out,←ER.out,glue_append,List.append_assoc]
   rw[e]
   exact P1.out.1
end
end Go.Proofs.YtagdihffmjopaaaGreatDoor
namespace Go.Proofs.YtagdihffmjopaaaGreatDoor
set_option linter.all false
open Go.RowKit
structure Sw (B:Nat) (w0 w:World) (wb:Nat) (bs:List UInt8) (ts rest:List (List UInt8)) (wi:World) (L:List (Nat × Array Value)):Prop where
 wr:Wr B w0 wi wb (bs++glue ts)
 fr:Fr 5 w wb wi
 few:(bs++glue (ts++rest)).length≤1099511627776
 ne:bs≠[]
 own:∀p∈L,wi.heap[p.1]? =some (.cells p.2 28 (0,0))∧p.1≠wb
section
variable{B:Nat} {w0 w wi W:World} {wb:Nat} {bs:List UInt8} {ts rest X:List (List UInt8)} {L:List (Nat × Array Value)} {f:Nat} {args:Array Value} {Q:Ending→World→Prop} {t:List UInt8} {b b2:Nat} {c c2:Array Value}
theorem Sw.start (h:Wr B w0 w wb bs) (hne:bs≠[]) (hf:(bs++glue rest).length≤1099511627776):Sw B w0 w wb bs [] rest w []:=⟨by simpa[glue] using h,Fr.refl _ _,by simpa using hf,hne,fun p hp=>by cases hp⟩
theorem Sw.done (q:Sw B w0 w wb bs ts rest wi L) (hX:ts=X):WP B w0 w wb bs X (.returned (.tuple #[])) wi:=⟨rfl,hX▸q.wr,q.fr⟩
theorem Sw.nee (q:Sw B w0 w wb bs ts rest wi L):bs++glue ts≠[]:=by simp[q.ne]
theorem Sw.le (q:Sw B w0 w wb bs ts (X++rest) wi L):(bs++glue ts++glue X).length≤1099511627776:=by
 refine Nat.le_trans ?_ q.few
 rw[glue_append,glue_append]
 simp only[List.length_append]
 omega
theorem Sw.go (q:Sw B w0 w wb bs ts (X++rest) wi L) (h:∀{cs:List UInt8},Wr B w0 wi wb cs→cs≠[]→(cs++glue X).length≤1099511627776→Calls Tryz.prog f args wi (WP B w0 wi wb cs X)) (K:∀w',Sw B w0 w wb bs (ts++X) rest w' L→Q (.returned (.tuple #[])) w'):Calls Tryz.prog f args wi Q:=
 (h q.wr q.nee q.le).mono fun e w' p=>by
  obtain⟨rfl,h1,h2⟩:=p
  exact K w' ⟨by rw[glue_append,←List.append_assoc];exact h1,q.fr.trans h2,by rw[List.append_assoc];exact q.few,q.ne,fun p hp=>⟨h2.cells (q.own p hp).1 (by decide) (q.own p hp).2,(q.own p hp).2⟩⟩
theorem Sw.put (q:Sw B w0 w wb bs ts (t::rest) wi L) {s:ByteArray} (K:∀w',Sw B w0 w wb bs (ts++[t]) rest w' L→Q (.returned (.tuple #[])) w') (hs:s.data.toList=t:=by rfl):Calls Tryz.prog 33 #[.pointer (some ⟨wb,0,none⟩),.string s] wi Q:=by
 subst hs
 exact Sw.go (X:=[s.data.toList]) (rest:=rest) q (fun h1 h2 h3=>put33 h1 h2 s h3) K
theorem Sw.path (q:Sw B w0 w wb bs ts (t::rest) wi L) {s:ByteArray} (hs:s.size≤20000) (h3:NTl s.data.toList) (K:∀w',Sw B w0 w wb bs (ts++[t]) rest w' L→Q (.returned (.tuple #[])) w') (ht:pth s.data.toList=t:=by rfl):Calls Tryz.prog 72 #[.pointer (some ⟨wb,0,none⟩),.string s] wi Q:=by
 subst ht
 exact Sw.go (X:=[pth s.data.toList]) (rest:=rest) q (fun h1 h2 h3'=>path72 h1 h2 s hs h3 h3') K
theorem Sw.below (q:Sw B w0 w wb bs ts rest wi L) (hb:Below wi.heap.size wi W):Sw B w0 w wb bs ts rest W L:=
 ⟨q.wr.below hb,q.fr.trans (Fr.below hb),q.few,q.ne,fun p hp=>⟨(hb.block _ (Array.getElem?_eq_some_iff.1 (q.own p hp).1).1).trans (q.own p hp).1,(q.own p hp).2⟩⟩
theorem Sw.box (q:Sw B w0 w wb bs ts rest wi L) (c:Array Value):Sw B w0 w wb bs ts rest (wi.alloc (.cells c 28)) ((wi.heap.size,c)::L):=by
 have h:=al1 wi (.cells c 28)
 have q2:=q.below h.1
 refine⟨q2.wr,q2.fr,q2.few,q2.ne,fun p hp=>?_⟩
 rcases List.mem_cons.1 hp with rfl|hp
 ·exact⟨h.2,by have:=q.wr.lt;show wi.heap.size≠wb;omega⟩
 ·exact q2.own p hp
theorem Sw.pop (q:Sw B w0 w wb bs ts rest wi ((b,c)::L)):Sw B w0 w wb bs ts rest wi L:=⟨q.wr,q.fr,q.few,q.ne,fun p hp=>q.own p (List.mem_cons_of_mem _ hp)⟩
theorem Sw.f1 (q:Sw B w0 w wb bs ts rest wi ((b,c)::L)):(∀o,wi.cell? ⟨b,o,none⟩=c[o]?)∧b<wi.heap.size:=by
 have h:=(q.own (b,c) (List.mem_cons_self ..)).1
 exact⟨fun o=>cell_of_row wi b o _ 28 (0,0) h,(Array.getElem?_eq_some_iff.1 h).1⟩
theorem Sw.f2 (q:Sw B w0 w wb bs ts rest wi ((b,c)::(b2,c2)::L)):((∀o,wi.cell? ⟨b,o,none⟩=c[o]?)∧b<wi.heap.size)∧(∀o,wi.cell? ⟨b2,o,none⟩=c2[o]?)∧b2<wi.heap.size:=⟨q.f1,q.pop.f1⟩
theorem Sw.as (q:Sw B w0 w wb bs ts rest wi L) {rest':List (List UInt8)} (e:rest=rest'):Sw B w0 w wb bs ts rest' wi L:=e▸q
theorem Sw.puts (q:Sw B w0 w wb bs ts (X++rest) wi L) {ss:List ByteArray} {n c:Nat} (K:∀w',Sw B w0 w wb bs (ts++X) rest w' L→Q (.returned (.tuple #[])) w') {o:Array Value} {g:Nat} (hg:g=wi.heap.size) (ho:o=(ss.map Value.string).toArray) (hX:ss.map (·.data.toList)=X) (hn:ss.length=n) (hl:n≤100):Calls Tryz.prog 31 #[.pointer (some ⟨wb,0,none⟩),.slice (some ⟨g,0,none⟩) n c] (wi.alloc (.cells o 9)) Q:=by
 subst hg ho hX
 have h:=al1 wi (.cells (ss.map Value.string).toArray 9)
 refine(q.below h.1).go (f:=31) (fun h1 h2 h3=>?_) K
 have hp:=puts31g h1 (ss:=ss) (c:=c) hn hl h.2 (by have:=q.wr.lt;omega) (by rw[putL_glue h2];exact h3)
 rw[putL_glue h2] at hp
 exact hp
end
end Go.Proofs.YtagdihffmjopaaaGreatDoor
namespace Go.Proofs.YtagdihffmjopaaaGreatDoor
set_option linter.all false
open Go.RowKit
abbrev Nw (B:Nat) (w0:World) (f:Nat) (cs:List Value):Prop:=isNode (fun b=>b<B) True f w0 cs
def RN (B:Nat) (w0:World) (wb f:Nat):Prop:=∀{w:World} {bs:List UInt8} {kind pos n m:Int} {name:ByteArray} {kv:Value},Nw B w0 f (nodeC kind pos n m name kv).toList→noK (labOf (nodeC kind pos n m name kv).toList)→Wr B w0 w wb bs→bs≠[]→(bs++glue (tok f w0 (nodeC kind pos n m name kv).toList)).length≤1099511627776→Calls Tryz.prog 76 #[.pointer (some ⟨wb,0,none⟩),.agg (nodeC kind pos n m name kv)] w (WP B w0 w wb bs (tok f w0 (nodeC kind pos n m name kv).toList))
structure NR (B:Nat) (w0:World) (f:Nat) (a:Option Addr) (ks:List (List Value)):Prop where
 cell:∀i x,ks[i]? =some x→∃g o,a=some ⟨g,o,none⟩∧g<B∧∀j,j<11→w0.cell? ⟨g,o+i*11+j,none⟩=x[j]?
 all:∀x∈ks,Nw B w0 f x
 few:ks.length≤20000
theorem Nw.fields {B:Nat} {w0:World} {f:Nat} {x:List Value} (h:Nw B w0 f x):∃(kind pos n m:Int) (name:ByteArray) (ko:Option Addr) (kl kc:Nat),x=(nodeC kind pos n m name (.slice ko kl kc)).toList∧name.size≤20000∧kl≤20000:=by
 cases f with
 |zero=>exact absurd h (fun x=>x)
 |succ f=>
  obtain⟨kind,pos,n,m,name,kv,vs,h1,h2,h3,h3',h4,h5,h6,h7⟩:=h
  obtain⟨ao,cp,rfl⟩:=row_shape h4
  exact⟨kind,pos,n,m,name,ao,vs.length,cp,h1,h2,h3'⟩
def pRest (s:List UInt8) (ks:List Kd) (i:Nat):List (List UInt8):=if i=0 then pSep s ks else pMore s (ks.drop i)
theorem pRest_zero {s:List UInt8} {k:Kd} {ks:List Kd} (h:ks[0]? =some k):pRest s ks 0=k.t++pRest s ks 1:=by
 cases ks with
 |nil=>simp at h
 |cons a r=>
  obtain rfl:a=k:=by simpa using h
  rfl
theorem pRest_succ {s:List UInt8} {k:Kd} {ks:List Kd} {i:Nat} (hi:0<i) (h:ks[i]? =some k):pRest s ks i=s::(k.t++pRest s ks (i+1)):=by
 unfold pRest
 rw[if_neg (by omega),if_neg (by omega)]
 have e:ks.drop i=k::ks.drop (i+1):=by
  rw[List.drop_eq_getElem_cons (List.getElem?_eq_some_iff.1 h).1,(List.getElem?_eq_some_iff.1 h).2]
 rw[e]
 rfl
theorem pRest_end {s:List UInt8} {ks:List Kd}:pRest s ks ks.length=[]:=by
 unfold pRest
 split
 ·rename_i h
  rw[List.eq_nil_of_length_eq_zero h]
  rfl
 ·simp[pMore]
section
variable{B:Nat} {w0 w:World} {wb f:Nat} {bs:List UInt8}
set_option maxRecDepth 100000 in
set_option maxHeartbeats 1000000 in
theorem list97 (hR:RN B w0 wb f) {a:Option Addr} {c:Nat} {ks:List (List Value)} (r:NR B w0 f a ks) (hk:∀x∈ks,noK (labOf x)) (h:Wr B w0 w wb bs) (hne:bs≠[]) (hf:(bs++glue (pSep [44] (ks.map (kdAt f w0)))).length≤1099511627776):Calls Tryz.prog 97 #[.pointer (some ⟨wb,0,none⟩),.slice a ks.length c] w (WP B w0 w wb bs (pSep [44] (ks.map (kdAt f w0)))):=by
 have H:Hid (NR B w0 f a ks∧∀x∈ks,noK (labOf x)):=⟨r,hk⟩
 have Q0:Hid (Sw B w0 w wb bs [] (pRest [44] (ks.map (kdAt f w0)) 0) w []):=Sw.start h hne hf
 have hfew:=r.few
 clear r hk h hne hf
 go_enter Tryz.func97,Tryz.ntmps97
 go_wp2_with fail
 go_loopg [8] ks.length (fun gg u wr=>∃(idx:Nat) (ts:List (List UInt8)),gg=ks.length - idx∧u=.int .i64 idx∧idx≤ks.length∧Hid (ts++pRest [44] (ks.map (kdAt f w0)) idx=pSep [44] (ks.map (kdAt f w0)))∧Hid (Sw B w0 w wb bs ts (pRest [44] (ks.map (kdAt f w0)) idx) wr []))
 case atStart=>exact⟨0,[],rfl,rfl,Nat.zero_le _,rfl,Q0.out⟩
 case round=>
  obtain⟨idx,ts,hgk,rfl,hidx,HT,Q⟩:=hrel
  have HG:Hid (gk=ks.length - idx):=hgk
  clear hgk
  by_cases hlt:idx<ks.length
  ·have hltI:(idx:Int)<(ks.length:Int):=by omega
   obtain⟨x,hx⟩:∃x,ks[idx]? =some x:=⟨_,List.getElem?_eq_getElem hlt⟩
   obtain⟨g,o,rfl,hgB,hcell⟩:=H.out.1.cell idx x hx
   have hmem:=List.mem_of_getElem? hx
   obtain⟨kind,pos,n,m,name,ko,kl,kc,rfl,-,-⟩:=(H.out.1.all x hmem).fields
   have HX:Hid (Nw B w0 f (nodeC kind pos n m name (.slice ko kl kc)).toList∧noK (labOf (nodeC kind pos n m name (.slice ko kl kc)).toList)∧(ks.map (kdAt f w0))[idx]? =some (kdAt f w0 (nodeC kind pos n m name (.slice ko kl kc)).toList)):=⟨H.out.1.all _ hmem,H.out.2 _ hmem,by rw[List.getElem?_map,hx];rfl⟩
   have lift:∀j,j<11→wr.cell? ⟨g,o+idx*11+j,none⟩=(nodeC kind pos n m name (.slice ko kl kc)).toList[j]? :=fun j hj=>(Q.out.wr.bel.cell (p:=⟨g,o+idx*11+j,none⟩) hgB).trans (hcell j hj)
   have lg:g<wr.heap.size:=Nat.lt_of_lt_of_le hgB Q.out.wr.base
   have e0:=lift 0 (by decide)
   have e1:=lift 1 (by decide)
   have e2:=lift 2 (by decide)
   have e3:=lift 3 (by decide)
   have e4:=lift 4 (by decide)
   have e5:=lift 5 (by decide)
   have e6:=lift 6 (by decide)
   have e7:=lift 7 (by decide)
   have e8:=lift 8 (by decide)
   have e9:=lift 9 (by decide)
   have e10:=lift 10 (by decide)
   simp only[Nat.add_zero] at e0
   clear lift hcell hx hmem
   rcases Nat.eq_zero_or_pos idx with h0|h0
   ·subst h0
    simp only[Nat.zero_mul,Nat.add_zero] at e0 e1 e2 e3 e4 e5 e6 e7 e8 e9 e10
    have q:=((Q.out.as (pRest_zero HX.out.2.2)).box (nodeC kind pos n m name (.slice ko kl kc)))
    have HE:Hid (ts++(kdAt f w0 (nodeC kind pos n m name (.slice ko kl kc)).toList).t++pRest [44] (ks.map (kdAt f w0)) 1=pSep [44] (ks.map (kdAt f w0))):=by show _=_;rw[List.append_assoc,←pRest_zero HX.out.2.2];exact HT.out
    have F:=q.f1
    go_wp2_with (go_at_call 76;refine q.go (fun a1 a2 a3=>hR HX.out.1 HX.out.2.1 a1 a2 a3) ?_;clear q F;intro w1 q;have F:=q.f1)
    go_roundg (ks.length - (0+1))
    case measure=>rw[HG.out];omega
    case rel=>exact⟨0+1,_,rfl,by go_num,hlt,HE.out,q.pop⟩
   ·have hI:(0:Int)<(idx:Int):=by omega
    have q:=((Q.out.as (pRest_succ h0 HX.out.2.2)).box (nodeC kind pos n m name (.slice ko kl kc)))
    have HE:Hid (ts++[[44]]++(kdAt f w0 (nodeC kind pos n m name (.slice ko kl kc)).toList).t++pRest [44] (ks.map (kdAt f w0)) (idx+1)=pSep [44] (ks.map (kdAt f w0))):=by show _=_;rw[←HT.out,pRest_succ h0 HX.out.2.2];simp
    have F:=q.f1
    go_wp2_with (first|(go_at_call 33;refine q.put ?_;clear q F;intro w1 q;have F:=q.f1)|(go_at_call 76;refine q.go (fun a1 a2 a3=>hR HX.out.1 HX.out.2.1 a1 a2 a3) ?_;clear q F;intro w2 q;have F:=q.f1))
    go_roundg (ks.length - (idx+1))
    case measure=>rw[HG.out];omega
    case rel=>exact⟨idx+1,_,rfl,by go_num,hlt,HE.out,q.pop⟩
  ·have hltI:¬(idx:Int)<(ks.length:Int):=by omega
   obtain rfl:idx=ks.length:=by omega
   go_wp2_with fail
   go_end0
   refine Q.out.done ?_
   have:=HT.out
   have e:pRest [44] (ks.map (kdAt f w0)) ks.length=[]:=by have:=pRest_end (s:=[44]) (ks:=ks.map (kdAt f w0));rwa [List.length_map] at this
   rwa [e,List.append_nil] at this
end
end Go.Proofs.YtagdihffmjopaaaGreatDoor
namespace Go.Proofs.YtagdihffmjopaaaGreatDoor
set_option linter.all false
open Go.RowKit
section
variable{B:Nat} {w0 w:World} {wb f:Nat} {bs:List UInt8} {kind pos n m:Int} {name:ByteArray} {ko:Option Addr} {kl kc:Nat}
set_option maxRecDepth 100000 in
set_option maxHeartbeats 1000000 in
theorem kind113 (n:Int) (h:Wr B w0 w wb bs) (hne:bs≠[]) (hf:(bs++glue (pFn n)).length≤1099511627776):Calls Tryz.prog 113 #[.pointer (some ⟨wb,0,none⟩),.int .i64 n] w (WP B w0 w wb bs (pFn n)):=by
 have q:=Sw.start h hne hf
 clear h hne hf
 by_cases h1:n=1
 ·subst h1
  go_enter Tryz.func113,Tryz.ntmps113
  go_wp2_with (go_at_call 33;refine q.put (rest:=[]) ?_;clear q;intro w1 q)
  go_end0
  exact q.done rfl
 ·have h1':(n==1)=false:=by simpa using h1
  by_cases h2:n=2
  ·subst h2
   go_enter Tryz.func113,Tryz.ntmps113
   go_wp2_with (go_at_call 33;refine q.put (rest:=[]) ?_;clear q;intro w1 q)
   go_end0
   exact q.done rfl
  ·have h2':(n==2)=false:=by simpa using h2
   have e:pFn n=[]:=by simp[pFn,pWhen,h1',h2']
   go_enter Tryz.func113,Tryz.ntmps113
   go_wp2_with fail
   go_end0
   exact q.done e.symm
set_option maxRecDepth 100000 in
set_option maxHeartbeats 1000000 in
theorem written114 (hR:RN B w0 wb f) {a:Option Addr} {c:Nat} {ks:List (List Value)} (r:NR B w0 f a ks) (hk:∀x∈ks,noK (labOf x)) (h:Wr B w0 w wb bs) (hne:bs≠[]) (hf:(bs++glue (pTys (ks.map (kdAt f w0)))).length≤1099511627776):Calls Tryz.prog 114 #[.pointer (some ⟨wb,0,none⟩),.slice a ks.length c] w (WP B w0 w wb bs (pTys (ks.map (kdAt f w0)))):=by
 have H:Hid (NR B w0 f a ks∧∀x∈ks,noK (labOf x)):=⟨r,hk⟩
 have q:=Sw.start h hne hf
 clear r hk h hne hf
 rcases Nat.eq_zero_or_pos ks.length with h0|h0
 ·have hI:¬(0:Int)<(ks.length:Int):=by omega
  have e:pTys (ks.map (kdAt f w0))=[]:=by simp[pTys,pAng,pWhen,h0]
  go_enter Tryz.func114,Tryz.ntmps114
  go_wp2_with fail
  go_end0
  exact q.done rfl
 ·have hI:(0:Int)<(ks.length:Int):=by omega
  have hne0:ks.length≠0:=by omega
  have e:pTys (ks.map (kdAt f w0))=[[58,58],[60]]++(pSep [44] (ks.map (kdAt f w0))++[[62]]):=by simp[pTys,pAng,pWhen,pRow,hne0]
  rw[e] at q⊢
  clear e
  go_enter Tryz.func114,Tryz.ntmps114
  go_wp2_with (first
   |(go_at_call 31;refine q.puts (ss:=[⟨#[58,58]⟩,⟨#[60]⟩]) ?_ rfl rfl rfl rfl (by decide);clear q;intro w1 q)
   |(go_at_call 97;refine q.go (fun a1 a2 a3=>list97 hR H.out.1 H.out.2 a1 a2 a3) ?_;clear q;intro w2 q)
   |(go_at_call 33;refine q.put (rest:=[]) ?_;clear q;intro w3 q))
  go_end0
  exact q.done (by simp)
set_option maxRecDepth 100000 in
set_option maxHeartbeats 1000000 in
theorem bind100 (h:Wr B w0 w wb bs) (hne:bs≠[]) (hf:(bs++glue (pWhen (decide (0<n)) [[114,101,102]]++(pWhen (n==2||m==1) [[109,117,116]]++[name.data.toList]))).length≤1099511627776):Calls Tryz.prog 100 #[.pointer (some ⟨wb,0,none⟩),.agg (nodeC kind pos n m name (.slice ko kl kc))] w (WP B w0 w wb bs (pWhen (decide (0<n)) [[114,101,102]]++(pWhen (n==2||m==1) [[109,117,116]]++[name.data.toList]))):=by
 have q:=(Sw.start h hne hf).box (nodeC kind pos n m name (.slice ko kl kc))
 clear h hne hf
 have F:=q.f1
 by_cases h0:0<n
 ·cases h2:(n==2)
  ·cases h1:(m==1)
   ·simp only[h0,h2,h1,pWhen,decide_true,Bool.or_false,Bool.false_eq_true,if_true,if_false,List.nil_append,List.singleton_append] at q⊢
    go_enter Tryz.func100,Tryz.ntmps100
    go_wp2_with (go_at_call 33;refine q.put ?_;clear q F;intro w1 q;have F:=q.f1)
    go_end0
    exact q.done rfl
   ·simp only[h0,h2,h1,pWhen,decide_true,Bool.or_true,if_true,List.singleton_append] at q⊢
    go_enter Tryz.func100,Tryz.ntmps100
    go_wp2_with (go_at_call 33;refine q.put ?_;clear q F;intro w1 q;have F:=q.f1)
    go_end0
    exact q.done rfl
  ·simp only[h0,h2,pWhen,decide_true,Bool.true_or,if_true,List.singleton_append] at q⊢
   go_enter Tryz.func100,Tryz.ntmps100
   go_wp2_with (go_at_call 33;refine q.put ?_;clear q F;intro w1 q;have F:=q.f1)
   go_end0
   exact q.done rfl
 ·have h2:(n==2)=false:=by simp;omega
  cases h1:(m==1)
  ·simp only[h0,h2,h1,pWhen,decide_false,Bool.or_false,Bool.false_eq_true,if_false,List.nil_append] at q⊢
   go_enter Tryz.func100,Tryz.ntmps100
   go_wp2_with (go_at_call 33;refine q.put ?_;clear q F;intro w1 q;have F:=q.f1)
   go_end0
   exact q.done rfl
  ·simp only[h0,h2,h1,pWhen,decide_false,Bool.or_true,Bool.false_eq_true,if_true,if_false,List.nil_append,List.singleton_append] at q⊢
   go_enter Tryz.func100,Tryz.ntmps100
   go_wp2_with (go_at_call 33;refine q.put ?_;clear q F;intro w1 q;have F:=q.f1)
   go_end0
   exact q.done rfl
end
end Go.Proofs.YtagdihffmjopaaaGreatDoor
namespace Go.Proofs.YtagdihffmjopaaaGreatDoor
set_option linter.all false
open Go.RowKit
section
variable{B:Nat} {w0 w:World} {wb f:Nat} {bs:List UInt8} {kind pos n m:Int} {name:ByteArray} {ko:Option Addr} {kl kc:Nat}
set_option maxRecDepth 100000 in
set_option maxHeartbeats 2000000 in
theorem operand115 (hR:RN B w0 wb f) (hx:Nw B w0 f (nodeC kind pos n m name (.slice ko kl kc)).toList) (hk:noK (labOf (nodeC kind pos n m name (.slice ko kl kc)).toList)) (h:Wr B w0 w wb bs) (hne:bs≠[]) (hf:(bs++glue (pOp (kdAt f w0 (nodeC kind pos n m name (.slice ko kl kc)).toList))).length≤1099511627776):Calls Tryz.prog 115 #[.pointer (some ⟨wb,0,none⟩),.agg (nodeC kind pos n m name (.slice ko kl kc))] w (WP B w0 w wb bs (pOp (kdAt f w0 (nodeC kind pos n m name (.slice ko kl kc)).toList))):=by
 have HX:Hid (∀{w1:World} {cs:List UInt8},Wr B w0 w1 wb cs→cs≠[]→(cs++glue (tok f w0 (nodeC kind pos n m name (.slice ko kl kc)).toList)).length≤1099511627776→Calls Tryz.prog 76 #[.pointer (some ⟨wb,0,none⟩),.agg (nodeC kind pos n m name (.slice ko kl kc))] w1 (WP B w0 w1 wb cs (tok f w0 (nodeC kind pos n m name (.slice ko kl kc)).toList))):=fun a1 a2 a3=>hR hx hk a1 a2 a3
 have q0:=(Sw.start h hne hf).box (nodeC kind pos n m name (.slice ko kl kc))
 have F:=q0.f1
 obtain⟨T,hT⟩:∃T,T=tok f w0 (nodeC kind pos n m name (.slice ko kl kc)).toList:=⟨_,rfl⟩
 have e:pOp (kdAt f w0 (nodeC kind pos n m name (.slice ko kl kc)).toList)=if simpleK kind then T else [40]::(T++[[41]]):=by rw[hT];rfl
 rw[e] at q0⊢
 rw[←hT] at HX
 clear h hne hf hx hk e hT
 cases hs:simpleK kind
 ·rw[hs] at q0
  have q:=q0.as (rest':=[40]::(T++[[41]])) (by simp)
  clear q0
  have hs':=hs
  simp only[simpleK,Bool.or_eq_false_iff] at hs'
  obtain⟨⟨⟨⟨⟨⟨n1,n2⟩,n3⟩,n4⟩,n5⟩,n6⟩,n7⟩:=hs'
  clear hs
  go_enter Tryz.func115,Tryz.ntmps115
  go_wp2_with (first
   |(go_at_call 33;refine q.put ?_;clear q F;intro w1 q;have F:=q.f1)
   |(go_at_call 76;refine q.go (fun a1 a2 a3=>HX.out a1 a2 a3) ?_;clear q F;intro w2 q;have F:=q.f1))
  go_end0
  exact q.done (by simp)
 ·rw[hs] at q0
  have q:=q0.as (rest':=T++[]) (by simp)
  clear q0
  simp only[simpleK,Bool.or_eq_true,beq_iff_eq] at hs
  rcases hs with(((((rfl|rfl)|rfl)|rfl)|rfl)|rfl)|rfl<;>
  ·go_enter Tryz.func115,Tryz.ntmps115
   go_wp2_with (go_at_call 76;refine q.go (fun a1 a2 a3=>HX.out a1 a2 a3) ?_;clear q F;intro w2 q;have F:=q.f1)
   go_end0
   exact q.done (by simp)
set_option maxRecDepth 100000 in
set_option maxHeartbeats 1000000 in
theorem result96 (hR:RN B w0 wb f) (hx:Nw B w0 f (nodeC kind pos n m name (.slice ko kl kc)).toList) (hk:noK (labOf (nodeC kind pos n m name (.slice ko kl kc)).toList)) (h:Wr B w0 w wb bs) (hne:bs≠[]) (hf:(bs++glue (pRes (kdAt f w0 (nodeC kind pos n m name (.slice ko kl kc)).toList))).length≤1099511627776):Calls Tryz.prog 96 #[.pointer (some ⟨wb,0,none⟩),.agg (nodeC kind pos n m name (.slice ko kl kc))] w (WP B w0 w wb bs (pRes (kdAt f w0 (nodeC kind pos n m name (.slice ko kl kc)).toList))):=by
 have HX:Hid (∀{w1:World} {cs:List UInt8},Wr B w0 w1 wb cs→cs≠[]→(cs++glue (tok f w0 (nodeC kind pos n m name (.slice ko kl kc)).toList)).length≤1099511627776→Calls Tryz.prog 76 #[.pointer (some ⟨wb,0,none⟩),.agg (nodeC kind pos n m name (.slice ko kl kc))] w1 (WP B w0 w1 wb cs (tok f w0 (nodeC kind pos n m name (.slice ko kl kc)).toList))):=fun a1 a2 a3=>hR hx hk a1 a2 a3
 have q0:=(Sw.start h hne hf).box (nodeC kind pos n m name (.slice ko kl kc))
 have F:=q0.f1
 obtain⟨T,hT⟩:∃T,T=tok f w0 (nodeC kind pos n m name (.slice ko kl kc)).toList:=⟨_,rfl⟩
 have e:pRes (kdAt f w0 (nodeC kind pos n m name (.slice ko kl kc)).toList)=if kind=15∧kl=0 then [] else [45,62]::T:=by rw[hT];rfl
 rw[e] at q0⊢
 rw[←hT] at HX
 clear h hne hf hx hk e hT
 by_cases h1:kind=15
 ·subst h1
  rcases Nat.eq_zero_or_pos kl with h0|h0
  ·subst h0
   have q:=q0.as (rest':=[]) (by simp)
   clear q0
   go_enter Tryz.func96,Tryz.ntmps96
   go_wp2_with fail
   go_end0
   exact q.done (by simp)
  ·have h2:((kl:Int)==0)=false:=by simp;omega
   have h3:kl≠0:=by omega
   have q:=q0.as (rest':=[45,62]::(T++[])) (by simp[h3])
   clear q0
   go_enter Tryz.func96,Tryz.ntmps96
   go_wp2_with (first
    |(go_at_call 33;refine q.put ?_;clear q F;intro w1 q;have F:=q.f1)
    |(go_at_call 76;refine q.go (fun a1 a2 a3=>HX.out a1 a2 a3) ?_;clear q F;intro w2 q;have F:=q.f1))
   go_end0
   exact q.done (by simp[h3])
 ·have h1':(kind==15)=false:=by simpa using h1
  have q:=q0.as (rest':=[45,62]::(T++[])) (by simp[h1])
  clear q0
  go_enter Tryz.func96,Tryz.ntmps96
  go_wp2_with (first
   |(go_at_call 33;refine q.put ?_;clear q F;intro w1 q;have F:=q.f1)
   |(go_at_call 76;refine q.go (fun a1 a2 a3=>HX.out a1 a2 a3) ?_;clear q F;intro w2 q;have F:=q.f1))
  go_end0
  exact q.done (by simp[h1])
end
end Go.Proofs.YtagdihffmjopaaaGreatDoor
