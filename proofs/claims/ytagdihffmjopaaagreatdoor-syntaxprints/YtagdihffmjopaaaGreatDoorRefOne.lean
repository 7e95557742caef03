/- The document's own lexer: one token at a place. -/
import Derived.Test.YtagdihffmjopaaaGreatDoorZEnum
import Derived.Test.YtagdihffmjopaaaGreatDoorRef
namespace Go.Proofs.YtagdihffmjopaaaGreatDoor
set_option linter.all false
open Go.RowKit
theorem isNode.kid {S:Nat→Prop} {g:Prop} {h:Nat} {w:World} {kind pos n m:Int} {name:ByteArray} {ko:Option Addr} {kl kc:Nat} (hn:isNode S g (h+1) w (nodeC kind pos n m name (.slice ko kl kc)).toList):(0≤pos∧pos≤7000)∧kl≤20000∧∀idx,idx<kl→∃gb,ko=some ⟨gb,0,none⟩∧S gb∧gb<w.heap.size∧∃kind pos n m name ko kl kc,isNode S g h w (nodeC kind pos n m name (.slice ko kl kc)).toList∧∀o,o<11→w.cell? ⟨gb,idx*11+o,none⟩=(nodeC kind pos n m name (.slice ko kl kc))[o]? :=by
 obtain⟨kind',pos',n',m',name',kv,vs,e1,e2,e3,e3',e4,e5,e6,e7⟩:=hn
 simp only[Array.toList_inj] at e1
 have e1':pos=pos'∧Value.slice ko kl kc=kv:=by simp at e1;exact⟨e1.2.1,e1.2.2.2.2.2⟩
 obtain⟨rfl,rfl⟩:=e1'
 have hkl:kl=vs.length:=by
  rcases e4.2 with⟨x1,x2⟩|⟨x,y,z,x1,_⟩
  ·simp at x1;omega
  ·simp at x1;omega
 refine⟨e3,by omega,fun idx hidx=>?_⟩
 have hi:idx<vs.length:=by omega
 have hx:vs[idx]? =some vs[idx]:=List.getElem?_eq_getElem hi
 have hm:vs[idx]∈vs:=List.getElem_mem hi
 have hk:=e6 _ hm
 have h11:∀x∈vs,x.length=11:=fun x hx=>(isNode.ones _ _ (e6 x hx)).1
 rcases e4.2 with⟨x1,x2⟩|⟨gb,cap,cur,x1,hb,hg,hnc,hcm,hcs,htake⟩
 ·omega
 ·obtain⟨rfl,-,rfl⟩:ko=some ⟨gb,0,none⟩∧kl=vs.length∧kc=cap:=by simpa using x1
  refine⟨gb,rfl,e5 gb rfl,(Array.getElem?_eq_some_iff.1 hg).1,?_⟩
  cases h with
  |zero=>exact absurd hk (fun x=>x)
  |succ h=>
   have hk':=hk
   obtain⟨kind,pos,n,m,name,kv',vs',f1,f2,f3,f3',f4,f5,f6,f7⟩:=hk
   have hsh:∃ko kl kc,kv'=.slice ko kl kc:=by
    rcases f4.2 with⟨x1,_⟩|⟨x,y,z,x1,_⟩
    ·exact⟨_,_,_,x1⟩
    ·exact⟨_,_,_,x1⟩
   obtain⟨ko',kl',kc',rfl⟩:=hsh
   refine⟨kind,pos,n,m,name,ko',kl',kc',f1▸hk',fun o ho=>?_⟩
   have hg2:=flat_get h11 hx o ho
   have hlt:idx*11+o<vs.length*11:=by omega
   rw[cell_of_row w gb (idx*11+o) cur 28 (0,0) hg]
   have e8:(cur.toList.take (vs.length*11))[idx*11+o]? =cur[idx*11+o]? :=by rw[List.getElem?_take,if_pos hlt];simp
   rw[←e8,htake,hg2,f1]
   simp
def DeepPost (w:World) (e:Ending) (w':World):Prop:=∃r:Int,e=.returned (.int .i64 r)∧(-1≤r∧r≤7000)∧Below w.heap.size w w'
set_option maxRecDepth 100000 in
set_option maxHeartbeats 1000000 in
theorem deep24 {g:Prop}:(h:Nat)→∀{S:Nat→Prop} {w:World} {kind pos n m:Int} {name:ByteArray} {ko:Option Addr} {kl kc:Nat},isNode S g h w (nodeC kind pos n m name (.slice ko kl kc)).toList→∀d:Int,0≤d→d≤100→Calls Tryz.prog 12 #[.agg (nodeC kind pos n m name (.slice ko kl kc)),.int .i64 d] w (DeepPost w)
 |0,_,_,_,_,_,_,_,_,_,_,hn=>absurd hn (fun x=>x)
 |h+1,S,w,kind,pos,n,m,name,ko,kl,kc,hn=>by
  intro d hd0 hd
  obtain⟨hp,hkl,hkid⟩:=hn.kid
  have IH:Hid (∀{S:Nat→Prop} {w:World} {kind pos n m:Int} {name:ByteArray} {ko:Option Addr} {kl kc:Nat},isNode S g h w (nodeC kind pos n m name (.slice ko kl kc)).toList→∀d:Int,0≤d→d≤100→Calls Tryz.prog 12 #[.agg (nodeC kind pos n m name (.slice ko kl kc)),.int .i64 d] w (DeepPost w)):=deep24 h
  have HK:Hid (∀idx,idx<kl→∃gb,ko=some ⟨gb,0,none⟩∧S gb∧gb<w.heap.size∧∃kind pos n m name ko kl kc,isNode S g h w (nodeC kind pos n m name (.slice ko kl kc)).toList∧∀o,o<11→w.cell? ⟨gb,idx*11+o,none⟩=(nodeC kind pos n m name (.slice ko kl kc))[o]?):=hkid
  clear hkid hn
  by_cases h80:80<d
  ·go_enter Tryz.func12,Tryz.ntmps12
   go_wp2_with fail
   go_ret
   exact⟨pos,rfl,by omega,(Below.refl _ _).alloc (Nat.le_refl _) _⟩
  ·have h80':decide (80<d)=false:=by simpa using h80
   go_enter Tryz.func12,Tryz.ntmps12
   go_wp2_with fail
   go_loopg [6,7,15] kl (fun gg _ _ u wr=>∃idx:Nat,gg=kl - idx∧u=.int .i64 idx∧idx≤kl∧Below w.heap.size w wr)
   case atStart=>exact⟨0,rfl,rfl,Nat.zero_le _,(Below.refl _ _).alloc (Nat.le_refl _) _⟩
   case round=>
    obtain⟨idx,hgk,rfl,hidx,hb⟩:=hrel
    have HG:Hid (gk=kl - idx):=hgk
    clear hgk
    by_cases hlt:idx<kl
    ·obtain⟨gb,rfl,hS,hgb,kind2,pos2,n2,m2,name2,ko2,kl2,kc2,hk2,hcell⟩:=HK.out idx hlt
     have hltI:(idx:Int)<(kl:Int):=by omega
     have hbs:=hb.size
     have hgr:gb<wr.heap.size:=by omega
     have ec:∀o,o<11→wr.cell? ⟨gb,idx*11+o,none⟩=(nodeC kind2 pos2 n2 m2 name2 (.slice ko2 kl2 kc2))[o]? :=fun o ho=>(hb.cell (p:=⟨gb,idx*11+o,none⟩) hgb).trans (hcell o ho)
     clear hcell
     have e0:=ec 0 (by decide)
     have e1:=ec 1 (by decide)
     have e2:=ec 2 (by decide)
     have e3:=ec 3 (by decide)
     have e4:=ec 4 (by decide)
     have e5:=ec 5 (by decide)
     have e6:=ec 6 (by decide)
     have e7:=ec 7 (by decide)
     have e8:=ec 8 (by decide)
     have e9:=ec 9 (by decide)
     have e10:=ec 10 (by decide)
     clear ec
     simp only[Nat.add_zero] at e0
     have hk3:isNode (fun b=>S b∧b<w.heap.size) g h (wr.alloc (.cells (nodeC kind2 pos2 n2 m2 name2 (.slice ko2 kl2 kc2)) 28)) (nodeC kind2 pos2 n2 m2 name2 (.slice ko2 kl2 kc2)).toList:=isNode.frame (Same.alloc _ _ _) _ _ (isNode.frame (fun b hb' _=>hb.block b hb'.2) _ _ (isNode.low _ _ hk2))
     go_wp2_with fail
     refine(IH.out hk3 _ (by omega) (by omega)).mono ?_
     rintro e w2 ⟨r,rfl,hr,hb2⟩
     have hb3:Below w.heap.size w w2:=(hb.alloc hb.size _).trans (hb2.mono (by simp;omega))
     by_cases hr0:0≤r
     ·go_wp2_with fail
      go_ret
      exact⟨r,rfl,hr,hb3⟩
     ·have hr0':decide (0≤r)=false:=by simpa using hr0
      go_wp2_with fail
      go_roundg (kl - (idx+1))
      case measure=>rw[HG.out];omega
      case rel=>exact⟨idx+1,rfl,by go_num,hlt,hb3⟩
    ·have hltI:¬(idx:Int)<(kl:Int):=by omega
     have hltD:decide ((idx:Int)<(kl:Int))=false:=by simpa using hltI
     go_wp2_with fail
     go_ret
     exact⟨-1,rfl,by omega,hb⟩
end Go.Proofs.YtagdihffmjopaaaGreatDoor
namespace Go.Proofs.YtagdihffmjopaaaGreatDoor
set_option linter.all false
open Go.RowKit
def OnePost (s:ByteArray) (i:Nat) (e:Ending):Prop:=
 ∃(a b:Int) (t:ByteArray) (n j:Int),e=.returned (.tuple #[.agg #[.int .i64 a,.int .i64 b,.string t,.int .i64 n],.int .i64 j,.int .i64 (one s i).err])∧
  ((one s i).err=0→a=(one s i).kind∧b=i∧t=oneText s i (one s i)∧n=(one s i).n∧j=((one s i).stop:Nat))
theorem onePost_bad {s:ByteArray} {i:Nat} {a b:Int} {t:ByteArray} {n j:Int} {k:Nat} (h:(one s i).err=k) (hk:k≠0):OnePost s i (.returned (.tuple #[.agg #[.int .i64 a,.int .i64 b,.string t,.int .i64 n],.int .i64 j,.int .i64 (k:Int)])):=
 ⟨a,b,t,n,j,by rw[h],fun h0=>absurd h0 (by omega)⟩
theorem onePost_ok {s:ByteArray} {i:Nat} {o:One} {t:ByteArray} {a b:Int} (h:one s i=o) (h0:o.err=0) (ht:oneText s i o=t) (ha:a=o.kind) (hb:b=o.n):OnePost s i (.returned (.tuple #[.agg #[.int .i64 a,.int .i64 (i:Int),.string t,.int .i64 b],.int .i64 (o.stop:Int),.int .i64 0])):=
 ⟨_,_,_,_,_,by rw[h,h0];rfl,fun _=>⟨by rw[h,ha],rfl,by rw[h,ht],by rw[h,hb],by rw[h]⟩⟩
theorem one_digit {s:ByteArray} {i:Nat} (hd:digN (bat s i)=true):one s i=if numVal s i (runEnd digN s i - i)≤9223372036854775807 then⟨0,1,runEnd digN s i,numVal s i (runEnd digN s i - i)⟩ else⟨3,0,0,0⟩:=by
 rw[one,if_pos hd]
theorem let_not_dig {c:Nat} (h:letN c=true):digN c=false:=by
 simp only[letN,digN,decide_eq_true_eq,decide_eq_false_iff_not] at h⊢;omega
theorem one_letter {s:ByteArray} {i:Nat} (hd:letN (bat s i)=true):one s i=if isWord (s.extract i (runEnd namN s i)).toList then⟨0,3,runEnd namN s i,0⟩ else if 20<runEnd namN s i - i then⟨3,0,0,0⟩ else⟨0,2,runEnd namN s i,0⟩:=by
 rw[one,if_neg (by simp[let_not_dig hd]),if_pos hd]
theorem one_life {s:ByteArray} {i:Nat} (h:bat s i=39) (hd:letN (bat s (i+1))=true):one s i=if 21<runEnd namN s (i+1) - i then⟨3,0,0,0⟩ else⟨0,4,runEnd namN s (i+1),0⟩:=by
 rw[one,if_neg (by simp[h,digN]),if_neg (by simp[h,letN]),if_pos (by simp[h,hd])]
theorem one_sign {s:ByteArray} {i:Nat} (h1:digN (bat s i)=false) (h2:letN (bat s i)=false) (h3:bat s i≠39∨letN (bat s (i+1))=false):one s i=if signLen s i=0 then⟨2,0,0,0⟩ else⟨0,5,i+signLen s i,0⟩:=by
 rw[one,if_neg (by simp[h1]),if_neg (by simp[h2]),if_neg]
 rcases h3 with h|h<;>simp[h]
theorem rest28' (s:ByteArray) (i:Nat) (x:Int) (w:World) (hs:s.size≤6000) (hi:i≤s.size) (hx:x=(i:Nat)):Calls Tryz.prog 37 #[.string s,.int .i64 x] w fun e w'=>e=.returned (.int .i64 (runEnd namN s i))∧w'=w:=by
 subst hx;exact rest28 s i w hs hi
theorem below2 (w:World) (o1 o2:Obj):Below w.heap.size w ((w.alloc o1).alloc o2):=((Below.refl _ _).alloc (Nat.le_refl _) _).alloc (by simp) _
set_option maxHeartbeats 1000000 in
theorem one17_digit (s:ByteArray) (i:Nat) (w:World) (hs:s.size≤6000) (hi:i<s.size) (hd:digN (bat s i)=true):
 Calls Tryz.prog 17 #[.string s,.int .i64 i] w fun e w'=>OnePost s i e∧Below w.heap.size w w':=by
 have hd':digN (s[i]'hi).toNat=true:=by rw[←bat_eq hi];exact hd
 have HO:Hid (one s i=if numVal s i (runEnd digN s i - i)≤9223372036854775807 then⟨0,1,runEnd digN s i,numVal s i (runEnd digN s i - i)⟩ else⟨3,0,0,0⟩):=one_digit hd
 clear hd
 go_enter Tryz.func17,Tryz.ntmps17
 go_wp2_with (first|(go_at_call 34;refine(digit25 _ _).mono ?_;rintro e w' ⟨rfl,rfl⟩)|(go_at_call 35;refine(number26 s i _ hs (Nat.le_of_lt hi)).mono ?_;rintro e w' ⟨⟨n,big,rfl,hn1,hn2⟩,rfl⟩;cases big))
 ·obtain⟨hn3,hn4⟩:=hn2 (by trivial)
  have e:one s i=⟨0,1,runEnd digN s i,numVal s i (runEnd digN s i - i)⟩:=by rw[HO.out,if_pos hn4]
  exact bodyPost_ret (v:=.tuple #[.agg #[.int .i64 1,.int .i64 i,.string ⟨#[]⟩,.int .i64 (numVal s i (runEnd digN s i - i))],.int .i64 (runEnd digN s i),.int .i64 0]) (by simp[results,Tryz.results17,go_sem]) rfl ⟨onePost_ok e rfl rfl rfl rfl,below2 _ _ _⟩
 ·have hn3:=hn1 (by trivial)
  have e:(one s i).err=3:=by rw[HO.out,if_neg (by omega)]
  exact bodyPost_ret (v:=.tuple #[.agg #[.int .i64 1,.int .i64 i,.string ⟨#[]⟩,.int .i64 n],.int .i64 (runEnd digN s i),.int .i64 3]) (by simp[results,Tryz.results17,go_sem]) rfl ⟨onePost_bad e (by decide),below2 _ _ _⟩
set_option maxHeartbeats 1000000 in
theorem one17_letter (s:ByteArray) (i:Nat) (w:World) (hs:s.size≤6000) (hi:i<s.size) (hd:letN (bat s i)=true):
 Calls Tryz.prog 17 #[.string s,.int .i64 i] w fun e w'=>OnePost s i e∧Below w.heap.size w w':=by
 have hd':letN (s[i]'hi).toNat=true:=by rw[←bat_eq hi];exact hd
 have hd0:digN (s[i]'hi).toNat=false:=let_not_dig hd'
 have HO:Hid (one s i=if isWord (s.extract i (runEnd namN s i)).toList then⟨0,3,runEnd namN s i,0⟩ else if 20<runEnd namN s i - i then⟨3,0,0,0⟩ else⟨0,2,runEnd namN s i,0⟩):=one_letter hd
 have h1:i<runEnd namN s i:=runEnd_pos hi (by simp[namN,hd])
 have h2:=runEnd_le namN s i (by omega)
 clear hd
 cases hw:isWord (s.extract i (runEnd namN s i)).toList
 ·by_cases h20:(20:Int)<(runEnd namN s i:Int) - i
  ·go_enter Tryz.func17,Tryz.ntmps17
   go_wp2_with (first|(go_at_call 34;refine(digit25 _ _).mono ?_;rintro e w' ⟨rfl,rfl⟩)|(go_at_call 36;refine(letter27 _ _).mono ?_;rintro e w' ⟨rfl,rfl⟩)|(go_at_call 37;refine(rest28' s i _ _ hs (by omega) rfl).mono ?_;rintro e w' ⟨rfl,rfl⟩)|(go_at_call 38;refine(word10 _ _).mono ?_;rintro e w' ⟨rfl,rfl⟩))
   have e:(one s i).err=3:=by rw[HO.out,if_neg (by simp[hw]),if_pos (by omega)]
   exact bodyPost_ret (v:=.tuple #[.agg #[.int .i64 2,.int .i64 i,.string (s.extract i (runEnd namN s i)),.int .i64 0],.int .i64 (runEnd namN s i),.int .i64 3]) (by simp[results,Tryz.results17,go_sem]) rfl ⟨onePost_bad e (by decide),below2 _ _ _⟩
  ·go_enter Tryz.func17,Tryz.ntmps17
   go_wp2_with (first|(go_at_call 34;refine(digit25 _ _).mono ?_;rintro e w' ⟨rfl,rfl⟩)|(go_at_call 36;refine(letter27 _ _).mono ?_;rintro e w' ⟨rfl,rfl⟩)|(go_at_call 37;refine(rest28' s i _ _ hs (by omega) rfl).mono ?_;rintro e w' ⟨rfl,rfl⟩)|(go_at_call 38;refine(word10 _ _).mono ?_;rintro e w' ⟨rfl,rfl⟩))
   have e:one s i=⟨0,2,runEnd namN s i,0⟩:=by rw[HO.out,if_neg (by simp[hw]),if_neg (by omega)]
   exact bodyPost_ret (v:=.tuple #[.agg #[.int .i64 2,.int .i64 i,.string (s.extract i (runEnd namN s i)),.int .i64 0],.int .i64 (runEnd namN s i),.int .i64 0]) (by simp[results,Tryz.results17,go_sem]) rfl ⟨onePost_ok e rfl (by simp[oneText]) rfl rfl,below2 _ _ _⟩
 ·go_enter Tryz.func17,Tryz.ntmps17
  go_wp2_with (first|(go_at_call 34;refine(digit25 _ _).mono ?_;rintro e w' ⟨rfl,rfl⟩)|(go_at_call 36;refine(letter27 _ _).mono ?_;rintro e w' ⟨rfl,rfl⟩)|(go_at_call 37;refine(rest28' s i _ _ hs (by omega) rfl).mono ?_;rintro e w' ⟨rfl,rfl⟩)|(go_at_call 38;refine(word10 _ _).mono ?_;rintro e w' ⟨rfl,rfl⟩))
  have e:one s i=⟨0,3,runEnd namN s i,0⟩:=by rw[HO.out,if_pos hw]
  exact bodyPost_ret (v:=.tuple #[.agg #[.int .i64 3,.int .i64 i,.string (s.extract i (runEnd namN s i)),.int .i64 0],.int .i64 (runEnd namN s i),.int .i64 0]) (by simp[results,Tryz.results17,go_sem]) rfl ⟨onePost_ok e rfl (by simp[oneText]) rfl rfl,below2 _ _ _⟩
set_option maxHeartbeats 1000000 in
theorem one17_life (s:ByteArray) (i:Nat) (w:World) (hs:s.size≤6000) (hi:i<s.size) (hb:bat s i=39) (hi2:i+1<s.size) (hd:letN (bat s (i+1))=true):
 Calls Tryz.prog 17 #[.string s,.int .i64 i] w fun e w'=>OnePost s i e∧Below w.heap.size w w':=by
 have hd':letN (s[i+1]'hi2).toNat=true:=by rw[←bat_eq hi2];exact hd
 have hb':(s[i]'hi).toNat=39:=by rw[←bat_eq hi];exact hb
 have hd0:digN (s[i]'hi).toNat=false:=by rw[hb'];rfl
 have hd1:letN (s[i]'hi).toNat=false:=by rw[hb'];rfl
 have hb2:(((s[i]'hi).toNat:Int)==39)=true:=by simp[hb']
 have HO:Hid (one s i=if 21<runEnd namN s (i+1) - i then⟨3,0,0,0⟩ else⟨0,4,runEnd namN s (i+1),0⟩):=one_life hb hd
 have h1:i+1<runEnd namN s (i+1):=runEnd_pos hi2 (by simp[namN,hd])
 have h2:=runEnd_le namN s (i+1) (by omega)
 clear hd hb hb'
 by_cases h21:(21:Int)<(runEnd namN s (i+1):Int) - i
 ·go_enter Tryz.func17,Tryz.ntmps17
  go_wp2_with (first|(go_at_call 34;refine(digit25 _ _).mono ?_;rintro e w' ⟨rfl,rfl⟩)|(go_at_call 36;refine(letter27 _ _).mono ?_;rintro e w' ⟨rfl,rfl⟩)|(go_at_call 37;refine(rest28' s (i+1) _ _ hs (by omega) (by omega)).mono ?_;rintro e w' ⟨rfl,rfl⟩)|(go_at_call 39;refine(sign29 s i _ hs hi).mono ?_;rintro e w' ⟨rfl,rfl⟩))
  have e:(one s i).err=3:=by rw[HO.out,if_pos (by omega)]
  exact bodyPost_ret (v:=.tuple #[.agg #[.int .i64 4,.int .i64 i,.string (s.extract i (runEnd namN s (i+1))),.int .i64 0],.int .i64 (runEnd namN s (i+1)),.int .i64 3]) (by simp[results,Tryz.results17,go_sem]) rfl ⟨onePost_bad e (by decide),below2 _ _ _⟩
 ·go_enter Tryz.func17,Tryz.ntmps17
  go_wp2_with (first|(go_at_call 34;refine(digit25 _ _).mono ?_;rintro e w' ⟨rfl,rfl⟩)|(go_at_call 36;refine(letter27 _ _).mono ?_;rintro e w' ⟨rfl,rfl⟩)|(go_at_call 37;refine(rest28' s (i+1) _ _ hs (by omega) (by omega)).mono ?_;rintro e w' ⟨rfl,rfl⟩)|(go_at_call 39;refine(sign29 s i _ hs hi).mono ?_;rintro e w' ⟨rfl,rfl⟩))
  have e:one s i=⟨0,4,runEnd namN s (i+1),0⟩:=by rw[HO.out,if_neg (by omega)]
  exact bodyPost_ret (v:=.tuple #[.agg #[.int .i64 4,.int .i64 i,.string (s.extract i (runEnd namN s (i+1))),.int .i64 0],.int .i64 (runEnd namN s (i+1)),.int .i64 0]) (by simp[results,Tryz.results17,go_sem]) rfl ⟨onePost_ok e rfl (by simp[oneText]) rfl rfl,below2 _ _ _⟩
set_option maxHeartbeats 1000000 in
theorem one17_sign (s:ByteArray) (i:Nat) (w:World) (hs:s.size≤6000) (hi:i<s.size) (hd0:digN (bat s i)=false) (hd1:letN (bat s i)=false)
 (hl:(bat s i≠39)∨(bat s i=39∧¬i+1<s.size)∨(bat s i=39∧∃h:i+1<s.size,letN (s[i+1]'h).toNat=false)):
 Calls Tryz.prog 17 #[.string s,.int .i64 i] w fun e w'=>OnePost s i e∧Below w.heap.size w w':=by
 have h3:bat s i≠39∨letN (bat s (i+1))=false:=by
  rcases hl with h|⟨_,h⟩|⟨_,h,h'⟩
  ·exact .inl h
  ·exact .inr (by rw[bat_out h];rfl)
  ·exact .inr (by rw[bat_eq h];exact h')
 have HO:Hid (one s i=if signLen s i=0 then⟨2,0,0,0⟩ else⟨0,5,i+signLen s i,0⟩):=one_sign hd0 hd1 h3
 have hle:=signLen_pos_le hi
 clear h3
 rw[bat_eq hi] at hd0 hd1 hl
 by_cases hz:signLen s i=0
 ·have HZ:Hid (signLen s i=0):=hz
  have hz':((signLen s i:Int)==0)=true:=by simp[hz]
  clear hz
  rcases hl with hb|⟨hb,hi2⟩|⟨hb,hi2,hl2⟩
  ·have hb':(((s[i]'hi).toNat:Int)==39)=false:=by simp;omega
   clear hb
   go_enter Tryz.func17,Tryz.ntmps17
   go_wp2_with (first|(go_at_call 34;refine(digit25 _ _).mono ?_;rintro e w' ⟨rfl,rfl⟩)|(go_at_call 36;refine(letter27 _ _).mono ?_;rintro e w' ⟨rfl,rfl⟩)|(go_at_call 37;refine(rest28' s (i+1) _ _ hs (by omega) (by omega)).mono ?_;rintro e w' ⟨rfl,rfl⟩)|(go_at_call 39;refine(sign29 s i _ hs hi).mono ?_;rintro e w' ⟨rfl,rfl⟩))
   have e:(one s i).err=2:=by rw[HO.out,if_pos HZ.out]
   exact bodyPost_ret (v:=.tuple #[.agg #[.int .i64 0,.int .i64 i,.string ⟨#[]⟩,.int .i64 0],.int .i64 (i),.int .i64 2]) (by simp[results,Tryz.results17,go_sem]) rfl ⟨onePost_bad e (by decide),below2 _ _ _⟩
  ·have hb':(((s[i]'hi).toNat:Int)==39)=true:=by simp;omega
   clear hb
   go_enter Tryz.func17,Tryz.ntmps17
   go_wp2_with (first|(go_at_call 34;refine(digit25 _ _).mono ?_;rintro e w' ⟨rfl,rfl⟩)|(go_at_call 36;refine(letter27 _ _).mono ?_;rintro e w' ⟨rfl,rfl⟩)|(go_at_call 37;refine(rest28' s (i+1) _ _ hs (by omega) (by omega)).mono ?_;rintro e w' ⟨rfl,rfl⟩)|(go_at_call 39;refine(sign29 s i _ hs hi).mono ?_;rintro e w' ⟨rfl,rfl⟩))
   have e:(one s i).err=2:=by rw[HO.out,if_pos HZ.out]
   exact bodyPost_ret (v:=.tuple #[.agg #[.int .i64 0,.int .i64 i,.string ⟨#[]⟩,.int .i64 0],.int .i64 (i),.int .i64 2]) (by simp[results,Tryz.results17,go_sem]) rfl ⟨onePost_bad e (by decide),below2 _ _ _⟩
  ·have hb':(((s[i]'hi).toNat:Int)==39)=true:=by simp;omega
   clear hb
   go_enter Tryz.func17,Tryz.ntmps17
   go_wp2_with (first|(go_at_call 34;refine(digit25 _ _).mono ?_;rintro e w' ⟨rfl,rfl⟩)|(go_at_call 36;refine(letter27 _ _).mono ?_;rintro e w' ⟨rfl,rfl⟩)|(go_at_call 37;refine(rest28' s (i+1) _ _ hs (by omega) (by omega)).mono ?_;rintro e w' ⟨rfl,rfl⟩)|(go_at_call 39;refine(sign29 s i _ hs hi).mono ?_;rintro e w' ⟨rfl,rfl⟩))
   have e:(one s i).err=2:=by rw[HO.out,if_pos HZ.out]
   exact bodyPost_ret (v:=.tuple #[.agg #[.int .i64 0,.int .i64 i,.string ⟨#[]⟩,.int .i64 0],.int .i64 (i),.int .i64 2]) (by simp[results,Tryz.results17,go_sem]) rfl ⟨onePost_bad e (by decide),below2 _ _ _⟩
 ·have HZ:Hid (signLen s i≠0):=hz
  have hz':((signLen s i:Int)==0)=false:=by simp;omega
  have hzp:0<signLen s i:=by omega
  clear hz
  rcases hl with hb|⟨hb,hi2⟩|⟨hb,hi2,hl2⟩
  ·have hb':(((s[i]'hi).toNat:Int)==39)=false:=by simp;omega
   clear hb
   go_enter Tryz.func17,Tryz.ntmps17
   go_wp2_with (first|(go_at_call 34;refine(digit25 _ _).mono ?_;rintro e w' ⟨rfl,rfl⟩)|(go_at_call 36;refine(letter27 _ _).mono ?_;rintro e w' ⟨rfl,rfl⟩)|(go_at_call 37;refine(rest28' s (i+1) _ _ hs (by omega) (by omega)).mono ?_;rintro e w' ⟨rfl,rfl⟩)|(go_at_call 39;refine(sign29 s i _ hs hi).mono ?_;rintro e w' ⟨rfl,rfl⟩))
   have e:one s i=⟨0,5,i+signLen s i,0⟩:=by rw[HO.out,if_neg HZ.out]
   exact bodyPost_ret (v:=.tuple #[.agg #[.int .i64 5,.int .i64 i,.string (s.extract i (i+signLen s i)),.int .i64 0],.int .i64 (i+signLen s i),.int .i64 0]) (by simp[results,Tryz.results17,go_sem]) rfl ⟨onePost_ok e rfl (by simp[oneText]) rfl rfl,below2 _ _ _⟩
  ·have hb':(((s[i]'hi).toNat:Int)==39)=true:=by simp;omega
   clear hb
   go_enter Tryz.func17,Tryz.ntmps17
   go_wp2_with (first|(go_at_call 34;refine(digit25 _ _).mono ?_;rintro e w' ⟨rfl,rfl⟩)|(go_at_call 36;refine(letter27 _ _).mono ?_;rintro e w' ⟨rfl,rfl⟩)|(go_at_call 37;refine(rest28' s (i+1) _ _ hs (by omega) (by omega)).mono ?_;rintro e w' ⟨rfl,rfl⟩)|(go_at_call 39;refine(sign29 s i _ hs hi).mono ?_;rintro e w' ⟨rfl,rfl⟩))
   have e:one s i=⟨0,5,i+signLen s i,0⟩:=by rw[HO.out,if_neg HZ.out]
   exact bodyPost_ret (v:=.tuple #[.agg #[.int .i64 5,.int .i64 i,.string (s.extract i (i+signLen s i)),.int .i64 0],.int .i64 (i+signLen s i),.int .i64 0]) (by simp[results,Tryz.results17,go_sem]) rfl ⟨onePost_ok e rfl (by simp[oneText]) rfl rfl,below2 _ _ _⟩
  ·have hb':(((s[i]'hi).toNat:Int)==39)=true:=by simp;omega
   clear hb
   go_enter Tryz.func17,Tryz.ntmps17
   go_wp2_with (first|(go_at_call 34;refine(digit25 _ _).mono ?_;rintro e w' ⟨rfl,rfl⟩)|(go_at_call 36;refine(letter27 _ _).mono ?_;rintro e w' ⟨rfl,rfl⟩)|(go_at_call 37;refine(rest28' s (i+1) _ _ hs (by omega) (by omega)).mono ?_;rintro e w' ⟨rfl,rfl⟩)|(go_at_call 39;refine(sign29 s i _ hs hi).mono ?_;rintro e w' ⟨rfl,rfl⟩))
   have e:one s i=⟨0,5,i+signLen s i,0⟩:=by rw[HO.out,if_neg HZ.out]
   exact bodyPost_ret (v:=.tuple #[.agg #[.int .i64 5,.int .i64 i,.string (s.extract i (i+signLen s i)),.int .i64 0],.int .i64 (i+signLen s i),.int .i64 0]) (by simp[results,Tryz.results17,go_sem]) rfl ⟨onePost_ok e rfl (by simp[oneText]) rfl rfl,below2 _ _ _⟩
theorem one17 (s:ByteArray) (i:Nat) (w:World) (hs:s.size≤6000) (hi:i<s.size):
 Calls Tryz.prog 17 #[.string s,.int .i64 i] w fun e w'=>OnePost s i e∧Below w.heap.size w w':=by
 cases hd:digN (bat s i)
 ·cases hl:letN (bat s i)
  ·by_cases hb:bat s i=39
   ·by_cases hi2:i+1<s.size
    ·cases hl2:letN (bat s (i+1))
     ·exact one17_sign s i w hs hi hd hl (.inr (.inr ⟨hb,hi2,by rw[←bat_eq hi2];exact hl2⟩))
     ·exact one17_life s i w hs hi hb hi2 hl2
    ·exact one17_sign s i w hs hi hd hl (.inr (.inl ⟨hb,hi2⟩))
   ·exact one17_sign s i w hs hi hd hl (.inl hb)
  ·exact one17_letter s i w hs hi hl
 ·exact one17_digit s i w hs hi hd
theorem one17_ok (s:ByteArray) (i:Nat) (w:World) (hs:s.size≤6000) (hi:i<s.size) (h0:(one s i).err=0):
 Calls Tryz.prog 17 #[.string s,.int .i64 i] w fun e w'=>e=.returned (.tuple #[.agg #[.int .i64 (one s i).kind,.int .i64 i,.string (oneText s i (one s i)),.int .i64 (one s i).n],.int .i64 (one s i).stop,.int .i64 0])∧Below w.heap.size w w':=by
 refine(one17 s i w hs hi).mono ?_
 rintro e w' ⟨⟨a,b,t,n,j,rfl,h⟩,hb⟩
 obtain⟨rfl,rfl,rfl,rfl,rfl⟩:=h h0
 exact⟨by rw[h0];rfl,hb⟩
theorem one17_bad (s:ByteArray) (i:Nat) (w:World) (hs:s.size≤6000) (hi:i<s.size):
 Calls Tryz.prog 17 #[.string s,.int .i64 i] w fun e w'=>(∃(a b:Int) (t:ByteArray) (n j:Int),e=.returned (.tuple #[.agg #[.int .i64 a,.int .i64 b,.string t,.int .i64 n],.int .i64 j,.int .i64 (one s i).err]))∧Below w.heap.size w w':=by
 refine(one17 s i w hs hi).mono ?_
 rintro e w' ⟨⟨a,b,t,n,j,rfl,h⟩,hb⟩
 exact⟨⟨a,b,t,n,j,rfl⟩,hb⟩
end Go.Proofs.YtagdihffmjopaaaGreatDoor
