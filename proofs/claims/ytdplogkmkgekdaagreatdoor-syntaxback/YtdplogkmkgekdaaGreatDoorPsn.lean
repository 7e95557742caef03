/- The project's Print, whole. -/
import Derived.Test.YtdplogkmkgekdaaGreatDoorPsl
import Derived.Test.YtdplogkmkgekdaaGreatDoorPsh
import Derived.Test.YtdplogkmkgekdaaGreatDoorPsi
import Derived.Test.YtdplogkmkgekdaaGreatDoorPsj
import Derived.Test.YtdplogkmkgekdaaGreatDoorPsk
import Derived.Test.YtdplogkmkgekdaaGreatDoorTypes
import Derived.Recover
set_option linter.all false
set_option maxRecDepth 100000
set_option maxHeartbeats 4000000
namespace Go.Proofs.YtdplogkmkgekdaaGreatDoor
open Go.RowKit
section
variable {B:Nat} {w0 w:World} {wb f:Nat} {aT:List (List UInt8)} {kind pos n m:Int} {name:ByteArray} {ko:Option Addr} {kl kc:Nat}
theorem aaB (h12:kind≤12) {T:List (List UInt8)} (HP:Wq B w0 wb 48 (ah kind pos n m name (.slice ko kl kc)) T):Wq B w0 wb 25 (ah kind pos n m name (.slice ko kl kc)) T:=by
 intro w aT h hf
 have q:=((Sp.start h hf).as (rest':=T++[]) (by simp)).box (ah kind pos n m name (.slice ko kl kc))
 have H:=@aG _ @HP
 clear h hf HP
 have F:=q.f1
 go_enter Tryz.func25,Tryz.ntmps25
 go_wp2_with (go_at_call 48;refine q.go (fun a1 a2=>H.out a1 a2) ?_;clear q F;intro w2 q;have F:=q.f1)
 go_end0
 exact q.done (by simp)
theorem aaC (h12:¬kind≤12) (h19:kind≤19) {T:List (List UInt8)} (HP:Wq B w0 wb 49 (ah kind pos n m name (.slice ko kl kc)) T):Wq B w0 wb 25 (ah kind pos n m name (.slice ko kl kc)) T:=by
 intro w aT h hf
 have q:=((Sp.start h hf).as (rest':=T++[]) (by simp)).box (ah kind pos n m name (.slice ko kl kc))
 have H:=@aG _ @HP
 clear h hf HP
 have F:=q.f1
 go_enter Tryz.func25,Tryz.ntmps25
 go_wp2_with (go_at_call 49;refine q.go (fun a1 a2=>H.out a1 a2) ?_;clear q F;intro w2 q;have F:=q.f1)
 go_end0
 exact q.done (by simp)
theorem aaD (h12:¬kind≤12) (h19:¬kind≤19) (h49:kind<49) {T:List (List UInt8)} (HP:Wq B w0 wb 50 (ah kind pos n m name (.slice ko kl kc)) T):Wq B w0 wb 25 (ah kind pos n m name (.slice ko kl kc)) T:=by
 intro w aT h hf
 have q:=((Sp.start h hf).as (rest':=T++[]) (by simp)).box (ah kind pos n m name (.slice ko kl kc))
 have H:=@aG _ @HP
 clear h hf HP
 have F:=q.f1
 go_enter Tryz.func25,Tryz.ntmps25
 go_wp2_with (go_at_call 50;refine q.go (fun a1 a2=>H.out a1 a2) ?_;clear q F;intro w2 q;have F:=q.f1)
 go_end0
 exact q.done (by simp)
theorem aaE (h12:¬kind≤12) (h19:¬kind≤19) (h49:¬kind<49) {T:List (List UInt8)} (HP:Wq B w0 wb 51 (ah kind pos n m name (.slice ko kl kc)) T):Wq B w0 wb 25 (ah kind pos n m name (.slice ko kl kc)) T:=by
 intro w aT h hf
 have q:=((Sp.start h hf).as (rest':=T++[]) (by simp)).box (ah kind pos n m name (.slice ko kl kc))
 have H:=@aG _ @HP
 clear h hf HP
 have F:=q.f1
 go_enter Tryz.func25,Tryz.ntmps25
 go_wp2_with (go_at_call 51;refine q.go (fun a1 a2=>H.out a1 a2) ?_;clear q F;intro w2 q;have F:=q.f1)
 go_end0
 exact q.done (by simp)
theorem uJ (name:ByteArray):(name.data.toList.length !=0)=false∨(name.data.toList.length !=0)=true:=by
 cases(name.data.toList.length !=0)<;>simp
theorem RP.up (hR:RP B w0 wb f) (hm:Mx B w0) (ht:Tab B w0) (hx:Nw B w0 (f+1) (ah kind pos n m name (.slice ko kl kc)).toList) (h0:0≤kind) (h1:kind≤54):Wq B w0 wb 25 (ah kind pos n m name (.slice ko kl kc)) (tok (f+1) w0 (ah kind pos n m name (.slice ko kl kc)).toList):=by
 obtain⟨vs,hkl,hr,hg,-,-,-⟩:=hx.opened
 by_cases gi:0≤kind∧kind≤12
 ·have W:∀{T:List (List UInt8)},Wq B w0 wb 48 (ah kind pos n m name (.slice ko kl kc)) T→Wq B w0 wb 25 (ah kind pos n m name (.slice ko kl kc)) T:=fun HP=>aaB (by omega) HP
  by_cases k0:kind=0
  ·subst k0
   exact W (adh hR hm ht hx)
  by_cases k1:kind=1
  ·subst k1
   exact W (adi hR hm ht hx)
  by_cases k2:kind=2
  ·subst k2
   exact W (adj hR hm ht hx)
  by_cases k3:kind=3
  ·subst k3
   obtain⟨hmm,hnn⟩:=hg.data rfl
   have hn':n=0∨n=1:=by rcases hnn with⟨h,-⟩|⟨h,-⟩<;>omega
   have hm':m=0∨m=1∨m=2∨m=3:=by omega
   rcases hn' with hn'|hn'<;>rcases hm' with hm'|hm'|hm'|hm'
   ·exact W (xq (Xb hR hm ht hm' hn' hx))
   ·exact W (xq (Xd hR hm ht hm' hn' hx))
   ·exact W (xq (Xf hR hm ht hm' hn' hx))
   ·exact W (xq (Xh hR hm ht hm' hn' hx))
   ·exact W (xq (Xc hR hm ht hm' hn' hx))
   ·exact W (xq (Xe hR hm ht hm' hn' hx))
   ·exact W (xq (Xg hR hm ht hm' hn' hx))
   ·exact W (xq (Xi hR hm ht hm' hn' hx))
  by_cases k4:kind=4
  ·subst k4
   rcases uJ name with h|h
   ·exact W (Nu (aay hR hm ht h hx))
   ·rcases Nat.eq_zero_or_pos kl with hz|hz
    ·exact W (Nu (aaz hR hm ht h hz hx))
    ·exact W (Nu (aaA hR hm ht h hz hx))
  by_cases k5:kind=5
  ·subst k5
   rcases uJ name with h|h<;>cases hm1:(m==1)
   ·exact W (Hq (Xj hR hm ht hm1 h hx))
   ·exact W (Hq (Xl hR hm ht hm1 h hx))
   ·exact W (Hq (Xk hR hm ht hm1 h hx))
   ·exact W (Hq (Xm hR hm ht hm1 h hx))
  by_cases k6:kind=6
  ·subst k6
   exact W (adl (adg hR hx))
  by_cases k7:kind=7
  ·subst k7
   exact W (adn (ade hR hm ht hx))
  by_cases k8:kind=8
  ·subst k8
   exact W (ado (adf hR hm ht hx))
  by_cases k9:kind=9
  ·subst k9
   exact W (adk hR hm ht hx)
  by_cases k10:kind=10
  ·subst k10
   exact W (aaw hR hm ht hx)
  by_cases k11:kind=11
  ·subst k11
   exact W (aax hR hm ht hx)
  by_cases k12:kind=12
  ·subst k12
   rcases uJ name with h|h<;>cases hm1:(m==1)
   ·exact W (DZ (RJ hR hm ht hm1 h hx))
   ·exact W (DZ (RN hR hm ht hm1 h hx))
   ·exact W (DZ (RL hR hm ht hm1 h hx))
   ·exact W (DZ (RO hR hm ht hm1 h hx))
  omega
 by_cases gt:13≤kind∧kind≤19
 ·have W:∀{T:List (List UInt8)},Wq B w0 wb 49 (ah kind pos n m name (.slice ko kl kc)) T→Wq B w0 wb 25 (ah kind pos n m name (.slice ko kl kc)) T:=fun HP=>aaC (by omega) (by omega) HP
  by_cases k13:kind=13
  ·subst k13
   exact W (Zy hR hm ht hx)
  by_cases k14:kind=14
  ·subst k14
   exact W (Zz hR hm ht hx)
  by_cases k15:kind=15
  ·subst k15
   exact W (ZA hR hm ht hx)
  by_cases k16:kind=16
  ·subst k16
   rcases uJ name with h|h
   ·exact W (WI hR hm ht h hx)
   ·exact W (WK hR hm ht h hx)
  by_cases k17:kind=17
  ·subst k17
   rcases uJ name with h|h
   ·exact W (WJ hR hm ht h hx)
   ·exact W (WL hR hm ht h hx)
  by_cases k18:kind=18
  ·subst k18
   exact W (ZC hR hm ht hx)
  by_cases k19:kind=19
  ·subst k19
   exact W (ZB hR hm ht hx)
  omega
 by_cases ge:20≤kind∧kind≤48
 ·have W:∀{T:List (List UInt8)},Wq B w0 wb 50 (ah kind pos n m name (.slice ko kl kc)) T→Wq B w0 wb 25 (ah kind pos n m name (.slice ko kl kc)) T:=fun HP=>aaD (by omega) (by omega) (by omega) HP
  by_cases k20:kind=20
  ·subst k20
   exact W (ZQ hR hm ht hx)
  by_cases k21:kind=21
  ·subst k21
   exact W (ZR hR hm ht hx)
  by_cases k22:kind=22
  ·subst k22
   exact W (ZT hR hm ht hx)
  by_cases k23:kind=23
  ·subst k23
   exact W (ZU hR hm ht hx)
  by_cases k24:kind=24
  ·subst k24
   exact W (ZV hR hm ht hx)
  by_cases k25:kind=25
  ·subst k25
   rcases uJ name with h|h
   ·exact W (OX (WT hR hm ht h hx))
   ·exact W (OX (WU hR hm ht h hx))
  by_cases k26:kind=26
  ·subst k26
   exact W (Z4 (ZW hR hm ht hx))
  by_cases k27:kind=27
  ·subst k27
   exact W (Z5 (ZX hR hm ht hx))
  by_cases k28:kind=28
  ·subst k28
   exact W (Z6 (ZY hR hm ht hx))
  by_cases k29:kind=29
  ·subst k29
   exact W (Z7 hR hm ht hx)
  by_cases k30:kind=30
  ·subst k30
   exact W (Z8 hR hm ht hx)
  by_cases k31:kind=31
  ·subst k31
   exact W (Z9 hR hm ht hx)
  by_cases k32:kind=32
  ·subst k32
   exact W (aac hR hm ht hx)
  by_cases Zq:kind=33
  ·subst Zq
   have hlen:kl=2∨kl=3:=by
    obtain⟨y,z,zs,ji,hz,-,-,-⟩:=hg.eif rfl
    have:=congrArg List.length ji
    simp at this;omega
   rcases hlen with h|h
   ·exact W (O5 (WV hR hm ht h hx))
   ·exact W (O5 (WW hR hm ht h hx))
  by_cases Zr:kind=34
  ·subst Zr
   exact W (aam (aak hR hm ht hx))
  by_cases k35:kind=35
  ·subst k35
   exact W (aan (aah hR hm ht hx))
  by_cases k36:kind=36
  ·subst k36
   exact W (aao (aag hR hm ht hx))
  by_cases k37:kind=37
  ·subst k37
   exact W (aap (aai hR hm ht hx))
  by_cases k38:kind=38
  ·subst k38
   exact W (aaq (aad hR hm ht hx))
  by_cases k39:kind=39
  ·subst k39
   exact W (aar (aae hR hm ht hx))
  by_cases Zt:kind=40
  ·subst Zt
   exact W (aas (aaj hR hm ht hx))
  by_cases k41:kind=41
  ·subst k41
   exact W (aat (aaf hR hm ht hx))
  by_cases k42:kind=42
  ·subst k42
   exact W (aau (aav (aal hR hx)))
  by_cases Zu:kind=43
  ·subst Zu
   have hn':n=0∨n=1∨n=2∨n=3:=by have:=(hg.ET rfl).2;omega
   rcases hn' with hn'|hn'|hn'|hn'
   ·exact W (DX (DY (WX hR hm ht hn' hx)))
   ·exact W (DX (DY (WY hR hm ht hn' hx)))
   ·exact W (DX (DY (WZ hR hm ht hn' hx)))
   ·exact W (DX (DY (W9 hR hm ht hn' hx)))
  by_cases Zv:kind=44
  ·subst Zv
   rcases hx.shape with h|h
   ·exact W (OW (WS hR hm ht h hx))
   ·exact W (OW (WR hR hm ht h hx))
  by_cases k45:kind=45
  ·subst k45
   exact W (ZM (ZI hR hm ht hx))
  by_cases Zw:kind=46
  ·subst Zw
   exact W (ZN (ZK hR hm ht hx))
  by_cases k47:kind=47
  ·subst k47
   exact W (ZO (ZJ hR hm ht hx))
  by_cases Zx:kind=48
  ·subst Zx
   exact W (ZP (ZL hR hm ht hx))
  omega
 by_cases gp:49≤kind∧kind≤54
 ·have W:∀{T:List (List UInt8)},Wq B w0 wb 51 (ah kind pos n m name (.slice ko kl kc)) T→Wq B w0 wb 25 (ah kind pos n m name (.slice ko kl kc)) T:=fun HP=>aaE (by omega) (by omega) (by omega) HP
  by_cases k49:kind=49
  ·subst k49
   exact W (ZE hR hm ht hx)
  by_cases k50:kind=50
  ·subst k50
   cases hn2:(n==2)
   ·cases hm1:(m==1)
    ·exact W (RD hR hm ht hn2 hm1 hx)
    ·exact W (RF hR hm ht hn2 hm1 hx)
   ·exact W (RG hR hm ht hn2 hx)
  by_cases k51:kind=51
  ·subst k51
   exact W (ZF hR hm ht hx)
  by_cases k52:kind=52
  ·subst k52
   exact W (ZG hR hm ht hx)
  by_cases k53:kind=53
  ·subst k53
   exact W (ZH hR hm ht hx)
  by_cases k54:kind=54
  ·subst k54
   rcases Nat.eq_zero_or_pos kl with hz|hz
   ·exact W (WM hR hm ht hz hx)
   ·exact W (WO hR hm ht hz hx)
  omega
 omega
theorem RP.next (hm:Mx B w0) (ht:Tab B w0) (ih:RP B w0 wb f):RP B w0 wb (f+1):=by
 unfold RP
 intro w ts kind pos n m name kv hx hk h hf
 obtain⟨k',p',n',m',s',o',l',c',e,-,-⟩:=hx.fields
 have e2:kind=k'∧pos=p'∧n=n'∧m=m'∧name=s'∧kv=.slice o' l' c':=by simpa[ah] using e
 obtain⟨rfl,rfl,rfl,rfl,rfl,rfl⟩:=e2
 have hk2:=qF.kind (show qF (lab kind n m name (lenOf (.slice o' l' c'))) from hk)
 exact ih.up hm ht hx hk2.1 hk2.2 h hf
theorem RP.all (hm:Mx B w0) (ht:Tab B w0) (f:Nat):RP B w0 wb f:=by
 induction f with
 |zero=>intro w ts kind pos n m name kv hx;exact absurd hx (fun x=>x)
 |succ f ih=>exact RP.next hm ht ih
end
section
variable {B:Nat} {w0 w w2:World} {wb f:Nat} {ts aT:List (List UInt8)} {kind pos n m:Int} {name:ByteArray} {ko:Option Addr} {kl kc:Nat}
theorem O6 (hb:Below B w w2):∀(h:Nat) (x:List Value),isNode (fun b=>b<B) True h w x→(∀b,b<B→b<w.heap.size)→tok h w2 x=tok h w x:=by
 intro h
 induction h with
 |zero=>intro x hx;exact absurd hx (fun x=>x)
 |succ h ih=>
  intro x hx hB
  have hs:Same (fun b=>b<B) w w2:=fun b h1 _=>hb.block b h1
  obtain⟨kind,pos,n,m,name,kv,vs,h1,h2,h3,h3',h4,h5,h6,h7⟩:=hx
  subst h1
  rw[DK h4 h6,DK (jY h4 (fun b hb' hl=>hs b (h5 b hb') hl)) (fun x hx=>isNode.frame hs h x (h6 x hx))]
  congr 1
  refine List.map_congr_left (fun x hx=>?_)
  unfold aB
  rw[ih x (h6 x hx) hB]
theorem Nw.later {B':Nat} (hb:Below B w w2) (hB:B≤B') {h:Nat} {x:List Value} (hx:Nw B w h x):Nw B' w2 h x:=
 isNode.frame (fun b h1 _=>hb.block b h1) h x hx |>.weaken (fun b h1=>Nat.lt_of_lt_of_le h1 hB) (fun x=>x) h x
theorem Xn (p:Addr) (w:World):
 CallsD Tryz.prog 24 #[.pointer (some p)] .returning w fun e u' w'=>e=.returned (.tuple #[])∧u'=.returning∧w'=w:=by
 refine callsD_of_wpS Tryz.func24 rfl fun c₀ cs hu=>?_
 apply wpS_seq
 apply wpS_region
 rw[Tryz.ntmps24]
 simp[wpOpsS,go_sem,recoverD,hu,Exit.thenS,Array.replicate]
 refine wpS_cond (t:=false) (by simp[Act.eval]) ?_
 simp only[Bool.false_eq_true,if_false]
 refine wpS_of_wp (wp_skip ?_)
 cases c₀
 simp_all [bodyPostS,results,Tryz.results24]
theorem aeO {tmps:Array Value} {W:World} {hk:Nat} {v:ByteArray} (h4:tmps.getD 2 undef=.pointer (some ⟨hk,0,none⟩)) (hc:W.cell? ⟨hk,0,none⟩=some (.string v)):(results Tryz.f9 tmps).run Tryz.prog W=.ok (.string v) W:=by
 have h4':tmps[2]?.getD undef=.pointer (some ⟨hk,0,none⟩):=by simpa using h4
 simp[results,Tryz.results9,h4',go_sem,hc]
theorem adp {R:Ending→World→Prop} {tmps:Array Value} {W:World} {hk:Nat} {v:ByteArray} (h4:tmps.getD 2 undef=.pointer (some ⟨hk,0,none⟩)) (hc:W.cell? ⟨hk,0,none⟩=some (.string v)) (hR:R (.returned (.string v)) W):bodyPostD Tryz.prog Tryz.f9 R Exit.ret {tmps:=tmps,defers:=[{target:=.fn (.func 24) #[.pointer (some ⟨hk,0,none⟩)],args:=#[]}]} W:=by
 refine leaves_cons (f:=24) (args:=#[.pointer (some ⟨hk,0,none⟩)]) (by simp) (by simp[go_sem]) ?_
 refine(Xn ⟨hk,0,none⟩ _).mono ?_
 rintro e u' w'' ⟨rfl,rfl,rfl⟩
 exact⟨_,aeO h4 hc,hR⟩
theorem Pw.join (h:Pw B w0 w wb ts) (hlen:(Lib.join ts [32]).length≤140737488355328):∃ao l cp,w.heap[wb]? =some (.cells #[.slice ao l cp] 61 (0,0))∧Calls Tryz.prog 26 #[.slice ao l cp,.string ⟨#[32]⟩] w (fun e w'=>e=.returned (.string ⟨(Lib.join ts [32]).toArray⟩)∧Below w.heap.size w w'):=by
 obtain⟨ov,ss,hss,hov,hrow⟩:=h.ex
 have oC:=h.few
 rcases hrow.2 with⟨h1,h2⟩|⟨g,cap,cur,h1,hb,hg,hnc,hcm,hcs,htake⟩
 ·subst h1
  obtain rfl:ss=[]:=List.eq_nil_of_length_eq_zero h2
  subst hss
  refine⟨none,0,0,hov,?_⟩
  refine(Tryz.strings_Join_none none 0 ⟨#[32]⟩ w).mono ?_
  rintro e w' ⟨h1,h2⟩
  refine⟨?_,?_⟩
  ·rw[h1];rfl
  ·rw[h2];exact Below.refl _ _
 ·subst h1 hss
  refine⟨_,_,_,hov,?_⟩
  have hcell:∀(j:Nat) x,ss[j]? =some x→w.cell? ⟨g,0+j,none⟩=some (.string x):=fun j x hx=>by
   rw[Nat.zero_add,cell_of_row w g j cur 9 (0,0) hg]
   have hj:j<ss.length:=(List.getElem?_eq_some_iff.1 hx).1
   have e2:(cur.toList.take (ss.length*1))[j]? =cur[j]? :=by rw[List.getElem?_take,if_pos (by omega)];simp
   rw[←e2,htake,List.getElem?_map,hx]
   rfl
  have:=Tryz.strings_Join g 0 cap ss ⟨#[32]⟩ w hcell (Array.getElem?_eq_some_iff.1 hg).1 (by rw[List.length_map] at oC;omega) (by simpa using hnc) (by exact hlen)
  exact this
theorem aaF (ht:Tab w.heap.size w) (hm:Mx w.heap.size w) (hx:Nw w.heap.size w f (ah kind pos n m name (.slice ko kl kc)).toList) (hk:qF (nM (ah kind pos n m name (.slice ko kl kc)).toList)) (hf:(tok f w (ah kind pos n m name (.slice ko kl kc)).toList).length≤1099511627776) (hl:(Lib.join (tok f w (ah kind pos n m name (.slice ko kl kc)).toList) [32]).length≤140737488355328):Calls Tryz.prog 9 #[.agg (ah kind pos n m name (.slice ko kl kc))] w (fun e w'=>e=.returned (.string ⟨(Lib.join (tok f w (ah kind pos n m name (.slice ko kl kc)).toList) [32]).toArray⟩)∧Below w.heap.size w w'):=by
 have LU:∀(fn:Fn) (first cap:Array Value) (w:World),(Instr.makeFunc fn first cap).run Tryz.prog w=.ok (.func fn first cap) w:=fun _ _ _ _=>rfl
 have a1:=LM w (.cells (ah kind pos n m name (.slice ko kl kc)) 28)
 have a2:=LM (w.alloc (.cells (ah kind pos n m name (.slice ko kl kc)) 28)) (.cells #[.string ⟨#[]⟩] 9)
 obtain⟨W2,hW2⟩:∃W2,W2=(w.alloc (.cells (ah kind pos n m name (.slice ko kl kc)) 28)).alloc (.cells #[.string ⟨#[]⟩] 9):=⟨_,rfl⟩
 have hsz:W2.heap.size=w.heap.size+2:=by rw[hW2];simp
 have hbl:Below w.heap.size w W2:=by rw[hW2];exact a1.1.trans (a2.1.mono (by simp))
 have hN:Nw W2.heap.size W2 f (ah kind pos n m name (.slice ko kl kc)).toList:=Nw.later hbl (by omega) hx
 have hT:tok f W2 (ah kind pos n m name (.slice ko kl kc)).toList=tok f w (ah kind pos n m name (.slice ko kl kc)).toList:=O6 hbl f _ hx (fun b h=>h)
 have HT2:Tab W2.heap.size W2:=fun W hb=>ht W (hbl.trans (hb.mono (by omega)))
 have II:Mx W2.heap.size W2:=by
  obtain⟨mm,h⟩:=hm
  exact⟨mm,fun W hb=>h W (hbl.trans (hb.mono (by omega)))⟩
 obtain⟨T,hTe⟩:∃T,T=tok f w (ah kind pos n m name (.slice ko kl kc)).toList:=⟨_,rfl⟩
 rw[hTe.symm] at hf hl⊢
 rw[hTe.symm] at hT
 have a3:=LM W2 (.cells #[.slice none 0 0] 61)
 have HP:Hid (Pw W2.heap.size W2 (W2.alloc (.cells #[.slice none 0 0] 61)) W2.heap.size []):=⟨a3.1,Nat.le_refl _,⟨.slice none 0 0,[],rfl,a3.2,World.ownsRow_nil _ _ _ _⟩,by simp⟩
 have HR:Hid (∀{w1:World},Pw W2.heap.size W2 w1 W2.heap.size []→Calls Tryz.prog 25 #[.pointer (some ⟨W2.heap.size,0,none⟩),.agg (ah kind pos n m name (.slice ko kl kc))] w1 (PP W2.heap.size W2 w1 W2.heap.size [] T)):=fun h=>by
  have hRf:RP W2.heap.size W2 W2.heap.size f:=RP.all II HT2 f
  have h9:=hRf hN hk h (by rw[hT];simpa using hf)
  rw[hT] at h9
  exact h9
 have HB:Hid (Below w.heap.size w W2∧W2.heap.size=w.heap.size+2∧W2.heap[w.heap.size+1]? =some (.cells #[.string ⟨#[]⟩] 9 (0,0))∧W2.heap[w.heap.size]? =some (.cells (ah kind pos n m name (.slice ko kl kc)) 28 (0,0))):=⟨hbl,hsz,by rw[hW2];simpa using a2.2,by rw[hW2,Below.heap_alloc _ _ _ (by simp)];exact a1.2⟩
 have O7:=@aG _ @hl
 obtain⟨hb,Uk⟩:∃hb,hb=w.heap.size:=⟨_,rfl⟩
 have HWH:=@aG _ @Uk
 clear hx hk hf hl ht hm a1 a2 a3 hsz hbl hN hT HT2 II hTe
 go_enter_defers Tryz.func9,Tryz.ntmps9
 go_upto_region 2 with fail
 rw[←hW2,←Uk]
 have HB0:Hid (Below w.heap.size w W2):=HB.out.1
 rw[←Uk] at HB
 have lb:hb<W2.heap.size:=by have:=HB.out.2.1;omega
 have yg:hb+1<W2.heap.size:=by have:=HB.out.2.1;omega
 obtain⟨W3,hW3⟩:∃W3,W3=W2.alloc (.cells #[.slice none 0 0] 61):=⟨_,rfl⟩
 have HW3:=@aG _ @hW3
 rw[←hW3] at HP
 have F5:hb<W3.heap.size:=by rw[hW3];simp;omega
 have F3:∀o,W3.cell? ⟨hb,o,none⟩=(ah kind pos n m name (.slice ko kl kc))[o]? :=fun o=>by
  have h9:W3.heap[hb]? =some (.cells (ah kind pos n m name (.slice ko kl kc)) 28 (0,0)):=by rw[hW3,Below.heap_alloc _ _ _ lb];exact HB.out.2.2.2
  exact cell_of_row W3 hb o _ 28 (0,0) h9
 clear hW2 Uk hW3
 go_upto_region 3 with fail
 rw[←HW3.out]
 go_upto_region 4 with(go_at_call 25;refine(HR.out HP.out).mono ?_;rintro e w3 ⟨rfl,hp3,-⟩;have O8:=@aG _ @hp3;clear hp3)
 rw[List.nil_append] at O8
 obtain⟨ao,l,cp,hb3,hj⟩:=O8.out.join O7.out
 have HJ:=@aG _ @hj
 have c3:=cell_of_row w3 W2.heap.size 0 _ 61 (0,0) hb3
 have l3:=O8.out.lt
 have HX3:Hid (w3.heap[hb+1]? =some (.cells #[.string ⟨#[]⟩] 9 (0,0))):=(O8.out.uZ.block _ yg).trans HB.out.2.2.1
 have Ul:hb+1<w3.heap.size:=by omega
 clear hb3 hj F3 F5
 go_wp2_with (go_at_call 26;refine HJ.out.mono ?_;rintro e w4 ⟨rfl,hb4⟩;have O9:=@aG _ @hb4;have c4:=cell_of_row w4 (hb+1) 0 _ 9 (0,0) ((hb4.block _ Ul).trans HX3.out);have z4:=frozen_of_row w4 (hb+1) 0 _ 9 ((hb4.block _ Ul).trans HX3.out);have l4:hb+1<w4.heap.size:=Nat.lt_of_lt_of_le Ul hb4.size;have HX4:Hid (w4.heap[hb+1]? =some (.cells #[.string ⟨#[]⟩] 9 (0,0))):=(hb4.block _ Ul).trans HX3.out;clear hb4)
 refine adp rfl (cell_of_row _ (hb+1) 0 _ 9 (0,0) (heap_setCell_same w4 (hb+1) 0 _ 9 _ HX4.out)) ⟨rfl,?_⟩
 have B2:=HB0.out
 have B3:Below w.heap.size w w3:=B2.trans (O8.out.uZ.mono (by have:=B2.size;exact this))
 have B4:Below w.heap.size w w4:=B3.trans (O9.out.mono B3.size)
 exact B4.setCell (p:=⟨hb+1,0,none⟩) (by show w.heap.size≤hb+1;have:=HWH.out;omega) _
end
end Go.Proofs.YtdplogkmkgekdaaGreatDoor
