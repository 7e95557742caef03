/- SyntaxBack's walk. -/
import Derived.Test.YtdplogkmkgekdaaGreatDoorBkz
import Derived.Test.YtdplogkmkgekdaaGreatDoorBke
import Derived.Test.YtdplogkmkgekdaaGreatDoorBkf
import Derived.Test.YtdplogkmkgekdaaGreatDoorPlq
import Derived.Test.YtdplogkmkgekdaaGreatDoorPsn
import Derived.Test.YtdplogkmkgekdaaGreatDoorTypes
set_option linter.all false
set_option maxRecDepth 100000
set_option maxHeartbeats 4000000
namespace Go.Proofs.YtdplogkmkgekdaaGreatDoor.Bk
open Go.RowKit
theorem wY {h:Nat}:∀{F:List (List Nr)} {Ks:List Kd},Zip (oJ h) F Ks→∀z∈F,gX h z
 |[],[],_,z,hz=>by cases hz
 |a::F,b::Ks,hz,z,hm=>by
  rcases List.mem_cons.1 hm with rfl|hm
  ·exact oJ.tree hz.1
  ·exact wY hz.2 z hm
 |[],_::_,hz,_,_=>hz.elim
 |_::_,[],hz,_,_=>hz.elim
theorem oJ.one:∀{h h2:Nat} {x x2:List Nr} {K K2:Kd},oJ h x K→oJ h2 x2 K2→strip x=strip x2→K=K2
 |0,_,_,_,_,_,h,_,_=>h.elim
 |_+1,0,_,_,_,_,_,h,_=>h.elim
 |h+1,h2+1,_,_,_,_,⟨k,p,n,m,s,F,Ks,e1,e2,hz,_⟩,⟨k',p',n',m',s',F',yV,Zi,e2',hz',_⟩,e=>by
  subst e1 e2 Zi e2'
  obtain⟨⟨rfl,rfl,rfl,rfl⟩,hl,hs⟩:=Eu (wY hz) (wY hz') e
  have key:∀(F F':List (List Nr)) (Ks yV:List Kd),Zip (oJ h) F Ks→Zip (oJ h2) F' yV→F.map strip=F'.map strip→Ks=yV:=by
   intro F
   induction F with
   |nil=>
    intro F' Ks yV h1 h2 h3
    cases F' with
    |cons _ _=>cases h3
    |nil=>
     cases Ks with
     |cons _ _=>exact h1.elim
     |nil=>
      cases yV with
      |cons _ _=>exact h2.elim
      |nil=>rfl
   |cons a F ih=>
    intro F' Ks yV h1 h2 h3
    cases F' with
    |nil=>cases h3
    |cons b F'=>
     cases Ks with
     |nil=>exact h1.elim
     |cons c Ks=>
      cases yV with
      |nil=>exact h2.elim
      |cons d yV=>
       simp only[List.map_cons,List.cons.injEq] at h3
       rw[oJ.one h1.1 h2.1 h3.1,ih F' Ks yV h1.2 h2.2 h3.2]
  rw[key F F' Ks yV hz hz' hs,hl]
theorem Pt.one {x x2:List Nr} {K K2:Kd} (h:Pt x K) (h2:Pt x2 K2) (e:er x=er x2):K=K2:=by
 obtain⟨a,ha⟩:=h
 obtain⟨b,hb⟩:=h2
 exact ha.one hb (Dq e)
theorem Bp:∀(v:Wd) (vs:List Wd),Lib.join (v::vs) [32]=v++glue vs
 |v,[]=>by simp[Lib.join,List.intercalate,glue]
 |v,w::vs=>by
  have ih:=Bp w vs
  unfold Lib.join at ih⊢
  have e:[(32:UInt8)].intercalate (v::w::vs)=v++([32]++[(32:UInt8)].intercalate (w::vs)):=by simp[List.intercalate,List.intersperse]
  rw[e,ih,aQ]
  simp
theorem Ou {us ws:List Wd} (h:glue us=glue ws):(us=[]∧Lib.join ws [32]=[])∨∃u r,us=u::r∧Lib.join ws [32]=u++glue r:=by
 cases us with
 |nil=>
  cases ws with
  |nil=>exact .inl ⟨rfl,rfl⟩
  |cons w ws=>rw[aQ] at h;cases h
 |cons u us=>
  cases ws with
  |nil=>rw[aQ] at h;cases h
  |cons w ws=>
   rw[aQ,aQ] at h
   refine .inr ⟨u,us,rfl,?_⟩
   rw[Bp]
   simpa using h.symm
theorem G7 {x:List Nr} {K:Kd} {us:List Wd} (b:Km x K us) (hd:Dp [x] 1 none) {s:ByteArray} (hs:s.data.toList=Lib.join K.t [32]) (hl:s.size≤6000) {k a:Int} {x2:List Nr} (h:Pj.tX s k a x2):k=0∧er x2=er x:=by
 obtain⟨rs,hL,hrow⟩:∃rs:List cK,iE s=.inr ((rs++[(⟨0,s.size,⟨#[]⟩,0⟩:cK)]).map cK.cells)∧rowOf us rs:=by
  rcases Ou b.gl with⟨rfl,e⟩|⟨u,r,rfl,e⟩
  ·exact⟨[],SG (hs.trans e),rfl,fun j u hj=>by simp at hj⟩
  ·exact Qz b.ok (hs.trans e) hl
 unfold Pj.tX at h
 rw[hL] at h
 simp only at h
 rw[xZ] at h
 obtain⟨a1,a2,a3⟩:=XY (e:=(⟨0,s.size,⟨#[]⟩,0⟩:cK)) rfl hrow
 obtain⟨x',e1,h1⟩:=b.rd _ a1 a2 a3
 rcases h with⟨p,hw,-,-⟩|⟨r,hr,hr0,h⟩
 ·have:=(hw.ev h1).1
  exact absurd (show(0:Int)=4 from this) (by decide)
 ·obtain rfl:=Ev.one hr h1
  rcases h with⟨p,d,-,-⟩|⟨-,rfl,-,rfl⟩
  ·exact(SI e1.symm hd d).elim
  ·exact⟨rfl,e1⟩
theorem zV {s:ByteArray} {a:Int} {x:List Nr} (h:Pj.tX s 0 a x):∃K us,Km x K us∧Dp [x] 1 none∧x.length≤600101:=by
 unfold Pj.tX at h
 split at h
 ·rename_i p hl
  have:=LJ (k:=p.1) (i:=p.2) hl
  exact absurd h.1.symm (by omega)
 ·rename_i ts hl
  rcases h with⟨p,-,h,-⟩|⟨r,hr,hr0,h⟩
  ·exact absurd h (by decide)
  ·rcases h with⟨p,-,h,-⟩|⟨d,-,-,rfl⟩
   ·exact absurd h (by decide)
   ·obtain⟨n,hn⟩:=hr
    have h1:=hn n (Nat.le_refl _)
    have hg:=abI hl
    obtain⟨K,us,b⟩:=Q9 hg h1 hr0
    exact⟨K,us,b,d,TF hg h1 hr0⟩
theorem Na:∀{F:List (List Nr)} {Ks:List Kd},Zip (fun x K=>gl K.t+100≤200100*x.length) F Ks→SK Ks≤200100*F.flatten.length
 |[],[],_=>by simp[SK]
 |x::F,K::Ks,h=>by
  have:=Na h.2
  have h1:=h.1
  rw[wm,List.flatten_cons,List.length_append]
  omega
 |[],_::_,hz=>hz.elim
 |_::_,[],hz=>hz.elim
theorem KJ {S:Nat→Prop} {g:Prop} {w:World}:(h:Nat)→(cs:List Value)→isNode S g h w cs→∀(h':Nat) (K:Kd),oJ h' (flat h w cs) K→gl K.t+100≤200100*(flat h w cs).length
 |0,_,hn,_,_,_=>absurd hn (fun x=>x)
 |h+1,_,⟨kind,pos,n,m,name,kv,vs,h1,h2,h3,h3',h4,h5,h6,h7⟩,h',K,hp=>by
  subst h1
  have hfl:=qR (S:=S) (g:=g) (f:=h) (kind:=kind) (pos:=pos) (n:=n) (m:=m) (name:=name) h4 h6
  rw[hfl] at hp⊢
  cases h' with
  |zero=>exact hp.elim
  |succ h'=>
   obtain⟨k,p,n',m',s,F,Ks,e,rfl,hz,hg⟩:=hp
   have hF:∀z∈vs.map (flat h w),gX h z:=fun z hz=>by
    obtain⟨x,hx,rfl⟩:=List.mem_map.1 hz
    exact isNode.D5 h x (h6 x hx)
   obtain⟨⟨rfl,rfl,rfl,rfl,rfl⟩,rfl⟩:=D6 hF (wY hz) e
   have kids:∀(vs:List (List Value)) (Ks:List Kd),(∀x∈vs,isNode S g h w x)→Zip (oJ h') (vs.map (flat h w)) Ks→Zip (fun x K=>gl K.t+100≤200100*x.length) (vs.map (flat h w)) Ks:=by
    intro vs
    induction vs with
    |nil=>
     intro Ks _ hz
     cases Ks with
     |nil=>trivial
     |cons _ _=>exact hz.elim
    |cons x vs ih=>
     intro Ks hv hz
     cases Ks with
     |nil=>exact hz.elim
     |cons K Ks=>exact⟨KJ h x (hv x (List.mem_cons_self ..)) h' K hz.1,ih Ks (fun y hy=>hv y (List.mem_cons_of_mem _ hy)) hz.2⟩
   have hsk:=Na (kids vs Ks h6 hz)
   have hl:((vs.map (flat h w)).map bA).length=Ks.length:=by rw[List.length_map];exact hz.len
   have ha:=Ya (s:=name.data.toList) (by rw[kQ];exact h2) hl hg
   rw[yO]
   show gl (asm kind n m name.data.toList Ks)+100≤_
   omega
theorem acV (ts:List (List UInt8)):ts.length≤gl ts:=by
 induction ts with
 |nil=>exact Nat.zero_le _
 |cons t ts ih=>rw[nW,List.length_cons];omega
theorem TR (ts:List (List UInt8)):(Lib.join ts [32]).length≤gl ts:=by
 cases ts with
 |nil=>exact Nat.zero_le _
 |cons t ts=>
  rw[Bp,nW]
  unfold gl
  rw[List.length_append]
  omega
theorem KL {B:Nat} {w W:World} {kind pos n m:Int} {name:ByteArray} {ko:Option Addr} {kl kc:Nat} {x:List Nr} {K:Kd} (ht:Tab W.heap.size W) (hm:Mx W.heap.size W) (hb:Below w.heap.size w W) (hN:kJ B False w (ah kind pos n m name (.slice ko kl kc)).toList) (hF:Fl w [(ah kind pos n m name (.slice ko kl kc)).toList] [x]) (hp:Pt x K) (hl:x.length≤600101) (h0:bA x=0):Calls Tryz.prog 9 #[.agg (ah kind pos n m name (.slice ko kl kc))] W (fun e w'=>e=.returned (.string ⟨(Lib.join K.t [32]).toArray⟩)∧Below W.heap.size W w'):=by
 obtain⟨h,hn⟩:=hN
 obtain⟨hn2,hF2⟩:=wD hb hn hF
 have hx:x=flat h W (ah kind pos n m name (.slice ko kl kc)).toList:=Fl.Nn hF2 hn2.fl
 obtain⟨h',hp'⟩:=hp
 rw[hx] at hp'
 obtain⟨q1,q2,q3⟩:=MC h _ hn2 h' K hp'
 have q4:=KJ h _ hn2 h' K hp'
 rw[←hx] at q3 q4
 have q5:tok h W (ah kind pos n m name (.slice ko kl kc)).toList=K.t:=by rw[←q2];rfl
 have hNw:Nw W.heap.size W h (ah kind pos n m name (.slice ko kl kc)).toList:=isNode.weaken (fun b hb'=>by have:=hb.size;have:=hb'.2;omega) (fun x=>x) h _ q1
 have hgl:gl K.t≤1099511627776:=by omega
 have:=aaF ht hm hNw (by rw[q3,h0];unfold Go.Proofs.YtdplogkmkgekdaaGreatDoor.qF;omega) (by rw[q5];exact Nat.le_trans (acV _) hgl) (by rw[q5];exact Nat.le_trans (TR _) (Nat.le_trans hgl (by decide)))
 rw[q5] at this
 exact this
theorem vG {h0:Nat} {k p n m:Int} {s:ByteArray} {F:List (List Nr)} {K:Kd} (hF:∀z∈F,gX h0 z) (h:Pt (nd k p n m s F) K):∃Ks,Zip Pt F Ks∧K=⟨k,F.length,asm k n m s.data.toList Ks⟩:=by
 obtain⟨h1,hp⟩:=h
 cases h1 with
 |zero=>exact hp.elim
 |succ h1=>
  obtain⟨k',p',n',m',s',F',Ks,e,rfl,hz,-⟩:=hp
  obtain⟨⟨rfl,rfl,rfl,rfl,rfl⟩,rfl⟩:=D6 hF (wY hz) e
  exact⟨Ks,hz.mono (fun _ _ h=>⟨h1,h⟩),rfl⟩
theorem Bq {R:List Nr→Kd→Prop} {Ks:List Kd} (h:Zip R [] Ks):Ks=[]:=by
 cases Ks with
 |nil=>rfl
 |cons _ _=>exact h.elim
theorem DC {R:List Nr→Kd→Prop} {a:List Nr} {F:List (List Nr)} {Ks:List Kd} (h:Zip R (a::F) Ks):∃K yV,Ks=K::yV∧R a K∧Zip R F yV:=by
 cases Ks with
 |nil=>exact h.elim
 |cons K Ks=>exact⟨K,Ks,rfl,h.1,h.2⟩
theorem zX {h:Nat} {k p n m:Int} {s:ByteArray}:gX (h+1) (nd k p n m s []):=⟨k,p,n,m,s,[],rfl,fun _ h=>by cases h⟩
theorem Ov {h:Nat} {k p n m:Int} {s:ByteArray} {F:List (List Nr)} (hF:∀z∈F,gX h z):gX (h+1) (nd k p n m s F):=⟨k,p,n,m,s,F,rfl,hF⟩
theorem allT {h:Nat} {a:List Nr} {F:List (List Nr)} (ha:gX h a) (hF:∀z∈F,gX h z):∀z∈a::F,gX h z:=fun z hz=>by
 rcases List.mem_cons.1 hz with rfl|hz
 ·exact ha
 ·exact hF z hz
theorem um {h:Nat}:∀z∈([]:List (List Nr)),gX h z:=fun _ h=>by cases h
abbrev TS:List Nr:=nd 13 0 0 0 E0 []
abbrev FP:List Nr:=nd 12 0 0 0 ⟨#[120]⟩ [TS]
abbrev Ow:List Nr:=nd 9 0 0 0 E0 []
abbrev Ox:List Nr:=nd 15 0 0 0 E0 []
abbrev Oy:List Nr:=nd 42 0 0 0 E0 []
abbrev Wo:List Nr:=nd 8 0 1 0 ⟨#[102]⟩ [Ow,FP,Ox,Oy]
abbrev Oz:List Nr:=nd 1 0 0 0 ⟨#[109]⟩ [Wo]
abbrev TT:List Nr:=nd 0 0 0 0 E0 [Oz]
def KM:Wd:=[109,111,100,32,109,32,123,32,102,110,32,102,32,40,32,120,32,58,32,105,110,116,32,41,32,123,32,125,32,125]
theorem YJ:∃K us,Km TT K us:=by
 refine nPr (p:=0) (F:=[Oz]) fun x hx=>?_
 rw[List.mem_singleton.1 hx]
 refine nMo (p:=0) (s:=⟨#[109]⟩) (A:=[]) (F:=[Wo]) ⟨rfl,rfl⟩ (fun _ h=>by cases h) fun x hx=>?_
 rw[List.mem_singleton.1 hx]
 have hg:PG true Ow:=nG (p:=0) (A:=[]) (B:=[]) (fun _ h=>by cases h) (fun _ h=>by cases h) (by decide)
 have hpar:Dx FP:=Td (p:=0) (s:=⟨#[120]⟩) ⟨rfl,rfl⟩ (.inl rfl) (QB (p:=0))
 have afw:PT Ox:=JV (p:=0) (F:=[]) (fun _ h=>by cases h)
 have hblk:PB Oy:=nB (p:=0) (F:=[]) (fun _ h=>by cases h) (.inl rfl)
 exact VF (p:=0) (m:=0) (s:=⟨#[102]⟩) (g:=Ow) (ps:=[FP]) (y:=Ox) (z:=Oy) (.inl rfl) ⟨⟨rfl,rfl⟩,hg,(fun h=>by cases h),(fun x hx=>by rw[List.mem_singleton.1 hx];exact hpar),afw⟩ hblk
theorem YK {K:Kd} (h:Pt TT K):Lib.join K.t [32]=KM:=by
 have t13:gX 3 TS:=zX
 have t12:gX 4 FP:=Ov (allT t13 um)
 have t8:gX 5 Wo:=Ov (allT zX (allT t12 (allT zX (allT zX um))))
 have t1:gX 6 Oz:=Ov (allT t8 um)
 obtain⟨Ka,a1,rfl⟩:=vG (allT t1 um) h
 obtain⟨K1,R1,rfl,b1,b2⟩:=DC a1
 obtain rfl:=Bq b2
 obtain⟨Kb,c1,rfl⟩:=vG (allT t8 um) b1
 obtain⟨K8,R8,rfl,d1,d2⟩:=DC c1
 obtain rfl:=Bq d2
 obtain⟨Kc,e1,rfl⟩:=vG (h0:=4) (allT zX (allT t12 (allT zX (allT zX um)))) d1
 obtain⟨K9,R9,rfl,f9,f1⟩:=DC e1
 obtain⟨K12,R12,rfl,f12,f2⟩:=DC f1
 obtain⟨K15,R15,rfl,f15,f3⟩:=DC f2
 obtain⟨K42,R42,rfl,f42,f4⟩:=DC f3
 obtain rfl:=Bq f4
 obtain⟨Kd9,g9,rfl⟩:=vG (h0:=1) um f9
 obtain rfl:=Bq g9
 obtain⟨Kd15,g15,rfl⟩:=vG (h0:=1) um f15
 obtain rfl:=Bq g15
 obtain⟨Kd42,g42,rfl⟩:=vG (h0:=1) um f42
 obtain rfl:=Bq g42
 obtain⟨Kd12,g12,rfl⟩:=vG (allT t13 um) f12
 obtain⟨K13,R13,rfl,M9,h2⟩:=DC g12
 obtain rfl:=Bq h2
 obtain⟨Kd13,g13,rfl⟩:=vG (h0:=1) um M9
 obtain rfl:=Bq g13
 rfl
theorem acW:Dp [TT] 1 none:=by
 have l:∀{k p n m:Int} {s:ByteArray},Dp [nd k p n m s []] 4 none:=fun{k p n m s}=>Dp.node (by decide) Dp.nil
 have M9:Dp [TS] 5 none:=Dp.node (by decide) Dp.nil
 have h12:Dp [FP] 4 none:=Dp.node (by decide) M9
 have h4:Dp ([Ow]++([FP]++([Ox]++[Oy]))) 4 none:=Dp.app l (Dp.app h12 (Dp.app l l))
 have h8:Dp [Wo] 3 none:=Dp.node (by decide) h4
 have h1:Dp [Oz] 2 none:=Dp.node (by decide) h8
 exact Dp.node (by decide) h1
theorem TV {s:ByteArray} (hs:s.data.toList=KM) {k a:Int} {x:List Nr} (h:Pj.tX s k a x):k=0∧∃K,Pt x K∧Lib.join K.t [32]=KM∧x.length≤600101∧bA x=0:=by
 obtain⟨K,us,b⟩:=YJ
 have ht:=YK b.pt
 have hl:s.size≤6000:=by
  have:=congrArg List.length hs
  rw[kQ] at this
  rw[this]
  decide
 obtain⟨rfl,e⟩:=G7 b acW (hs.trans ht.symm) hl h
 obtain⟨K2,us2,b2,-,hx⟩:=zV h
 have:K2=K:=b2.pt.one b.pt e
 subst this
 exact⟨rfl,K2,b2.pt,ht,hx,b2.lb⟩
open Go.RowKit Pj
abbrev TW:ByteArray:=⟨#[109,111,100,32,109,32,123,32,102,110,32,102,32,40,32,120,32,58,32,105,110,116,32,41,32,123,32,125,32,125]⟩
structure TG (w:World):Prop where
 pg:Pj.PG w
 tab:Tab w.heap.size w
 mx:Mx w.heap.size w
theorem TG.below {w w':World} {B:Nat} (h:TG w) (hb:Below B w w') (hB:6≤B) (hs:w.heap.size≤B):TG w':=
 ⟨h.pg.below hb hB,fun W hW=>h.tab W ((hb.mono hs).trans (hW.mono hb.size)),by
  obtain⟨m,hm⟩:=h.mx
  exact⟨m,fun W hW=>hm W ((hb.mono hs).trans (hW.mono hb.size))⟩⟩
theorem aeF (s:ByteArray) (w:World) (hm:s.size≤maxLen) (hG:TG w):Calls Tryz.prog 4 #[.string s] w (fun e w'=>e=.returned (.bool true)∧Below w.heap.size w w'):=by
 have HM:=@aG _ @hm
 have HG:=@aG _ @hG
 clear hm hG
 go_enter Tryz.func4,Tryz.ntmps4
 go_wp2_with fail
 refine(JC TW _ (by decide) HG.out.pg).mono ?_
 rintro e w1 ⟨kind,pos,n,m,name,ko,kl,kc,k,a,x,rfl,hb1,hN1,hW1⟩
 obtain⟨rfl,K,hp,hj,hl,h0⟩:=TV (s:=TW) rfl hW1
 obtain⟨hn1,hf1⟩:=hN1 rfl
 have HN1:Hid (kJ w.heap.size False w1 (ah kind pos n m name (.slice ko kl kc)).toList∧Fl w1 [(ah kind pos n m name (.slice ko kl kc)).toList] [x]):=⟨hn1,hf1⟩
 have HB1:=@aG _ @hb1
 have HK:Hid (Pt x K∧Lib.join K.t [32]=KM∧x.length≤600101∧bA x=0):=⟨hp,hj,hl,h0⟩
 clear hW1 hN1 hb1 hn1 hf1 hp hj hl h0
 obtain⟨z1,y1,hb2,hs2⟩:=abF w1 (ah kind pos n m name (.slice ko kl kc)) #[.int .i64 0,.int .i64 a]
 obtain⟨W2,hW2⟩:∃W2,W2=(w1.alloc (.cells (ah kind pos n m name (.slice ko kl kc)) 28)).alloc (.cells #[.int .i64 0,.int .i64 a] 31):=⟨_,rfl⟩
 rw[←hW2] at z1 y1 hb2 hs2
 have HW2:=@aG _ @hW2
 obtain⟨b1,hb1⟩:∃b1,b1=w1.heap.size:=⟨_,rfl⟩
 rw[←hb1] at z1 y1 hs2
 have jL:Hid (b1=w1.heap.size∧Below w1.heap.size w1 W2∧W2.heap.size=b1+2):=⟨hb1,hb2,hs2⟩
 clear hW2 hs2 hb2
 go_wp2_with fail
 rw[←hb1]
 have hE:=HW2.out
 rw[show ah kind pos n m name (.slice ko kl kc)=#[.int .i64 kind,.int .i64 pos,.int .i64 n,.int .i64 m,.string name,.slice ko kl kc,.int .i64 0,.int .i64 0,.slice none 0 0,.slice none 0 0,.slice none 0 0] from rfl] at hE
 rw[←hE]
 clear hE hb1
 have HW:Hid (Below w.heap.size w W2∧w.heap.size≤b1∧6≤w.heap.size):=⟨HB1.out.trans (jL.out.2.1.mono HB1.out.size),by have:=HB1.out.size;have:=jL.out.1;omega,HG.out.pg.base.room⟩
 have HG2:Hid (TG W2):=HG.out.below HW.out.1 HW.out.2.2 (Nat.le_refl _)
 have hP1:=KL HG2.out.tab HG2.out.mx jL.out.2.1 HN1.out.1 HN1.out.2 HK.out.1 HK.out.2.2.1 HK.out.2.2.2
 rw[HK.out.2.1] at hP1
 refine hP1.mono ?_
 rintro e w3 ⟨rfl,hb3⟩
 clear hP1
 have z3:bW w3 b1 (ah kind pos n m name (.slice ko kl kc)):=z1.below hb3
 have y3:w3.heap[b1+1]? =some (.cells #[.int .i64 0,.int .i64 a] 31 (0,0)):=(hb3.block _ (by have:=jL.out.2.2;omega)).trans y1
 have HB3:Hid (Below w.heap.size w w3∧b1+2≤w3.heap.size):=⟨HW.out.1.trans (hb3.mono HW.out.1.size),by have:=jL.out.2.2;have:=hb3.size;omega⟩
 have HG3:Hid (TG w3):=HG.out.below HB3.out.1 HW.out.2.2 (Nat.le_refl _)
 have HZ3:Hid (bW w3 b1 (ah kind pos n m name (.slice ko kl kc))∧w3.heap[b1+1]? =some (.cells #[.int .i64 0,.int .i64 a] 31 (0,0))):=⟨z3,y3⟩
 have hone:(⟨KM.toArray⟩:ByteArray)=TW:=rfl
 rw[hone]
 clear hone hb3 z1 y1 HW2 HN1 HK jL HB1 z3 y3 HG2
 go_upto_region 5 with fail
 go_upto_region 6 with(go_at_call 5;refine(JC s _ HM.out HG3.out.pg).mono ?_;rintro e w4 ⟨dJ,pos2,n2,m2,name2,iC,iK,iD,k2,a2,x2,rfl,hb4,hN4,hW4⟩;have HN4:=@aG _ @hN4;have HW4:=@aG _ @hW4;have O9:=@aG _ @hb4;have z4:bW w4 b1 (ah kind pos n m name (.slice ko kl kc)):=HZ3.out.1.below hb4;have y4:w4.heap[b1+1]? =some (.cells #[.int .i64 0,.int .i64 a] 31 (0,0)):=(hb4.block _ (by have:=HB3.out.2;omega)).trans HZ3.out.2;have HZ4:Hid (bW w4 b1 (ah kind pos n m name (.slice ko kl kc))∧w4.heap[b1+1]? =some (.cells #[.int .i64 0,.int .i64 a] 31 (0,0))):=⟨z4,y4⟩;have c4:=z4.cell;have f4:=z4.fz;have l4:=z4.lt;have c4b:∀o,w4.cell? ⟨b1+1,o,none⟩=(#[.int .i64 0,.int .i64 a]:Array Value)[o]? :=fun o=>cell_of_row _ _ o _ 31 (0,0) y4;have f4b:∀o,w4.frozen? ⟨b1+1,o,none⟩=false:=fun o=>frozen_of_row _ _ o _ 31 y4;have l4b:b1+1<w4.heap.size:=(by have:=HB3.out.2;have:=hb4.size;omega);clear hN4 hW4 hb4 z4 y4)
 obtain⟨g1,g2,g3,g4⟩:=Fe HZ4.out.1 HZ4.out.2 (.int .i64 dJ) (.int .i64 pos2) (.int .i64 n2) (.int .i64 m2) (.string name2) (.slice iC iK iD) (.int .i64 0) (.int .i64 0) (.slice none 0 0) (.slice none 0 0) (.slice none 0 0) (.int .i64 k2) (.int .i64 a2) (Below.refl b1 w4)
 obtain⟨W5,JA⟩:∃W5,W5=((bC w4 b1 (.int .i64 dJ) (.int .i64 pos2) (.int .i64 n2) (.int .i64 m2) (.string name2) (.slice iC iK iD) (.int .i64 0) (.int .i64 0) (.slice none 0 0) (.slice none 0 0) (.slice none 0 0)).setCell ⟨b1+1,0,none⟩ (.int .i64 k2)).setCell ⟨b1+1,1,none⟩ (.int .i64 a2):=⟨_,rfl⟩
 rw[←JA] at g1 g2 g3 g4
 have HE:=JA
 unfold bC at HE
 rw[←HE]
 have Bt:Hid (Below w.heap.size w W5∧b1+2≤W5.heap.size∧w.heap.size≤b1∧6≤w.heap.size):=⟨HB3.out.1.trans ((O9.out.mono HB3.out.1.size).trans (g3.mono HW.out.2.1)),by have:=HB3.out.2;have:=O9.out.size;have:=g3.size;omega,HW.out.2.1,HW.out.2.2⟩
 have xG:Hid (TG W5):=HG.out.below Bt.out.1 Bt.out.2.2.2 (Nat.le_refl _)
 have HN5:Hid (k2=0→kJ w3.heap.size False W5 (ah dJ pos2 n2 m2 name2 (.slice iC iK iD)).toList∧Fl W5 [(ah dJ pos2 n2 m2 name2 (.slice iC iK iD)).toList] [x2]):=fun hk=>by
  obtain⟨⟨h,hn⟩,hf⟩:=HN4.out hk
  obtain⟨q1,q2⟩:=sV hn hf (g4.mono (fun b hb=>Nat.le_trans HB3.out.2 hb))
  exact⟨⟨h,q1⟩,q2⟩
 have Nb:Hid (bW W5 b1 (ah dJ pos2 n2 m2 name2 (.slice iC iK iD))∧W5.heap[b1+1]? =some (.cells #[.int .i64 k2,.int .i64 a2] 31 (0,0))∧b1+2≤w3.heap.size):=⟨g1,g2,HB3.out.2⟩
 have c5b:∀o,W5.cell? ⟨b1+1,o,none⟩=(#[.int .i64 k2,.int .i64 a2]:Array Value)[o]? :=fun o=>cell_of_row _ _ o _ 31 (0,0) g2
 clear HE JA g1 g2 g3 g4 HN4 O9 HZ4 c4 f4 l4 c4b f4b l4b HZ3 HG3 HB3 HW
 by_cases hk:k2=0
 rotate_left
 ·have hk':((k2:Int)==0)=false:=by simpa using hk
  go_wp2_with fail
  go_ret
  exact⟨rfl,Bt.out.1⟩
 subst hk
 obtain⟨K,us,hbp,hd,hxl⟩:=zV HW4.out
 obtain⟨JB,hf5⟩:=HN5.out rfl
 have HP5:Hid (Calls Tryz.prog 9 #[.agg (ah dJ pos2 n2 m2 name2 (.slice iC iK iD))] W5 (fun e w'=>e=.returned (.string ⟨(Lib.join K.t [32]).toArray⟩)∧Below W5.heap.size W5 w')):=KL xG.out.tab xG.out.mx (Below.refl _ _) JB hf5 hbp.pt hxl hbp.lb
 have Wp:Hid (Km x2 K us∧Dp [x2] 1 none∧x2.length≤600101):=⟨hbp,hd,hxl⟩
 have HF5:Hid (kJ w3.heap.size False W5 (ah dJ pos2 n2 m2 name2 (.slice iC iK iD)).toList∧Fl W5 [(ah dJ pos2 n2 m2 name2 (.slice iC iK iD)).toList] [x2]):=⟨JB,hf5⟩
 have c5:=Nb.out.1.cell
 have l5:=Nb.out.1.lt
 clear hbp hd hxl JB hf5 HN5 HW4
 obtain⟨S3,hS3⟩:∃S3:ByteArray,S3=⟨(Lib.join K.t [32]).toArray⟩:=⟨_,rfl⟩
 rw[←hS3] at HP5
 have HS3:=@aG _ @hS3
 clear hS3
 go_upto_region 9 with(go_at_call 9;refine HP5.out.mono ?_;rintro e w6 ⟨rfl,hb6⟩;have yE:=@aG _ @hb6;clear hb6)
 have z6:bW w6 b1 (ah dJ pos2 n2 m2 name2 (.slice iC iK iD)):=Nb.out.1.below yE.out
 have y6:w6.heap[b1+1]? =some (.cells #[.int .i64 0,.int .i64 a2] 31 (0,0)):=(yE.out.block _ (by have:=Bt.out.2.1;omega)).trans Nb.out.2.1
 have AX:Hid (kJ w3.heap.size False w6 (ah dJ pos2 n2 m2 name2 (.slice iC iK iD)).toList∧Fl w6 [(ah dJ pos2 n2 m2 name2 (.slice iC iK iD)).toList] [x2]):=by
  obtain⟨⟨h,hn⟩,hf⟩:=HF5.out
  obtain⟨q1,q2⟩:=sV hn hf (Same.below yE.out)
  exact⟨⟨h,q1⟩,q2⟩
 have Ws:Hid (bW w6 b1 (ah dJ pos2 n2 m2 name2 (.slice iC iK iD))∧w6.heap[b1+1]? =some (.cells #[.int .i64 0,.int .i64 a2] 31 (0,0))∧b1+2≤w3.heap.size):=⟨z6,y6,Nb.out.2.2⟩
 have CK:Hid (Below w.heap.size w w6∧b1+2≤w6.heap.size∧w.heap.size≤b1∧6≤w.heap.size):=⟨Bt.out.1.trans (yE.out.mono Bt.out.1.size),by have:=Bt.out.2.1;have:=yE.out.size;omega,Bt.out.2.2⟩
 have HG6:Hid (TG w6):=xG.out.below yE.out (by have:=Bt.out.2.1;have:=Bt.out.2.2;omega) (Nat.le_refl _)
 clear z6 y6 c5 l5 c5b HF5 Nb yE Bt HP5 xG
 by_cases hlen:6000<S3.size
 ·have hlI:(6000:Int)<(S3.size:Int):=by omega
  go_wp2_with fail
  go_ret
  exact⟨rfl,CK.out.1⟩
 have hlI:¬(6000:Int)<(S3.size:Int):=by omega
 have HLE:Hid (S3.size≤6000):=by show S3.size≤6000;omega
 go_upto_region 11 with fail
 clear hlI hlen
 go_upto_region 12 with(go_at_call 5;refine(JC S3 _ (by have:=HLE.out;unfold maxLen;omega) HG6.out.pg).mono ?_;rintro e w7 ⟨rQ,vM,n3,m3,rR,Ad,Ae,Af,k3,a3,x3,rfl,Wt,hN7,hW7⟩;obtain⟨rfl,he3⟩:=G7 Wp.out.1 Wp.out.2.1 (by rw[HS3.out]) HLE.out hW7;have HN7:Hid (kJ w6.heap.size False w7 (ah rQ vM n3 m3 rR (.slice Ad Ae Af)).toList∧Fl w7 [(ah rQ vM n3 m3 rR (.slice Ad Ae Af)).toList] [x3]):=hN7 rfl;have HW7:=@aG _ @hW7;have HE3:=@aG _ @he3;have Rj:=@aG _ @Wt;have y7:w7.heap[b1+1]? =some (.cells #[.int .i64 0,.int .i64 a2] 31 (0,0)):=(Wt.block _ (by have:=CK.out.2.1;omega)).trans Ws.out.2.1;have HY7:=@aG _ @y7;have c7b:∀o,w7.cell? ⟨b1+1,o,none⟩=(#[.int .i64 0,.int .i64 a2]:Array Value)[o]? :=fun o=>cell_of_row _ _ o _ 31 (0,0) y7;have f7b:∀o,w7.frozen? ⟨b1+1,o,none⟩=false:=fun o=>frozen_of_row _ _ o _ 31 y7;have l7b:b1+1<w7.heap.size:=(by have:=CK.out.2.1;have:=Wt.size;omega);clear hN7 hW7 he3 Wt y7)
 obtain⟨W8,KN⟩:∃W8,W8=((w7.setCell ⟨b1+1,0,none⟩ (.int .i64 0)).setCell ⟨b1+1,1,none⟩ (.int .i64 a3)).alloc (.cells #[.int .i64 rQ,.int .i64 vM,.int .i64 n3,.int .i64 m3,.string rR,.slice Ad Ae Af,.int .i64 0,.int .i64 0,.slice none 0 0,.slice none 0 0,.slice none 0 0] 28):=⟨_,rfl⟩
 rw[←KN]
 have h71:(w7.setCell ⟨b1+1,0,none⟩ (.int .i64 0)).heap[b1+1]? =some (.cells #[.int .i64 0,.int .i64 a2] 31 (0,0)):=by
  rw[heap_setCell_same _ (b1+1) 0 _ 31 _ HY7.out];rfl
 have h72:((w7.setCell ⟨b1+1,0,none⟩ (.int .i64 0)).setCell ⟨b1+1,1,none⟩ (.int .i64 a3)).heap[b1+1]? =some (.cells #[.int .i64 0,.int .i64 a3] 31 (0,0)):=by
  rw[heap_setCell_same _ (b1+1) 1 _ 31 _ h71];rfl
 have hsz:((w7.setCell ⟨b1+1,0,none⟩ (.int .i64 0)).setCell ⟨b1+1,1,none⟩ (.int .i64 a3)).heap.size=w7.heap.size:=by simp
 have hoth:∀j,j<w7.heap.size→j≠b1+1→W8.heap[j]? =w7.heap[j]? :=fun j hj hne=>by
  rw[KN,Below.heap_alloc _ _ _ (by rw[hsz];exact hj)]
  exact(Below.heap_setCell _ ⟨b1+1,1,none⟩ _ _ hne).trans (Below.heap_setCell _ ⟨b1+1,0,none⟩ _ _ hne)
 have hy8:W8.heap[b1+1]? =some (.cells #[.int .i64 0,.int .i64 a3] 31 (0,0)):=by
  rw[KN,Below.heap_alloc _ _ _ (by rw[hsz];exact l7b)]
  exact h72
 have hm8:W8.heap[w7.heap.size]? =some (.cells (ah rQ vM n3 m3 rR (.slice Ad Ae Af)) 28 (0,0)):=by
  have:=heap_alloc_new ((w7.setCell ⟨b1+1,0,none⟩ (.int .i64 0)).setCell ⟨b1+1,1,none⟩ (.int .i64 a3)) (.cells (ah rQ vM n3 m3 rR (.slice Ad Ae Af)) 28)
  rw[hsz] at this
  rw[KN]
  exact this
 have uo:Below (b1+1) w7 W8:=by
  rw[KN]
  exact(((Below.refl _ _).setCell (p:=⟨b1+1,0,none⟩) (Nat.le_refl _) _).setCell (p:=⟨b1+1,1,none⟩) (Nat.le_refl _) _).alloc (by show b1+1≤_;rw[hsz];omega) _
 have hs8:W8.heap.size=w7.heap.size+1:=by rw[KN,World.size_alloc,hsz]
 have h67:=Rj.out.size
 have Wu:Hid (Below w.heap.size w W8):=CK.out.1.trans ((Rj.out.mono CK.out.1.size).trans (uo.mono (by have:=CK.out.2.2.1;omega)))
 have z8:bW W8 b1 (ah dJ pos2 n2 m2 name2 (.slice iC iK iD)):=(hoth b1 (by omega) (by omega)).trans (Ws.out.1.below Rj.out)
 have HG8:Hid (TG W8):=HG.out.below Wu.out CK.out.2.2.2 (Nat.le_refl _)
 have hsame:Same (fun b=>b1+2≤b) w7 W8:=fun j hj hl=>hoth j hl (by have:b1+2≤j:=hj;omega)
 have HN2:Hid (kJ w3.heap.size False W8 (ah dJ pos2 n2 m2 name2 (.slice iC iK iD)).toList∧Fl W8 [(ah dJ pos2 n2 m2 name2 (.slice iC iK iD)).toList] [x2]):=by
  obtain⟨⟨h,hn⟩,hf⟩:=AX.out
  obtain⟨q1,q2⟩:=sV hn hf (Same.below Rj.out)
  obtain⟨q3,q4⟩:=sV q1 q2 (hsame.mono (fun b hb=>Nat.le_trans Ws.out.2.2 hb))
  exact⟨⟨h,q3⟩,q4⟩
 have Wv:Hid (kJ w6.heap.size False W8 (ah rQ vM n3 m3 rR (.slice Ad Ae Af)).toList∧Fl W8 [(ah rQ vM n3 m3 rR (.slice Ad Ae Af)).toList] [x3]):=by
  obtain⟨⟨h,hn⟩,hf⟩:=HN7.out
  obtain⟨q3,q4⟩:=sV hn hf (hsame.mono (fun b hb=>Nat.le_trans CK.out.2.1 hb))
  exact⟨⟨h,q3⟩,q4⟩
 have HAL:Hid (∀W,Below W8.heap.size W8 W→Calls Tryz.prog 10 #[.agg (ah dJ pos2 n2 m2 name2 (.slice iC iK iD)),.agg (ah rQ vM n3 m3 rR (.slice Ad Ae Af))] W (fun e w'=>e=.returned (.bool true)∧Below W.heap.size W w')):=fun W hW=>by
  obtain⟨⟨h2,i2⟩,f2⟩:=HN2.out
  obtain⟨⟨h3,i3⟩,f3⟩:=Wv.out
  obtain⟨i2',f2'⟩:=wD hW i2 f2
  obtain⟨i3',f3'⟩:=wD hW i3 f3
  exact QA h2 h3 (Dq HE3.out).symm i2' i3' f2' f3'
 have HPR:Hid (∀W,Below W8.heap.size W8 W→Calls Tryz.prog 9 #[.agg (ah rQ vM n3 m3 rR (.slice Ad Ae Af))] W (fun e w'=>e=.returned (.string S3)∧Below W.heap.size W w')):=fun W hW=>by
  obtain⟨K3,us3,b3,-,hx3⟩:=zV HW7.out
  have:K3=K:=b3.pt.one Wp.out.1.pt HE3.out
  subst this
  have HGW:=HG8.out.below hW (by have:=Wu.out.size;have:=CK.out.2.2.2;omega) (Nat.le_refl _)
  have:=KL HGW.tab HGW.mx hW Wv.out.1 Wv.out.2 b3.pt hx3 b3.lb
  rw[←HS3.out] at this
  exact this
 have c8:=z8.cell
 have l8:=z8.lt
 have c8b:∀o,W8.cell? ⟨b1+1,o,none⟩=(#[.int .i64 0,.int .i64 a3]:Array Value)[o]? :=fun o=>cell_of_row _ _ o _ 31 (0,0) hy8
 have l8b:b1+1<W8.heap.size:=by omega
 have c8m:∀o,W8.cell? ⟨w7.heap.size,o,none⟩=(ah rQ vM n3 m3 rR (.slice Ad Ae Af))[o]? :=fun o=>cell_of_row _ _ o _ 28 (0,0) hm8
 have l8m:w7.heap.size<W8.heap.size:=by omega
 have HM8:Hid (W8.heap[w7.heap.size]? =some (.cells (ah rQ vM n3 m3 rR (.slice Ad Ae Af)) 28 (0,0))∧w7.heap.size<W8.heap.size):=⟨hm8,l8m⟩
 clear KN h71 h72 hsz hoth hy8 hm8 uo hs8 h67 z8 hsame HN2 Wv HY7 c7b f7b l7b HN7 AX HW7 HE3 Rj Ws CK HG6 HG8 HG Wp HLE HS3
 go_wp2_with (first
  |(go_at_call 9;refine(HPR.out _ HB9.out).mono ?_;rintro e I7 ⟨rfl,acX⟩;have afx:Hid _:=acX;clear acX)
  |(go_at_call 10;refine(HAL.out _ (Below.refl _ _)).mono ?_;rintro e w9 ⟨rfl,Mk⟩;have HB9:=@aG _ @Mk;have c9m:∀o,w9.cell? ⟨w7.heap.size,o,none⟩=(ah rQ vM n3 m3 rR (.slice Ad Ae Af))[o]? :=(fun o=>cell_of_row _ _ o _ 28 (0,0) ((Mk.block _ HM8.out.2).trans HM8.out.1));have l9m:w7.heap.size<w9.heap.size:=Nat.lt_of_lt_of_le HM8.out.2 Mk.size;clear Mk))
 go_ret
 exact⟨rfl,Wu.out.trans ((HB9.out.trans (afx.out.mono HB9.out.size)).mono Wu.out.size)⟩
end Go.Proofs.YtdplogkmkgekdaaGreatDoor.Bk
