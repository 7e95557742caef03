/- The project's writer: references, types of functions. -/
import Derived.Test.YtdplogkmkgekdaaGreatDoorHdb
import Derived.Test.YtdplogkmkgekdaaGreatDoorPpa
import Derived.Test.YtdplogkmkgekdaaGreatDoorTypes
set_option linter.all false
set_option maxRecDepth 100000
set_option maxHeartbeats 4000000
namespace Go.Proofs.YtdplogkmkgekdaaGreatDoor
open Go.RowKit
def Mx (B:Nat) (w0:World):Prop:=∃m:Int,∀W,Below B w0 W→W.cell? ⟨2,0,none⟩=some (.int .i64 m)
def Wq (B:Nat) (w0:World) (wb f:Nat) (c:Array Value) (X:List (List UInt8)):Prop:=∀{w1:World} {cs:List (List UInt8)},Pw B w0 w1 wb cs→(cs++X).length≤1099511627776→Calls Tryz.prog f #[.pointer (some ⟨wb,0,none⟩),.agg c] w1 (PP B w0 w1 wb cs X)
section
variable {B:Nat} {w0 w:World} {wb f:Nat} {aT:List (List UInt8)} {kind pos n m:Int} {name:ByteArray} {ko:Option Addr} {kl kc:Nat}
theorem u6 (hm:Mx B w0) (hs:name.size≤20000) (h:Pw B w0 w wb aT) (hf:(aT++[jQ (tl name)]).length≤1099511627776):Calls Tryz.prog 107 #[.pointer (some ⟨wb,0,none⟩),.string name] w (PP B w0 w wb aT [jQ (tl name)]):=by
 have q:=Sp.start h hf
 obtain⟨mm,hm⟩:=hm
 obtain⟨S,hS⟩:∃S:ByteArray,S=⟨(jQ (tl name)).toArray⟩:=⟨_,rfl⟩
 have R:Hid (∀{W:World},Below B w0 W→Calls Tryz.prog 177 #[.string name,.string ⟨#[58,58]⟩,.string ⟨#[32,58,58,32]⟩] W (fun e w'=>e=.returned (.string S)∧Below W.heap.size W w')):=fun{W} hb=>by
  rw[hS]
  refine Tryz.strings_ReplaceAll name _ _ mm W (by omega) (hm W hb) (by decide) ?_
  have h1:Lib.countB name ⟨#[58,58]⟩≤name.data.toList.length+1:=Lib.count_le _ _
  rw[FY] at h1
  have h2:(⟨#[32,58,58,32]⟩:ByteArray).size=4:=rfl
  rw[h2]
  omega
 have HE:Hid (tl S=jQ (tl name)):=by show _=_;rw[hS];simp[tl]
 clear h hf hm hS hs
 go_enter Tryz.func107,Tryz.ntmps107
 go_wp2_with (first
  |(go_at_call 106;refine q.put (s:=S) ?_ (by first|rfl|simp) rfl HE.out;clear q;intro w2 q)
  |(go_at_call 177;refine(R.out q.wr.uZ).mono ?_;rintro e w1 ⟨rfl,hb1⟩;replace q:=q.below hb1;clear hb1))
 go_end0
 exact q.done rfl
theorem C8 (n:Int) (h:Pw B w0 w wb aT) (hf:(aT++pFn n).length≤1099511627776):Calls Tryz.prog 118 #[.pointer (some ⟨wb,0,none⟩),.int .i64 n] w (PP B w0 w wb aT (pFn n)):=by
 have q:=(Sp.start h hf).as (rest':=aC (n==1) [[109,117,116]]++(aC (n==2) [[111,110,99,101]]++[])) (by simp[pFn])
 clear h hf
 go_enter Tryz.func118,Tryz.ntmps118
 go_wp2_with (first
  |(go_at_call 115;refine q.when (ss:=[⟨#[111,110,99,101]⟩]) ?_;clear q;intro w2 q)
  |(go_at_call 115;refine q.when (ss:=[⟨#[109,117,116]⟩]) ?_;clear q;intro w1 q))
 go_end0
 exact q.done (by simp[pFn])
theorem F4 (n:Int) (hn:n=0∨n=1) (h:Pw B w0 w wb aT) (hf:(aT++vS n).length≤1099511627776):Calls Tryz.prog 120 #[.pointer (some ⟨wb,0,none⟩),.int .i64 n] w (PP B w0 w wb aT (vS n)):=by
 have q:=(Sp.start h hf).as (rest':=aC (n==1) [[116,114,117,101]]++(aC (n==0) [[102,97,108,115,101]]++[])) (by rcases hn with rfl|rfl<;>rfl)
 clear h hf
 go_enter Tryz.func120,Tryz.ntmps120
 go_wp2_with (first
  |(go_at_call 115;refine q.when (ss:=[⟨#[102,97,108,115,101]⟩]) ?_;clear q;intro w2 q)
  |(go_at_call 115;refine q.when (ss:=[⟨#[116,114,117,101]⟩]) ?_;clear q;intro w1 q))
 go_end0
 exact q.done (by rcases hn with rfl|rfl<;>rfl)
theorem vK (hR:RP B w0 wb f) {a:Option Addr} {c l:Nat} {ks:List (List Value)} (r:NK B w0 f a ks) (hl:ks.length=l) (h:Pw B w0 w wb aT) (hf:(aT++qm (ks.map (aB f w0))).length≤1099511627776):Calls Tryz.prog 121 #[.pointer (some ⟨wb,0,none⟩),.slice a l c] w (PP B w0 w wb aT (qm (ks.map (aB f w0)))):=by
 have e:qm (ks.map (aB f w0))=aC (decide (0<l)) [[58,58]]++(oP (ks.map (aB f w0))++[]):=by
  unfold qm
  rw[List.length_map,hl,List.append_nil]
  congr 2
  cases l with
  |zero=>rfl
  |succ l=>simp
 rw[e] at hf⊢
 have q:=Sp.start h hf
 have H:Hid (NK B w0 f a ks∧ks.length=l):=⟨r,hl⟩
 clear r h hf hl e
 go_enter Tryz.func121,Tryz.ntmps121
 go_wp2_with (first
  |(go_at_call 114;refine q.go (fun a1 a2=>CZ hR H.out.1 H.out.2 a1 a2) ?_;clear q;intro w2 q)
  |(go_at_call 115;refine q.when (ss:=[⟨#[58,58]⟩]) ?_;clear q;intro w1 q))
 go_end0
 exact q.done (by simp)
theorem K7 (s:ByteArray) {g c:Nat} {T:List (List UInt8)} (hW:Wq B w0 wb 25 (ah kind pos n m name (.slice ko kl kc)) T) (hg:w.heap[g]? =some (.cells (ah kind pos n m name (.slice ko kl kc)) 28 (0,0))) (hgb:g≠wb) (h:Pw B w0 w wb aT) (hf:(aT++T).length≤1099511627776):Calls Tryz.prog 116 #[.pointer (some ⟨wb,0,none⟩),.string s,.slice (some ⟨g,0,none⟩) 1 c] w (PP B w0 w wb aT T):=by
 have H:Hid (Wq B w0 wb 25 (ah kind pos n m name (.slice ko kl kc)) T∧w.heap[g]? =some (.cells (ah kind pos n m name (.slice ko kl kc)) 28 (0,0))∧g≠wb):=⟨hW,hg,hgb⟩
 have Q0:Hid (Sp B w0 w wb aT [] (T++[]) w []):=(Sp.start h hf).as (by simp)
 clear hW h hf hg hgb
 go_enter Tryz.func116,Tryz.ntmps116
 go_wp2_with fail
 go_loopg [10] 1 (fun gg u wr=>∃(idx:Nat),gg=1 - idx∧u=.int .i64 idx∧idx≤1∧Hid (Sp B w0 w wb aT (if idx=0 then [] else T) ((if idx=0 then T else [])++[]) wr []))
 case atStart=>exact⟨0,rfl,rfl,Nat.zero_le _,Q0.out⟩
 case round=>
  obtain⟨idx,eD,rfl,hidx,Q⟩:=hrel
  have HG:=@aG _ @eD
  clear eD
  rcases Nat.eq_zero_or_pos idx with h0|h0
  ·subst h0
   have hB:=Q.out.fr.cells H.out.2.1 (by decide) H.out.2.2
   have lg:g<wr.heap.size:=(Array.getElem?_eq_some_iff.1 hB).1
   have G0:∀o,wr.cell? ⟨g,o,none⟩=(ah kind pos n m name (.slice ko kl kc))[o]? :=fun o=>cell_of_row wr g o _ 28 (0,0) hB
   clear hB
   have q:=(Q.out.as (rest':=aC false [tl s]++(T++[])) (by simp[aC])).box (ah kind pos n m name (.slice ko kl kc))
   have F:=q.f1
   go_wp2_with (first|(go_at_call 25;refine q.go (fun a1 a2=>H.out.1 a1 a2) ?_;clear q F;intro w2 q;have F:=q.f1)|(go_at_call 115;refine q.when (ss:=[s]) ?_;clear q F;intro w1 q;have F:=q.f1))
   go_roundg (1 - (0+1))
   case measure=>rw[HG.out];omega
   case rel=>exact⟨0+1,rfl,by go_num,Nat.le_refl _,(by show Sp _ _ _ _ _ _ _ _ _;simpa[aC] using q.pop)⟩
  ·obtain rfl:idx=1:=by omega
   go_wp2_with fail
   go_end0
   exact Q.out.done (by simp)
theorem WH {T:List (List UInt8)} (hW:Wq B w0 wb 25 (ah kind pos n m name (.slice ko kl kc)) T) (s z:ByteArray) {g c:Nat} (hg:w.heap[g]? =some (.cells (ah kind pos n m name (.slice ko kl kc)) 28 (0,0))) (hgb:g≠wb) (h:Pw B w0 w wb aT) (hf:(aT++(tl s::(T++[tl z]))).length≤1099511627776):Calls Tryz.prog 117 #[.pointer (some ⟨wb,0,none⟩),.string s,.string z,.slice (some ⟨g,0,none⟩) 1 c] w (PP B w0 w wb aT (tl s::(T++[tl z]))):=by
 have q:Sp B w0 w wb aT [] (tl s::(T++[tl z])) w [(g,(ah kind pos n m name (.slice ko kl kc)))]:=by
  have:=Sp.start h hf
  exact⟨this.wr,this.fr,this.few,fun p hp=>by obtain rfl:=List.mem_singleton.1 hp;exact⟨hg,hgb⟩⟩
 have H:Hid (Wq B w0 wb 25 (ah kind pos n m name (.slice ko kl kc)) T∧g≠wb):=⟨hW,hgb⟩
 clear hW h hf hg hgb
 go_enter Tryz.func117,Tryz.ntmps117
 go_wp2_with (first
  |(go_at_call 106;refine q.put (s:=z) ?_;clear q;intro w3 q)
  |(go_at_call 116;refine q.go (fun a1 a2=>K7 ⟨#[44]⟩ (fun b1 b2=>H.out.1 b1 b2) (q.own _ (List.mem_cons_self ..)).1 H.out.2 a1 a2) ?_;clear q;intro w2 q)
  |(go_at_call 106;refine q.put (s:=s) ?_;clear q;intro w1 q))
 go_end0
 exact q.done (by simp)
theorem Sp.aeM {wi:World} {ts rest T:List (List UInt8)} {L:List (Nat × Array Value)} {Q:Ending→World→Prop} {s z:ByteArray} (q:Sp B w0 w wb aT ts ((tl s::(T++[tl z]))++rest) wi L) (hW:Wq B w0 wb 25 (ah kind pos n m name (.slice ko kl kc)) T) {g c:Nat} {o:Array Value} (K:∀w',Sp B w0 w wb aT (ts++(tl s::(T++[tl z]))) rest w' L→Q (.returned (.tuple #[])) w') (ho:o=(ah kind pos n m name (.slice ko kl kc)):=by rfl) (hg:g=wi.heap.size:=by first|rfl|simp):Calls Tryz.prog 117 #[.pointer (some ⟨wb,0,none⟩),.string s,.string z,.slice (some ⟨g,0,none⟩) 1 c] (wi.alloc (.cells o 28)) Q:=by
 subst hg ho
 have q2:=q.box (ah kind pos n m name (.slice ko kl kc))
 exact q2.go (fun a1 a2=>WH (fun b1 b2=>hW b1 b2) s z (q2.own _ (List.mem_cons_self ..)).1 (q2.own _ (List.mem_cons_self ..)).2 a1 a2) (fun w' q3=>K w' q3.pop)
theorem OU (hR:RP B w0 wb f) (hx:Nw B w0 f (ah kind pos n m name (.slice ko kl kc)).toList) (hk:qF (nM (ah kind pos n m name (.slice ko kl kc)).toList)) (h:Pw B w0 w wb aT) (hf:(aT++gQ (aB f w0 (ah kind pos n m name (.slice ko kl kc)).toList)).length≤1099511627776):Calls Tryz.prog 122 #[.pointer (some ⟨wb,0,none⟩),.agg (ah kind pos n m name (.slice ko kl kc))] w (PP B w0 w wb aT (gQ (aB f w0 (ah kind pos n m name (.slice ko kl kc)).toList))):=by
 have HX:Hid (Wq B w0 wb 25 (ah kind pos n m name (.slice ko kl kc)) (tok f w0 (ah kind pos n m name (.slice ko kl kc)).toList)):=fun a1 a2=>hR hx hk a1 a2
 have q0:=(Sp.start h hf).box (ah kind pos n m name (.slice ko kl kc))
 have F:=q0.f1
 obtain⟨T,hT⟩:∃T,T=tok f w0 (ah kind pos n m name (.slice ko kl kc)).toList:=⟨_,rfl⟩
 have e:gQ (aB f w0 (ah kind pos n m name (.slice ko kl kc)).toList)=if nS kind then T else [40]::(T++[[41]]):=by rw[hT];rfl
 rw[e] at q0⊢
 rw[←hT] at HX
 clear h hf hx hk e hT
 cases hs:nS kind
 ·rw[hs] at q0
  have q:=q0.as (rest':=([40]::(T++[[41]]))++[]) (by simp)
  clear q0
  have hs':=hs
  simp only[nS,Bool.or_eq_false_iff] at hs'
  obtain⟨⟨⟨⟨⟨⟨n1,n2⟩,n3⟩,n4⟩,n5⟩,n6⟩,n7⟩:=hs'
  clear hs
  go_enter Tryz.func122,Tryz.ntmps122
  go_wp2_with (go_at_call 117;refine q.aeM (s:=⟨#[40]⟩) (z:=⟨#[41]⟩) (fun b1 b2=>HX.out b1 b2) ?_;clear q F;intro w2 q;have F:=q.f1)
  go_end0
  exact q.done (by simp;exact⟨rfl,rfl⟩)
 ·rw[hs] at q0
  have q:=q0.as (rest':=T++[]) (by simp)
  clear q0
  simp only[nS,Bool.or_eq_true,beq_iff_eq] at hs
  rcases hs with(((((rfl|rfl)|rfl)|rfl)|rfl)|rfl)|rfl<;>
  ·go_enter Tryz.func122,Tryz.ntmps122
   go_wp2_with (go_at_call 25;refine q.go (fun a1 a2=>HX.out a1 a2) ?_;clear q F;intro w2 q;have F:=q.f1)
   go_end0
   exact q.done (by simp)
theorem RB (hR:RP B w0 wb f) (hx:Nw B w0 f (ah kind pos n m name (.slice ko kl kc)).toList) (hk:qF (nM (ah kind pos n m name (.slice ko kl kc)).toList)) (h:Pw B w0 w wb aT) (hf:(aT++kN (aB f w0 (ah kind pos n m name (.slice ko kl kc)).toList)).length≤1099511627776):Calls Tryz.prog 178 #[.pointer (some ⟨wb,0,none⟩),.agg (ah kind pos n m name (.slice ko kl kc))] w (PP B w0 w wb aT (kN (aB f w0 (ah kind pos n m name (.slice ko kl kc)).toList))):=by
 have HX:Hid (Wq B w0 wb 25 (ah kind pos n m name (.slice ko kl kc)) (tok f w0 (ah kind pos n m name (.slice ko kl kc)).toList)):=fun a1 a2=>hR hx hk a1 a2
 have q0:=(Sp.start h hf).box (ah kind pos n m name (.slice ko kl kc))
 have F:=q0.f1
 obtain⟨T,hT⟩:∃T,T=tok f w0 (ah kind pos n m name (.slice ko kl kc)).toList:=⟨_,rfl⟩
 have e:kN (aB f w0 (ah kind pos n m name (.slice ko kl kc)).toList)=if kind=15∧kl=0 then [] else [45,62]::T:=by rw[hT];rfl
 rw[e] at q0⊢
 rw[←hT] at HX
 clear h hf hx hk e hT
 by_cases h1:kind=15
 ·subst h1
  rcases Nat.eq_zero_or_pos kl with h0|h0
  ·subst h0
   have q:=q0.as (rest':=[]) (by simp)
   clear q0
   go_enter Tryz.func178,Tryz.ntmps178
   go_wp2_with fail
   go_end0
   exact q.done (by simp)
  ·have h2:((kl:Int)==0)=false:=by simp;omega
   have h3:kl≠0:=by omega
   have q:=q0.as (rest':=[45,62]::(T++[])) (by simp[h3])
   clear q0
   go_enter Tryz.func178,Tryz.ntmps178
   go_wp2_with (first
    |(go_at_call 106;refine q.put ?_;clear q F;intro w1 q;have F:=q.f1)
    |(go_at_call 25;refine q.go (fun a1 a2=>HX.out a1 a2) ?_;clear q F;intro w2 q;have F:=q.f1))
   go_end0
   exact q.done (by simp[h3])
 ·have h1':(kind==15)=false:=by simpa using h1
  have q:=q0.as (rest':=[45,62]::(T++[])) (by simp[h1])
  clear q0
  go_enter Tryz.func178,Tryz.ntmps178
  go_wp2_with (first
   |(go_at_call 106;refine q.put ?_;clear q F;intro w1 q;have F:=q.f1)
   |(go_at_call 25;refine q.go (fun a1 a2=>HX.out a1 a2) ?_;clear q F;intro w2 q;have F:=q.f1))
  go_end0
  exact q.done (by simp[h1])
theorem fP (hR:RP B w0 wb f) {vs:List (List Value)} (hr:NK B w0 f ko vs) (hc:∀i x,vs[i]? =some x→∃g,ko=some ⟨g,0,none⟩∧g<B∧∀j,j<11→w0.cell? ⟨g,i*11+j,none⟩=x[j]?) {i:Nat} (hi:i<vs.length):∃(k p a b:Int) (s:ByteArray) (o:Option Addr) (l c g:Nat) (X Y Z:List (List UInt8)),kd (vs.map (aB f w0)) i=⟨k,l,X⟩∧Y=gQ ⟨k,l,X⟩∧Z=kN ⟨k,l,X⟩∧ko=some ⟨g,0,none⟩∧Wq B w0 wb 25 (ah k p a b s (.slice o l c)) X∧Wq B w0 wb 122 (ah k p a b s (.slice o l c)) Y∧Wq B w0 wb 178 (ah k p a b s (.slice o l c)) Z∧∀W,Below B w0 W→B≤W.heap.size→g<W.heap.size∧∀j,j<11→W.cell? ⟨g,i*11+j,none⟩=(ah k p a b s (.slice o l c)).toList[j]? :=by
 obtain⟨k,p,a,b,s,o,l,c,g,h1,h2,h3,h4⟩:=RA hr.row hc hi
 have h5:=hr.ok _ (List.mem_of_getElem? h1)
 exact⟨k,p,a,b,s,o,l,c,g,tok f w0 (ah k p a b s (.slice o l c)).toList,_,_,by unfold kd;rw[List.getElem?_map,h1];rfl,rfl,rfl,h3,fun a1 a2=>hR h2 h5 a1 a2,fun a1 a2=>OU hR h2 h5 a1 a2,fun a1 a2=>RB hR h2 h5 a1 a2,h4⟩
end
theorem dB.ol {x:Int} (h:dB x):qF x:=by unfold dB at h;unfold Go.Proofs.YtdplogkmkgekdaaGreatDoor.qF;omega
theorem nN.ol {x:Int} (h:nN x):qF x:=h.no.ol
def C9 (k:Int):Prop:=(0≤k∧k≤54)∧¬xV k∧k≠2∧k≠20∧k≠21∧k≠51∧k≠52
theorem Gr.ok {k n m:Int} {s:ByteArray} {ks:List Int} (h:Gr k n m s ks) (hk:C9 k):∀x∈ks,qF x:=by
 have lit:∀x:Int,(0≤x∧x≤54)∨x=104∨x=105∨x=108∨x=208∨x=308→Go.Proofs.YtdplogkmkgekdaaGreatDoor.qF x:=fun x hx=>hx
 have c0:=h.prog;have c1:=h.mod;have c3:=h.data;have c4:=h.variant;have c5:=h.field;have c6:=h.ac4;have c7:=h.impl;have c8:=h.fn;have c9:=h.aeG;have c10:=h.ac5;have c11:=h.ac6;have c12:=h.param;have c15:=h.tuple;have c16:=h.ref;have c17:=h.YO;have c18:=h.path;have cA:=h.all;have cP:=h.YP;have c24:=h.call;have c25:=h.part;have c1k:=h.one;have c27:=h.lend;have c2k:=h.two;have c33:=h.eif;have c34:=h.ematch;have c40:=h.gives;have c43:=h.ET;have c44:=h.make;have c46:=h.Rq;have c48:=h.spawn
 intro x hx
 have hn:∀{y:Int},dB y→Go.Proofs.YtdplogkmkgekdaaGreatDoor.qF y:=fun h=>h.ol
 have ht:∀{y:Int},nN y→Go.Proofs.YtdplogkmkgekdaaGreatDoor.qF y:=fun h=>h.ol
 by_cases k0:k=0
 ·exact lit x (by have:=c0 k0 x hx;omega)
 by_cases k1:k=1
 ·exact lit x (by have:=c1 k1 x hx;omega)
 by_cases k3:k=3
 ·obtain⟨-,⟨-,rfl⟩|⟨-,vs,rfl,hv⟩⟩:=c3 k3
  ·exact lit x (by simp at hx;omega)
  ·rcases List.mem_cons.1 hx with hx|hx
   ·exact lit x (by omega)
   ·exact lit x (by have:=hv x hx;omega)
 by_cases k4:k=4
 ·exact lit x (by have:=c4 k4 x hx;split at this<;>omega)
 by_cases k5:k=5
 ·obtain⟨y,rfl,hy⟩:=c5 k5
  rw[List.mem_singleton.1 hx];exact ht hy
 by_cases k6:k=6
 ·exact lit x (by have:=(c6 k6).2 x hx;omega)
 by_cases k7:k=7
 ·obtain⟨-,y,fs,rfl,hy,hf⟩:=c7 k7
  rcases List.mem_cons.1 hx with hx|hx
  ·exact lit x (by omega)
  rcases List.mem_cons.1 hx with hx|hx
  ·rw[hx];exact ht hy
  ·exact lit x (by have:=hf x hx;omega)
 by_cases k8:k=8
 ·obtain⟨-,ps,y,rest,rfl,-,hp,hy,-,hr⟩:=c8 k8
  rcases List.mem_cons.1 hx with hx|hx
  ·exact lit x (by omega)
  rcases List.mem_append.1 hx with hx|hx
  ·exact lit x (by have:=hp x hx;omega)
  rcases List.mem_cons.1 hx with hx|hx
  ·rw[hx];exact ht hy
  ·exact hn (hr x hx)
 by_cases k9:k=9
 ·exact lit x (by have:=(c9 k9).2 x hx;omega)
 by_cases k10:k=10
 ·exact lit x (by have:=c10 k10 x hx;omega)
 by_cases k11:k=11
 ·exact lit x (by have:=c11 k11 x hx;omega)
 by_cases k12:k=12
 ·obtain⟨y,rfl,hy⟩:=c12 k12
  rw[List.mem_singleton.1 hx];exact ht hy
 by_cases k15:k=15
 ·exact ht (c15 k15 x hx)
 by_cases k16:k=16
 ·obtain⟨-,y,rfl,hy⟩:=c16 k16
  rw[List.mem_singleton.1 hx];exact ht hy
 by_cases k17:k=17
 ·exact ht ((c17 k17).2 x hx)
 by_cases k18:k=18
 ·obtain⟨-,ls,ts,rfl,hl,hts⟩:=c18 k18
  rcases List.mem_append.1 hx with hx|hx
  ·exact lit x (by have:=hl x hx;omega)
  ·exact ht (hts x hx)
 by_cases kA:k=22∨k=42∨k=53
 ·exact hn (cA kA x hx)
 by_cases kP:k=23∨k=54
 ·exact hn ((cP kP).2 x hx)
 by_cases k24:k=24
 ·exact hn ((c24 k24).2 x hx)
 by_cases k25:k=25
 ·obtain⟨-,y,rfl,hy⟩:=c25 k25
  rw[List.mem_singleton.1 hx];exact hn hy
 by_cases k1k:k=26∨k=28∨k=37∨k=45
 ·obtain⟨y,rfl,hy⟩:=c1k k1k
  rw[List.mem_singleton.1 hx];exact hn hy
 by_cases k27:k=27
 ·obtain⟨-,y,rfl,hy⟩:=c27 k27
  rw[List.mem_singleton.1 hx];exact hn hy
 by_cases k2k:(29≤k∧k≤32)∨k=35∨k=36
 ·obtain⟨y,z,rfl,hy,hz⟩:=c2k k2k
  rcases List.mem_cons.1 hx with hx|hx
  ·rw[hx];exact hn hy
  ·rw[List.mem_singleton.1 hx];exact hn hz
 by_cases Zq:k=33
 ·obtain⟨y,z,zs,rfl,-,hy,hz,hzs⟩:=c33 Zq
  rcases List.mem_cons.1 hx with hx|hx
  ·rw[hx];exact hn hy
  rcases List.mem_cons.1 hx with hx|hx
  ·rw[hx];exact hn hz
  ·exact hn (hzs x hx)
 by_cases Zr:k=34
 ·obtain⟨y,zs,rfl,hy,hzs⟩:=c34 Zr
  rcases List.mem_cons.1 hx with hx|hx
  ·rw[hx];exact hn hy
  ·exact lit x (by have:=hzs x hx;omega)
 by_cases Zt:k=40
 ·exact hn ((c40 Zt).2 x hx)
 by_cases Zu:k=43
 ·exact hn ((c43 Zu).1 x hx)
 by_cases Zv:k=44
 ·obtain⟨-,ts,zs,rfl,-,hts,hzs⟩:=c44 Zv
  rcases List.mem_append.1 hx with hx|hx
  ·exact hn (hts x hx)
  ·exact lit x (by have:=hzs x hx;omega)
 by_cases Zw:k=46
 ·obtain⟨cs,ps,y,z,rfl,-,hcs,hps,hy,hz⟩:=c46 Zw
  rcases List.mem_append.1 hx with hx|hx
  ·exact lit x (by have:=hcs x hx;omega)
  rcases List.mem_append.1 hx with hx|hx
  ·exact lit x (by have:=hps x hx;omega)
  rcases List.mem_cons.1 hx with hx|hx
  ·rw[hx];exact hn hy
  ·rw[List.mem_singleton.1 hx];exact hn hz
 by_cases Zx:k=48
 ·obtain⟨cs,y,z,rfl,-,hcs,hy,hz⟩:=c48 Zx
  rcases List.mem_append.1 hx with hx|hx
  ·exact lit x (by have:=hcs x hx;omega)
  rcases List.mem_cons.1 hx with hx|hx
  ·rw[hx];exact hn hy
  ·rw[List.mem_singleton.1 hx];exact hn hz
 clear c0 c1 c3 c4 c5 c6 c7 c8 c9 c10 c11 c12 c15 c16 c17 c18 cA cP c24 c25 c1k c27 c2k c33 c34 c40 c43 c44 c46 c48 h
 exfalso
 unfold C9 xV at hk
 omega
section
variable {B:Nat} {w0 w:World} {wb f:Nat} {ko:Option Addr}
theorem NK.of {kind n m:Int} {name:ByteArray} {vs:List (List Value)} (hr:NR B w0 f ko vs) (hg:Gr kind n m name (vs.map nM)) (hk:C9 kind):NK B w0 f ko vs:=⟨hr,fun x hx=>hg.ok hk _ (List.mem_map.2 ⟨x,hx,rfl⟩)⟩
theorem NK.take {a:Option Addr} {ks:List (List Value)} (r:NK B w0 f a ks) (i:Nat):NK B w0 f a (ks.take i):=⟨r.row.take i,fun x hx=>r.ok x (List.mem_of_mem_take hx)⟩
theorem NK.drop {g o:Nat} {ks:List (List Value)} (r:NK B w0 f (some ⟨g,o,none⟩) ks) (i:Nat):NK B w0 f (some ⟨g,o+i*11,none⟩) (ks.drop i):=⟨r.row.drop i,fun x hx=>r.ok x (List.mem_of_mem_drop hx)⟩
theorem NK.nil {a:Option Addr}:NK B w0 f a []:=⟨⟨fun i x hx=>by simp at hx,fun x hx=>(by cases hx),by simp⟩,fun x hx=>by cases hx⟩
end
abbrev PW (B:Nat) (w0:World) (wb f fn:Nat) (c:Array Value):Prop:=Nw B w0 (f+1) c.toList→Wq B w0 wb fn c (tok (f+1) w0 c.toList)
theorem PW.of {B:Nat} {w0:World} {wb f fn:Nat} {kind pos n m:Int} {name:ByteArray} {ko:Option Addr} {kl kc:Nat}
 (K:∀(w:World) (aT:List (List UInt8)) (vs:List (List Value)),Pw B w0 w wb aT→(aT++asm kind n m name.data.toList (vs.map (aB f w0))).length≤1099511627776→kl≤kc→vs.length=kl→NR B w0 f ko vs→Gr kind n m name (vs.map nM)→name.size≤20000→(∀i x,vs[i]? =some x→∃g,ko=some ⟨g,0,none⟩∧g<B∧∀j,j<11→w0.cell? ⟨g,i*11+j,none⟩=x[j]?)→
  Calls Tryz.prog fn #[.pointer (some ⟨wb,0,none⟩),.agg (ah kind pos n m name (.slice ko kl kc))] w (PP B w0 w wb aT (asm kind n m name.data.toList (vs.map (aB f w0))))):
 PW B w0 wb f fn (ah kind pos n m name (.slice ko kl kc)):=by
 intro hx w aT h hf
 have hcap:=hx.cap
 obtain⟨vs,hkl,hr,hg,IE,hs,hc⟩:=hx.opened
 rw[IE] at hf⊢
 exact K w aT vs h hf hcap hkl hr hg hs hc
theorem NR.nk {B:Nat} {w0:World} {f:Nat} {ko:Option Addr} {kind n m:Int} {name:ByteArray} {vs:List (List Value)} (hr:NR B w0 f ko vs) (hg:Gr kind n m name (vs.map nM)) (hk:C9 kind:=by unfold C9 xV;omega):NK B w0 f ko vs:=NK.of hr hg hk
section
variable {B:Nat} {w0 w:World} {wb f:Nat} {aT:List (List UInt8)} {kind pos n m:Int} {name:ByteArray} {ko:Option Addr} {kl kc:Nat}
theorem gW {W:World} {g i:Nat} {k p n m:Int} {s:ByteArray} {v:Value} (h:∀j,j<11→W.cell? ⟨g,i*11+j,none⟩=(ah k p n m s v).toList[j]?):W.cell? ⟨g,i*11,none⟩=some (.int .i64 k)∧W.cell? ⟨g,i*11+1,none⟩=some (.int .i64 p)∧W.cell? ⟨g,i*11+2,none⟩=some (.int .i64 n)∧W.cell? ⟨g,i*11+3,none⟩=some (.int .i64 m)∧W.cell? ⟨g,i*11+4,none⟩=some (.string s)∧W.cell? ⟨g,i*11+5,none⟩=some (v)∧W.cell? ⟨g,i*11+6,none⟩=some (.int .i64 0)∧W.cell? ⟨g,i*11+7,none⟩=some (.int .i64 0)∧W.cell? ⟨g,i*11+8,none⟩=some (.slice none 0 0)∧W.cell? ⟨g,i*11+9,none⟩=some (.slice none 0 0)∧W.cell? ⟨g,i*11+10,none⟩=some (.slice none 0 0):=⟨h 0 (by decide),h 1 (by decide),h 2 (by decide),h 3 (by decide),h 4 (by decide),h 5 (by decide),h 6 (by decide),h 7 (by decide),h 8 (by decide),h 9 (by decide),h 10 (by decide)⟩
theorem qG {name:ByteArray} (h:(name.data.toList.length !=0)=false):name=⟨#[]⟩:=by
 have h9:name.data.toList.length=0:=by simpa using h
 rw[FY] at h9
 obtain⟨d⟩:=name
 have:d=#[]:=Array.eq_empty_of_size_eq_zero h9
 rw[this]
theorem qU {name:ByteArray} (h:(name.data.toList.length !=0)=true):name.toList.isEmpty=false:=by
 cases h9:name.toList.isEmpty
 ·rfl
 ·have h8:name.toList=[]:=by simpa using h9
  rw[Lib.toList_data] at h8
  rw[h8] at h
  exact absurd h (by decide)
theorem Zy (hR:RP B w0 wb f) (hm:Mx B w0) (ht:Tab B w0):PW B w0 wb f 49 (ah 13 pos n m name (.slice ko kl kc)):=by
 refine PW.of fun w aT vs h hf hcap hkl hr hg hs hc=>?_
 have e:asm 13 n m (name:ByteArray).data.toList (vs.map (aB f w0))=[105,110,116]::[]:=by
  rfl
 rw[e] at hf⊢
 clear e
 have q:=(Sp.start h hf).box (ah 13 pos n m name (.slice ko kl kc))
 clear h hf hr hg hc hkl hcap
 have F:=q.f1
 go_enter Tryz.func49,Tryz.ntmps49
 go_wp2_with (first
  |(go_at_call 106;refine q.put ?_;clear q F;intro w2 q;have F:=q.f1))
 all_goals(go_end0;exact q.done (rfl))
theorem Zz (hR:RP B w0 wb f) (hm:Mx B w0) (ht:Tab B w0):PW B w0 wb f 49 (ah 14 pos n m name (.slice ko kl kc)):=by
 refine PW.of fun w aT vs h hf hcap hkl hr hg hs hc=>?_
 have e:asm 14 n m (name:ByteArray).data.toList (vs.map (aB f w0))=[98,111,111,108]::[]:=by
  rfl
 rw[e] at hf⊢
 clear e
 have q:=(Sp.start h hf).box (ah 14 pos n m name (.slice ko kl kc))
 clear h hf hr hg hc hkl hcap
 have F:=q.f1
 go_enter Tryz.func49,Tryz.ntmps49
 go_wp2_with (first
  |(go_at_call 106;refine q.put ?_;clear q F;intro w2 q;have F:=q.f1))
 all_goals(go_end0;exact q.done (rfl))
theorem ZA (hR:RP B w0 wb f) (hm:Mx B w0) (ht:Tab B w0):PW B w0 wb f 49 (ah 15 pos n m name (.slice ko kl kc)):=by
 refine PW.of fun w aT vs h hf hcap hkl hr hg hs hc=>?_
 have hn:=hr.nk hg
 have e:asm 15 n m (name:ByteArray).data.toList (vs.map (aB f w0))=bF [40] [41] (vs.map (aB f w0))++[]:=by
  rw[List.append_nil];rfl
 rw[e] at hf⊢
 clear e
 have q:=(Sp.start h hf).box (ah 15 pos n m name (.slice ko kl kc))
 have HL:Hid (NK B w0 f ko vs∧vs.length=kl):=⟨hn,hkl⟩
 clear h hf hr hg hc hkl hcap hn
 have F:=q.f1
 go_enter Tryz.func49,Tryz.ntmps49
 go_wp2_with (first
  |(go_at_call 117;refine q.go (fun a1 a2=>jg hR ⟨#[40]⟩ ⟨#[41]⟩ HL.out.1 HL.out.2 a1 a2) ?_;clear q F;intro w2 q;have F:=q.f1))
 all_goals(go_end0;exact q.done (by simp<;>rfl))
theorem ZB (hR:RP B w0 wb f) (hm:Mx B w0) (ht:Tab B w0):PW B w0 wb f 49 (ah 19 pos n m name (.slice ko kl kc)):=by
 refine PW.of fun w aT vs h hf hcap hkl hr hg hs hc=>?_
 have e:asm 19 n m (name:ByteArray).data.toList (vs.map (aB f w0))=name.data.toList::[]:=by
  rfl
 rw[e] at hf⊢
 clear e
 have q:=(Sp.start h hf).box (ah 19 pos n m name (.slice ko kl kc))
 clear h hf hr hg hc hkl hcap
 have F:=q.f1
 go_enter Tryz.func49,Tryz.ntmps49
 go_wp2_with (first
  |(go_at_call 106;refine q.put ?_;clear q F;intro w2 q;have F:=q.f1))
 all_goals(go_end0;exact q.done (rfl))
theorem ZC (hR:RP B w0 wb f) (hm:Mx B w0) (ht:Tab B w0):PW B w0 wb f 49 (ah 18 pos n m name (.slice ko kl kc)):=by
 refine PW.of fun w aT vs h hf hcap hkl hr hg hs hc=>?_
 have hn:=hr.nk hg
 have e:asm 18 n m (name:ByteArray).data.toList (vs.map (aB f w0))=jQ (tl name)::(oP (vs.map (aB f w0))++[]):=by
  rw[List.append_nil];rfl
 rw[e] at hf⊢
 clear e
 have q:=(Sp.start h hf).box (ah 18 pos n m name (.slice ko kl kc))
 have HL:Hid (NK B w0 f ko vs∧vs.length=kl):=⟨hn,hkl⟩
 clear h hf hr hg hc hkl hcap hn
 have F:=q.f1
 go_enter Tryz.func49,Tryz.ntmps49
 go_wp2_with (first
  |(go_at_call 114;refine q.go (fun a1 a2=>CZ hR HL.out.1 HL.out.2 a1 a2) ?_;clear q F;intro w2 q;have F:=q.f1)
  |(go_at_call 107;refine q.go (fun a1 a2=>u6 hm hs a1 a2) ?_;clear q F;intro w2 q;have F:=q.f1))
 all_goals(go_end0;exact q.done (by simp<;>rfl))
end
section
variable {B:Nat} {w0 w:World} {wb f:Nat} {aT:List (List UInt8)} {kind pos n m:Int} {name:ByteArray} {ko:Option Addr} {kl kc:Nat}
theorem WI (hR:RP B w0 wb f) (hm:Mx B w0) (ht:Tab B w0) (hnm:(name.data.toList.length !=0)=false):PW B w0 wb f 49 (ah 16 pos n m name (.slice ko kl kc)):=by
 refine PW.of fun w aT vs h hf hcap hkl hr hg hs hc=>?_
 have hn:=hr.nk hg
 replace hnm:(name.data.toList.length !=0)=false:=hnm
 obtain rfl:=qG hnm
 have e:asm 16 n m (⟨#[]⟩:ByteArray).data.toList (vs.map (aB f w0))=[38]::(aC false [(tl ⟨#[]⟩)]++(aC (n==1) [[109,117,116]]++(bB (vs.map (aB f w0))++[]))):=by
  show [38]::(lG (tl ⟨#[]⟩)++(aC (n==1) [[109,117,116]]++bB (vs.map (aB f w0))))=_;rw[show lG (tl ⟨#[]⟩)=aC false [(tl ⟨#[]⟩)] from by unfold lG;rw[show((tl ⟨#[]⟩).length !=0)=false from rfl],List.append_nil]
 rw[e] at hf⊢
 clear e
 have q:=(Sp.start h hf).box (ah 16 pos n m ⟨#[]⟩ (.slice ko kl kc))
 have HL:Hid (NK B w0 f ko vs∧vs.length=kl):=⟨hn,hkl⟩
 clear h hf hr hg hc hkl hcap hn hnm
 have F:=q.f1
 go_enter Tryz.func49,Tryz.ntmps49
 go_wp2_with (first
  |(go_at_call 106;refine q.put ?_;clear q F;intro w2 q;have F:=q.f1)
  |(go_at_call 115;refine q.when (ss:=[⟨#[]⟩]) ?_;clear q F;intro w2 q;have F:=q.f1)
  |(go_at_call 115;refine q.when (ss:=[⟨#[109,117,116]⟩]) ?_;clear q F;intro w2 q;have F:=q.f1)
  |(go_at_call 105;refine q.go (fun a1 a2=>gq hR HL.out.1 HL.out.2 a1 a2) ?_;clear q F;intro w2 q;have F:=q.f1))
 all_goals(go_end0;exact q.done (by simp<;>rfl))
theorem WJ (hR:RP B w0 wb f) (hm:Mx B w0) (ht:Tab B w0) (hnm:(name.data.toList.length !=0)=false):PW B w0 wb f 49 (ah 17 pos n m name (.slice ko kl kc)):=by
 refine PW.of fun w aT vs h hf hcap hkl hr hg hs hc=>?_
 have hn:=hr.nk hg
 obtain⟨last,rfl⟩:∃l1,kl=l1+1:=by
  have:=(hg.YO rfl).1
  cases vs with
  |nil=>exact absurd rfl this
  |cons a r=>exact⟨r.length,by rw[←hkl];rfl⟩
 replace hnm:(name.data.toList.length !=0)=false:=hnm
 obtain rfl:=qG hnm
 obtain⟨k0,p0,a0,b0,s0,o0,l0,c0,g,X0,Y0,Z0,e0,y0,z0,rfl,W0,fI,iF,C0⟩:=fP hR hn hc (i:=last) (by omega)
 obtain⟨us,dS⟩:∃us,us=vs.take last:=⟨_,rfl⟩
 have jW:us.length=last:=by rw[dS,List.length_take];omega
 have em:(vs.map (aB f w0)).take last=us.map (aB f w0):=by rw[dS,List.map_take]
 have hb:=hn.row.few
 rw[hkl] at hb
 have e:asm 17 n m (⟨#[]⟩:ByteArray).data.toList (vs.map (aB f w0))=[102,110]::(aC false [(tl ⟨#[]⟩)]++(pFn n++(bF [40] [41] (us.map (aB f w0))++([45,62]::(X0++[]))))):=by
  show [102,110]::(lG (tl ⟨#[]⟩)++(pFn n++(bF [40] [41] ((vs.map (aB f w0)).take ((vs.map (aB f w0)).length - 1))++([45,62]::(kd (vs.map (aB f w0)) ((vs.map (aB f w0)).length - 1)).t))))=_;rw[show(vs.map (aB f w0)).length - 1=last from by rw[List.length_map];omega,em,e0,List.append_nil];rw[show lG (tl ⟨#[]⟩)=aC false [(tl ⟨#[]⟩)] from by unfold lG;rw[show((tl ⟨#[]⟩).length !=0)=false from rfl]]
 rw[e] at hf⊢
 clear e
 have q:=(Sp.start h hf).box (ah 17 pos n m ⟨#[]⟩ (.slice (some ⟨g,0,none⟩) (last+1) kc))
 have HW0:=@aG _ @W0
 have aW:=@aG _ @C0
 have HL:Hid (NK B w0 f (some ⟨g,0,none⟩) us∧us.length=last):=⟨dS▸hn.take last,jW⟩
 have hI1:(last:Int)≤(kc:Int):=by omega
 have hI2:(last:Int)<(last:Int)+1:=by omega
 have hb1:(last:Int)≤20000:=by omega
 clear e0 y0 z0 W0 fI iF C0
 clear h hf hr hg hc hkl hcap hn hnm dS jW em hb
 have F:=q.f1
 have lg:=(q.o aW).1
 have G0:=gW (q.o aW).2
 go_enter Tryz.func49,Tryz.ntmps49
 go_wp2_with (first
  |(go_at_call 106;refine q.put ?_;clear q F lg G0;intro w2 q;have F:=q.f1;have lg:=(q.o aW).1;have G0:=gW (q.o aW).2)
  |(go_at_call 115;refine q.when (ss:=[⟨#[]⟩]) ?_;clear q F lg G0;intro w2 q;have F:=q.f1;have lg:=(q.o aW).1;have G0:=gW (q.o aW).2)
  |(go_at_call 118;refine q.go (fun a1 a2=>C8 n a1 a2) ?_;clear q F lg G0;intro w2 q;have F:=q.f1;have lg:=(q.o aW).1;have G0:=gW (q.o aW).2)
  |(go_at_call 117;refine q.go (fun a1 a2=>jg hR ⟨#[40]⟩ ⟨#[41]⟩ HL.out.1 HL.out.2 a1 a2) ?_;clear q F lg G0;intro w2 q;have F:=q.f1;have lg:=(q.o aW).1;have G0:=gW (q.o aW).2)
  |(go_at_call 25;refine q.go (fun a1 a2=>HW0.out a1 a2) ?_;clear q F lg G0;intro w2 q;have F:=q.f1;have lg:=(q.o aW).1;have G0:=gW (q.o aW).2))
 all_goals(go_end0;exact q.done (by simp<;>rfl))
theorem WK (hR:RP B w0 wb f) (hm:Mx B w0) (ht:Tab B w0) (hnm:(name.data.toList.length !=0)=true):PW B w0 wb f 49 (ah 16 pos n m name (.slice ko kl kc)):=by
 refine PW.of fun w aT vs h hf hcap hkl hr hg hs hc=>?_
 have hn:=hr.nk hg
 replace hnm:(name.data.toList.length !=0)=true:=hnm
 have hne:=qU hnm
 have e:asm 16 n m (name:ByteArray).data.toList (vs.map (aB f w0))=[38]::(aC true [(tl name)]++(aC (n==1) [[109,117,116]]++(bB (vs.map (aB f w0))++[]))):=by
  show [38]::(lG (tl name)++(aC (n==1) [[109,117,116]]++bB (vs.map (aB f w0))))=_;rw[show lG (tl name)=aC true [(tl name)] from by unfold lG;rw[show((tl name).length !=0)=true from hnm],List.append_nil]
 rw[e] at hf⊢
 clear e
 have q:=(Sp.start h hf).box (ah 16 pos n m name (.slice ko kl kc))
 have HL:Hid (NK B w0 f ko vs∧vs.length=kl):=⟨hn,hkl⟩
 clear h hf hr hg hc hkl hcap hn hnm
 have F:=q.f1
 go_enter Tryz.func49,Tryz.ntmps49
 go_wp2_with (first
  |(go_at_call 106;refine q.put ?_;clear q F;intro w2 q;have F:=q.f1)
  |(go_at_call 115;refine q.when (ss:=[name]) ?_;clear q F;intro w2 q;have F:=q.f1)
  |(go_at_call 115;refine q.when (ss:=[⟨#[109,117,116]⟩]) ?_;clear q F;intro w2 q;have F:=q.f1)
  |(go_at_call 105;refine q.go (fun a1 a2=>gq hR HL.out.1 HL.out.2 a1 a2) ?_;clear q F;intro w2 q;have F:=q.f1))
 all_goals(go_end0;exact q.done (by simp<;>rfl))
theorem WL (hR:RP B w0 wb f) (hm:Mx B w0) (ht:Tab B w0) (hnm:(name.data.toList.length !=0)=true):PW B w0 wb f 49 (ah 17 pos n m name (.slice ko kl kc)):=by
 refine PW.of fun w aT vs h hf hcap hkl hr hg hs hc=>?_
 have hn:=hr.nk hg
 obtain⟨last,rfl⟩:∃l1,kl=l1+1:=by
  have:=(hg.YO rfl).1
  cases vs with
  |nil=>exact absurd rfl this
  |cons a r=>exact⟨r.length,by rw[←hkl];rfl⟩
 replace hnm:(name.data.toList.length !=0)=true:=hnm
 have hne:=qU hnm
 obtain⟨k0,p0,a0,b0,s0,o0,l0,c0,g,X0,Y0,Z0,e0,y0,z0,rfl,W0,fI,iF,C0⟩:=fP hR hn hc (i:=last) (by omega)
 obtain⟨us,dS⟩:∃us,us=vs.take last:=⟨_,rfl⟩
 have jW:us.length=last:=by rw[dS,List.length_take];omega
 have em:(vs.map (aB f w0)).take last=us.map (aB f w0):=by rw[dS,List.map_take]
 have hb:=hn.row.few
 rw[hkl] at hb
 have e:asm 17 n m (name:ByteArray).data.toList (vs.map (aB f w0))=[102,110]::(aC true [(tl name)]++(pFn n++(bF [40] [41] (us.map (aB f w0))++([45,62]::(X0++[]))))):=by
  show [102,110]::(lG (tl name)++(pFn n++(bF [40] [41] ((vs.map (aB f w0)).take ((vs.map (aB f w0)).length - 1))++([45,62]::(kd (vs.map (aB f w0)) ((vs.map (aB f w0)).length - 1)).t))))=_;rw[show(vs.map (aB f w0)).length - 1=last from by rw[List.length_map];omega,em,e0,List.append_nil];rw[show lG (tl name)=aC true [(tl name)] from by unfold lG;rw[show((tl name).length !=0)=true from hnm]]
 rw[e] at hf⊢
 clear e
 have q:=(Sp.start h hf).box (ah 17 pos n m name (.slice (some ⟨g,0,none⟩) (last+1) kc))
 have HW0:=@aG _ @W0
 have aW:=@aG _ @C0
 have HL:Hid (NK B w0 f (some ⟨g,0,none⟩) us∧us.length=last):=⟨dS▸hn.take last,jW⟩
 have hI1:(last:Int)≤(kc:Int):=by omega
 have hI2:(last:Int)<(last:Int)+1:=by omega
 have hb1:(last:Int)≤20000:=by omega
 clear e0 y0 z0 W0 fI iF C0
 clear h hf hr hg hc hkl hcap hn hnm dS jW em hb
 have F:=q.f1
 have lg:=(q.o aW).1
 have G0:=gW (q.o aW).2
 go_enter Tryz.func49,Tryz.ntmps49
 go_wp2_with (first
  |(go_at_call 106;refine q.put ?_;clear q F lg G0;intro w2 q;have F:=q.f1;have lg:=(q.o aW).1;have G0:=gW (q.o aW).2)
  |(go_at_call 115;refine q.when (ss:=[name]) ?_;clear q F lg G0;intro w2 q;have F:=q.f1;have lg:=(q.o aW).1;have G0:=gW (q.o aW).2)
  |(go_at_call 118;refine q.go (fun a1 a2=>C8 n a1 a2) ?_;clear q F lg G0;intro w2 q;have F:=q.f1;have lg:=(q.o aW).1;have G0:=gW (q.o aW).2)
  |(go_at_call 117;refine q.go (fun a1 a2=>jg hR ⟨#[40]⟩ ⟨#[41]⟩ HL.out.1 HL.out.2 a1 a2) ?_;clear q F lg G0;intro w2 q;have F:=q.f1;have lg:=(q.o aW).1;have G0:=gW (q.o aW).2)
  |(go_at_call 25;refine q.go (fun a1 a2=>HW0.out a1 a2) ?_;clear q F lg G0;intro w2 q;have F:=q.f1;have lg:=(q.o aW).1;have G0:=gW (q.o aW).2))
 all_goals(go_end0;exact q.done (by simp<;>rfl))
end
end Go.Proofs.YtdplogkmkgekdaaGreatDoor
