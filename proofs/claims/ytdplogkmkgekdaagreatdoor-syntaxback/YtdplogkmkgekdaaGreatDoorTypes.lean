/- Types: what the reader makes of them. -/
import Derived.Below
import Derived.Test.YtdplogkmkgekdaaGreatDoorProg
import Derived.WalkKit
import Derived.WalkLawsBesides
import Derived.WalkSpells
import Derived.Outline
import Derived.Shelf.Strings.Search3
import Derived.Laws.RangeAny
import Derived.Lib.Strings
import Derived.Deep.QuietTactic
import Derived.BigQuiet
import Derived.RegionTactic
import Derived.BigRegion
import Derived.Maps.AppendAt
import Derived.Deep.LoopGhost
set_option linter.all false
set_option maxRecDepth 100000
set_option maxHeartbeats 4000000
namespace Go.Proofs.YtdplogkmkgekdaaGreatDoor
open Go.RowKit
theorem aG {p:Prop} (h:p):Hid p:=h
def sZ:List ByteArray:=[⟨#[109,111,100]⟩,⟨#[117,115,101]⟩,⟨#[112,117,98]⟩,⟨#[99,111,112,121]⟩,⟨#[115,116,114,117,99,116]⟩,⟨#[101,110,117,109]⟩,⟨#[116,114,97,105,116]⟩,⟨#[105,109,112,108]⟩,⟨#[102,111,114]⟩,⟨#[102,110]⟩,⟨#[108,101,116]⟩,⟨#[109,117,116]⟩,⟨#[105,102]⟩,⟨#[101,108,115,101]⟩,⟨#[109,97,116,99,104]⟩,⟨#[119,104,105,108,101]⟩,⟨#[108,111,111,112]⟩,⟨#[98,114,101,97,107]⟩,⟨#[110,101,120,116]⟩,⟨#[114,101,116,117,114,110]⟩,⟨#[112,97,110,105,99]⟩,⟨#[109,97,107,101]⟩,⟨#[114,101,102]⟩,⟨#[111,110,99,101]⟩,⟨#[115,112,97,119,110]⟩,⟨#[116,114,117,101]⟩,⟨#[102,97,108,115,101]⟩,⟨#[105,110,116]⟩,⟨#[98,111,111,108]⟩]
def isWord (l:List UInt8):Bool:=sZ.any fun b=>l==b.toList
end Go.Proofs.YtdplogkmkgekdaaGreatDoor
namespace Go.Proofs
open Go.Shelf
def Tryz.lays144_ren:Go.Shelf.Ren:=⟨fun|144=>203|143=>223|219=>241|217=>254|225=>255|224=>256|267=>257|266=>264|314=>265|n=>n,fun|9=>9|4=>4|3=>3|5=>5|46=>162|146=>187|51=>173|n=>n,fun|1=>2|n=>n⟩
theorem Tryz.lays144:Go.Proofs.Lays.n144 Tryz.prog Tryz.lays144_ren:={
 mixed:=by kernel_rfl
 f143:=Tryz.func223.trans (congrArg some (by kernel_rfl))
 f144:=Tryz.func203.trans (congrArg some (by kernel_rfl))
 f217:=Tryz.func254.trans (congrArg some (by kernel_rfl))
 f219:=Tryz.func241.trans (congrArg some (by kernel_rfl))
 f224:=Tryz.func256.trans (congrArg some (by kernel_rfl))
 f225:=Tryz.func255.trans (congrArg some (by kernel_rfl))
 f266:=Tryz.func264.trans (congrArg some (by kernel_rfl))
 f267:=Tryz.func257.trans (congrArg some (by kernel_rfl))
 f314:=Tryz.func265.trans (congrArg some (by kernel_rfl))
 t3:=Tryz.underlying3
 a3:=Tryz.isAgg3
 z3:=Tryz.sizeOf3
 v3:=Tryz.zeroValue3
 t4:=Tryz.underlying4
 a4:=Tryz.isAgg4
 z4:=Tryz.sizeOf4
 v4:=Tryz.zeroValue4
 t5:=Tryz.underlying5
 a5:=Tryz.isAgg5
 z5:=Tryz.sizeOf5
 v5:=Tryz.zeroValue5
 t9:=Tryz.underlying9
 a9:=Tryz.isAgg9
 z9:=Tryz.sizeOf9
 v9:=Tryz.zeroValue9
 t46:=Tryz.underlying162
 a46:=Tryz.isAgg162
 z46:=Tryz.sizeOf162
 v46:=Tryz.zeroValue162
 t51:=Tryz.underlying173
 a51:=Tryz.isAgg173
 z51:=Tryz.sizeOf173
 v51:=Tryz.zeroValue173
 t146:=Tryz.underlying187
 a146:=Tryz.isAgg187
 z146:=Tryz.sizeOf187
 v146:=Tryz.zeroValue187
 g1:=by kernel_rfl}
open Go.RowKit Go.Lib in
theorem Tryz.strings_Contains (s sub:ByteArray) (m:Int) (w:World) (hs:s.size<4294967281) (hm:w.cell? ⟨2,0,none⟩=some (.int .i64 m)):
 Calls Tryz.prog 203 #[.string s,.string sub] w fun e w'=>e=.returned (.bool (Lib.contains s.data.toList sub.data.toList))∧w'=w:=Any.strings_Contains Tryz.lays144 s sub m w hs hm
end Go.Proofs
namespace Go.Proofs.YtdplogkmkgekdaaGreatDoor
def aK (s:ByteArray) (i:Nat):Nat:=if h:i<s.size then(s[i]'h).toNat else 0
theorem mO {s:ByteArray} {i:Nat} (h:i<s.size):aK s i=(s[i]'h).toNat:=by simp[aK,h]
theorem qO {s:ByteArray} {i:Nat} (h:¬i<s.size):aK s i=0:=by simp[aK,h]
def bV (c:Nat):Bool:=decide (48≤c∧c≤57)
def dL (c:Nat):Bool:=decide (97≤c∧c≤122∨65≤c∧c≤90)
def bq (c:Nat):Bool:=dL c||bV c||c==95
def kK (c:Nat):Bool:=c !=10
def iH (c:Nat):Bool:=c==32||c==9||c==10
def pF (p:Nat→Bool) (s:ByteArray):Nat→Nat→Nat
 |0,i=>i
 |f+1,i=>if p (aK s i) then pF p s f (i+1) else i
def aH (p:Nat→Bool) (s:ByteArray) (i:Nat):Nat:=pF p s (s.size - i) i
theorem FQ {p:Nat→Bool} {s:ByteArray} {i:Nat} (h:i<s.size) (hp:p (aK s i)=true):aH p s i=aH p s (i+1):=by
 unfold aH
 rw[show s.size - i=(s.size - (i+1))+1 by omega,pF,if_pos hp]
theorem uX {p:Nat→Bool} {s:ByteArray} {i:Nat} (hp:p (aK s i)=false):aH p s i=i:=by
 unfold aH
 cases s.size - i with
 |zero=>rfl
 |succ f=>rw[pF,if_neg (by simp[hp])]
theorem H6 (p:Nat→Bool) (s:ByteArray):∀(f i:Nat),i≤pF p s f i
 |0,_=>Nat.le_refl _
 |f+1,i=>by
  rw[pF]
  split
  ·have:=H6 p s f (i+1);omega
  ·exact Nat.le_refl _
theorem H7 (p:Nat→Bool) (s:ByteArray):∀(f i:Nat),pF p s f i≤i+f
 |0,_=>Nat.le_refl _
 |f+1,i=>by
  rw[pF]
  split
  ·have:=H7 p s f (i+1);omega
  ·omega
theorem FR (p:Nat→Bool) (s:ByteArray):∀(f i j:Nat),i≤j→j<pF p s f i→p (aK s j)=true
 |0,i,j,h1,h2=>by rw[pF] at h2;omega
 |f+1,i,j,h1,h2=>by
  rw[pF] at h2
  split at h2
  ·rename_i hp
   by_cases e:j=i
   ·subst e;exact hp
   ·exact FR p s f (i+1) j (by omega) h2
  ·omega
theorem qE (p:Nat→Bool) (s:ByteArray) (i:Nat):i≤aH p s i:=H6 p s _ i
theorem iI (p:Nat→Bool) (s:ByteArray) (i:Nat) (hi:i≤s.size):aH p s i≤s.size:=by
 have:=H7 p s (s.size - i) i
 unfold aH;omega
theorem lV (p:Nat→Bool) (s:ByteArray) (i j:Nat) (hj:i≤j) (hl:j<aH p s i):p (aK s j)=true:=FR p s _ i j hj hl
theorem kW {p:Nat→Bool} {s:ByteArray} {i:Nat} (h:i<s.size) (hp:p (aK s i)=true):i<aH p s i:=by
 rw[FQ h hp];have:=qE p s (i+1);omega
def dV (s:ByteArray) (i:Nat):Nat→Nat
 |0=>0
 |k+1=>dV s i k*10+(aK s (i+k) - 48)
structure One where
 err:Nat
 kind:Nat
 stop:Nat
 n:Nat
def uw:List (Nat × Nat):=[(58,58),(45,62),(61,62),(61,61),(33,61),(60,61),(62,61),(38,38),(124,124)]
def wo:List Nat:=[40,41,123,125,91,93,60,62,44,59,58,46,61,43,45,42,47,37,38,33,95]
def bR (s:ByteArray) (i:Nat):Nat:=if uw.contains (aK s i,aK s (i+1)) then 2 else if wo.contains (aK s i) then 1 else 0
def one (s:ByteArray) (i:Nat):One:=
 if bV (aK s i) then
  (if dV s i (aH bV s i - i)≤9223372036854775807 then⟨0,1,aH bV s i,dV s i (aH bV s i - i)⟩ else⟨3,0,0,0⟩)
 else if dL (aK s i) then
  (if isWord (s.extract i (aH bq s i)).toList then⟨0,3,aH bq s i,0⟩ else if 20<aH bq s i - i then⟨3,0,0,0⟩ else⟨0,2,aH bq s i,0⟩)
 else if aK s i==39&&dL (aK s (i+1)) then
  (if 21<aH bq s (i+1) - i then⟨3,0,0,0⟩ else⟨0,4,aH bq s (i+1),0⟩)
 else if bR s i=0 then⟨2,0,0,0⟩ else⟨0,5,i+bR s i,0⟩
def dD (s:ByteArray) (i:Nat) (o:One):ByteArray:=if o.kind=1 then⟨#[]⟩ else s.extract i o.stop
def oz (kind:Nat) (i:Nat) (t:ByteArray) (n:Nat):List Value:=[.int .i64 kind,.int .i64 i,.string t,.int .i64 n]
def jX (s:ByteArray) (i:Nat):List Value:=oz (one s i).kind i (dD s i (one s i)) (one s i).n
abbrev DF:=Sum (Nat × Nat) (List (List Value))
def lexFrom:Nat→ByteArray→Nat→List (List Value)→DF
 |0,s,_,acc=>.inr (acc++[oz 0 s.size ⟨#[]⟩ 0])
 |b+1,s,i,acc=>
  if i<s.size then
   if iH (aK s i) then lexFrom b s (i+1) acc
   else if aK s i=35 then lexFrom b s (aH kK s i) acc
   else if(one s i).err≠0 then .inl ((one s i).err,i)
   else lexFrom b s (one s i).stop (acc++[jX s i])
  else .inr (acc++[oz 0 s.size ⟨#[]⟩ 0])
def iE (s:ByteArray):DF:=if 6000<s.size then .inl (1,0) else lexFrom s.size s 0 []
theorem ES {s:ByteArray} {i:Nat} (hi:i<s.size):i+bR s i≤s.size:=by
 unfold bR
 split
 ·rename_i h
  by_cases h2:i+1<s.size
  ·omega
  ·rw[qO h2] at h
   simp[uw] at h
 ·split<;>omega
theorem rT {s:ByteArray} {i:Nat} (hi:i<s.size) (h:(one s i).err=0):i<(one s i).stop∧(one s i).stop≤s.size:=by
 unfold one at h⊢
 split
 ·rename_i hd
  have h1:=kW hi hd
  have h2:=iI bV s i (by omega)
  split at h<;>split at h<;>simp_all
 ·split
  ·rename_i hd
   have h1:i<aH bq s i:=kW hi (by simp[bq,hd])
   have h2:=iI bq s i (by omega)
   split
   ·exact⟨h1,h2⟩
   ·split
    ·simp_all
    ·exact⟨h1,h2⟩
  ·split
   ·have h2:=iI bq s (i+1) (by omega)
    have h1:=qE bq s (i+1)
    split
    ·simp_all
    ·exact⟨by simp;omega,h2⟩
   ·split
    ·simp_all
    ·have:=ES hi
     exact⟨by simp;omega,this⟩
theorem uY {s:ByteArray} {i b:Nat} {acc:List (List Value)} (hi:i<s.size) (hb:iH (aK s i)=true):lexFrom (b+1) s i acc=lexFrom b s (i+1) acc:=by
 rw[lexFrom,if_pos hi,if_pos hb]
theorem Bu {s:ByteArray} {i b:Nat} {acc:List (List Value)} (hi:i<s.size) (hb:aK s i=35):lexFrom (b+1) s i acc=lexFrom b s (aH kK s i) acc:=by
 rw[lexFrom,if_pos hi,if_neg (by simp[iH,hb]),if_pos hb]
theorem Bv {s:ByteArray} {i b:Nat} {acc:List (List Value)} (hi:i<s.size) (hb:iH (aK s i)=false) (hr:aK s i≠35) (he:(one s i).err≠0):lexFrom (b+1) s i acc=.inl ((one s i).err,i):=by
 rw[lexFrom,if_pos hi,if_neg (by simp[hb]),if_neg hr,if_pos he]
theorem uD {s:ByteArray} {i b:Nat} {acc:List (List Value)} (hi:i<s.size) (hb:iH (aK s i)=false) (hr:aK s i≠35) (he:(one s i).err=0):lexFrom (b+1) s i acc=lexFrom b s (one s i).stop (acc++[jX s i]):=by
 rw[lexFrom,if_pos hi,if_neg (by simp[hb]),if_neg hr,if_neg (by simp[he])]
theorem xU {s:ByteArray} {i b:Nat} {acc:List (List Value)} (hi:¬i<s.size):lexFrom b s i acc=.inr (acc++[oz 0 s.size ⟨#[]⟩ 0]):=by
 cases b with
 |zero=>rfl
 |succ b=>rw[lexFrom,if_neg hi]
open Go.RowKit
theorem uE {a b:Bool} (h:a=b):Ending.returned (.bool a)=.returned (.bool b):=by rw[h]
theorem su {k:IntKind} {a b:Int} (h:a=b):Ending.returned (.int k a)=.returned (.int k b):=by rw[h]
theorem sD {s:ByteArray} {i:Nat} (hd:bV (aK s i)=true):one s i=if dV s i (aH bV s i - i)≤9223372036854775807 then⟨0,1,aH bV s i,dV s i (aH bV s i - i)⟩ else⟨3,0,0,0⟩:=by
 rw[one,if_pos hd]
theorem BZ {c:Nat} (h:dL c=true):bV c=false:=by
 simp only[dL,bV,decide_eq_true_eq,decide_eq_false_iff_not] at h⊢;omega
theorem pG {s:ByteArray} {i:Nat} (hd:dL (aK s i)=true):one s i=if isWord (s.extract i (aH bq s i)).toList then⟨0,3,aH bq s i,0⟩ else if 20<aH bq s i - i then⟨3,0,0,0⟩ else⟨0,2,aH bq s i,0⟩:=by
 rw[one,if_neg (by simp[BZ hd]),if_pos hd]
theorem uF {s:ByteArray} {i:Nat} (h:aK s i=39) (hd:dL (aK s (i+1))=true):one s i=if 21<aH bq s (i+1) - i then⟨3,0,0,0⟩ else⟨0,4,aH bq s (i+1),0⟩:=by
 rw[one,if_neg (by simp[h,bV]),if_neg (by simp[h,dL]),if_pos (by simp[h,hd])]
theorem yX {s:ByteArray} {i:Nat} (h1:bV (aK s i)=false) (h2:dL (aK s i)=false) (h3:aK s i≠39∨dL (aK s (i+1))=false):one s i=if bR s i=0 then⟨2,0,0,0⟩ else⟨0,5,i+bR s i,0⟩:=by
 rw[one,if_neg (by simp[h1]),if_neg (by simp[h2]),if_neg]
 rcases h3 with h|h<;>simp[h]
theorem YM (w:World) (o1 o2:Obj):Below w.heap.size w ((w.alloc o1).alloc o2):=((Below.refl _ _).alloc (Nat.le_refl _) _).alloc (by simp) _
theorem YN:(Tryz.prog.info? 67).map (fun i=>(i.zero,i.size,i.bytes))=some (some (.agg #[.int .i64 0,.int .i64 0,.string ⟨#[]⟩,.int .i64 0]),4,40):=by kernel_rfl
theorem ownsRow_below {w w1:World} {base:Nat} {e:TypeId} {size:Nat} {v:Value} {n:Nat} {xs:List Value} (h:w.ownsRow base e size v n xs) (hb:Below w.heap.size w w1):w1.ownsRow base e size v n xs:=by
 obtain⟨h1,h2⟩:=h
 refine⟨h1,?_⟩
 rcases h2 with h2|⟨g,cap,cur,hv,hbg,hg,rest⟩
 ·exact .inl h2
 ·have hlt:g<w.heap.size:=(Array.getElem?_eq_some_iff.1 hg).1
  exact .inr ⟨g,cap,cur,hv,hbg,by rw[hb.block g hlt];exact hg,rest⟩
def qP (s:ByteArray) (base:Nat) (e:Ending) (w':World):Prop:=
 match iE s with
 |.inl (k,i)=>e=.returned (.tuple #[.slice none 0 0,.agg #[.int .i64 k,.int .i64 i]])
 |.inr ts=>∃v,e=.returned (.tuple #[v,.agg #[.int .i64 0,.int .i64 0]])∧w'.ownsRow base 67 4 v ts.length ts.flatten
theorem yY (w:World) (c0 c1 c2 c3:Value) (t:TypeId):∀j u,[c0,c1,c2,c3][j]? =some u→(w.alloc (.cells #[c0,c1,c2,c3] t)).cell? ((⟨w.heap.size,0,none⟩:Addr).add j)=some u:=by
 intro j u hj
 match j,hj with
 |0,hj=>simp at hj;subst hj;simp[Addr.add]
 |1,hj=>simp at hj;subst hj;simp[Addr.add]
 |2,hj=>simp at hj;subst hj;simp[Addr.add]
 |3,hj=>simp at hj;subst hj;simp[Addr.add]
theorem yZ {a b n:Int} {t:ByteArray}:∀u∈[Value.int .i64 a,.int .i64 b,.string t,.int .i64 n],u.oneCell'=true:=by
 intro u hu
 simp at hu
 rcases hu with rfl|rfl|rfl|rfl<;>rfl
theorem ze {w wr:World} (h:Below (w.heap.size+1) (w.alloc (.cells #[.int .i64 0,.int .i64 0] 31)) wr):
 wr.cell? ⟨w.heap.size,0,none⟩=some (.int .i64 0)∧wr.cell? ⟨w.heap.size,1,none⟩=some (.int .i64 0)∧wr.frozen? ⟨w.heap.size,0,none⟩=false∧wr.frozen? ⟨w.heap.size,1,none⟩=false:=by
 refine⟨?_,?_,?_,?_⟩
 ·rw[h.cell (p:=⟨w.heap.size,0,none⟩) (by simp)];simp
 ·rw[h.cell (p:=⟨w.heap.size,1,none⟩) (by simp)];simp
 ·rw[h.frozen (p:=⟨w.heap.size,0,none⟩) (by simp)];simp
 ·rw[h.frozen (p:=⟨w.heap.size,1,none⟩) (by simp)];simp
theorem H8 (acc:List (List Value)) (c:List Value):(acc++[c]).flatten=acc.flatten++c:=by simp
structure Tk where
 len:Nat
 kind:Nat→Nat
 pos:Nat→Nat
 text:Nat→ByteArray
 num:Nat→Nat
def wu (s:ByteArray):Prop:=s.toList≠[]∧(58:UInt8)∉s.toList
structure Tk.Good (t:Tk):Prop where
 name:∀j,t.kind j=2→wu (t.text j)
 some_:0<t.len
 few:t.len≤6001
 last:t.kind (t.len - 1)=0
 qg:∀j,t.pos j≤6000
 nK:∀j,(t.text j).size≤6000
 Rp:∀j,t.num j≤9223372036854775807
structure Row (w:World) (tb:Nat) (t:Tk):Prop where
 lt:tb<w.heap.size
 c0:∀j,j<t.len→w.cell? ⟨tb,j*4,none⟩=some (.int .i64 (t.kind j))
 c1:∀j,j<t.len→w.cell? ⟨tb,j*4+1,none⟩=some (.int .i64 (t.pos j))
 c2:∀j,j<t.len→w.cell? ⟨tb,j*4+2,none⟩=some (.string (t.text j))
 c3:∀j,j<t.len→w.cell? ⟨tb,j*4+3,none⟩=some (.int .i64 (t.num j))
structure Kp (B rb:Nat) (w w':World):Prop where
 os:w'.os=w.os
 tape:w'.tape=w.tape
 output:w'.output=w.output
 size:w.heap.size≤w'.heap.size
 block:∀k,k<B→k≠rb→w'.heap[k]? =w.heap[k]?
theorem Kp.refl (B rb:Nat) (w:World):Kp B rb w w:=⟨rfl,rfl,rfl,Nat.le_refl _,fun _ _ _=>rfl⟩
theorem Kp.trans {B rb:Nat} {a b c:World} (h:Kp B rb a b) (k:Kp B rb b c):Kp B rb a c:=
 ⟨k.os.trans h.os,k.tape.trans h.tape,k.output.trans h.output,Nat.le_trans h.size k.size,fun i hi hn=>(k.block i hi hn).trans (h.block i hi hn)⟩
theorem Kp.mono {B B' rb:Nat} {w w':World} (h:Kp B rb w w') (hB:B'≤B):Kp B' rb w w':=⟨h.os,h.tape,h.output,h.size,fun k hk hn=>h.block k (Nat.lt_of_lt_of_le hk hB) hn⟩
theorem Kp.of_below {B rb:Nat} {w w':World} (h:Below B w w'):Kp B rb w w':=⟨h.os,h.tape,h.output,h.size,fun k hk _=>h.block k hk⟩
theorem Kp.alloc {B rb:Nat} {a w:World} (h:Kp B rb a w) (hB:B≤w.heap.size) (o:Obj):Kp B rb a (w.alloc o):=
 h.trans ⟨rfl,rfl,rfl,by simp,fun k hk _=>Below.heap_alloc _ _ _ (by omega)⟩
theorem Kp.setCell {B rb:Nat} {a w:World} (h:Kp B rb a w) {p:Addr} (hp:B≤p.block∨p.block=rb) (u:Value):Kp B rb a (w.setCell p u):=
 h.trans ⟨rfl,rfl,rfl,by simp[World.setCell],fun k hk hn=>Below.heap_setCell _ _ _ _ (by omega)⟩
theorem Kp.grown {B rb:Nat} {a w w':World} {row:Option Nat} (h:Kp B rb a w) (hg:w.grownBy w' row) (hB:B≤w.heap.size) (hr:∀k,row=some k→B≤k):Kp B rb a w':=
 h.trans ⟨hg.os,hg.tape,hg.output,hg.size,fun k hk _=>hg.block k (by omega) (fun e=>by have:=hr k e.symm;omega)⟩
theorem Row.of_cells {w w':World} {tb:Nat} {t:Tk} (h:Row w tb t) (hs:w'.heap[tb]? =w.heap[tb]?):Row w' tb t:=by
 have e:∀o,w'.cell? ⟨tb,o,none⟩=w.cell? ⟨tb,o,none⟩:=fun o=>World.cell?_of_block (w:=w) hs
 have hl:tb<w'.heap.size:=by
  have h1:w.heap[tb]? =some (w.heap[tb]'h.lt):=Array.getElem?_eq_getElem h.lt
  rw[h1] at hs
  exact(Array.getElem?_eq_some_iff.1 hs).1
 exact⟨hl,fun j hj=>by rw[e];exact h.c0 j hj,fun j hj=>by rw[e];exact h.c1 j hj,fun j hj=>by rw[e];exact h.c2 j hj,fun j hj=>by rw[e];exact h.c3 j hj⟩
section
variable {w:World} {rb tb cap i:Nat} {t:Tk} {k a:Int}
end
def au (t:Tk) (i:Nat) (k:Int) (ahead:Nat) (s:ByteArray):Bool:=
 (k==0)&&(decide (i+ahead<t.len)&&((t.kind (i+ahead)==5||t.kind (i+ahead)==3)&&((t.text (i+ahead)).toList==s.toList)))
def bf (t:Tk) (i:Nat) (k:Int) (ahead:Nat) (q:Int):Bool:=
 (k==0)&&(decide (i+ahead<t.len)&&((t.kind (i+ahead):Int)==q))
abbrev ah (kind pos n m:Int) (name:ByteArray) (kids:Value):Array Value:=#[.int .i64 kind,.int .i64 pos,.int .i64 n,.int .i64 m,.string name,kids,.int .i64 0,.int .i64 0,.slice none 0 0,.slice none 0 0,.slice none 0 0]
theorem Nc {W w1:World} (hb:Below W.heap.size W w1):(∀b o,b<W.heap.size→w1.cell? ⟨b,o,none⟩=W.cell? ⟨b,o,none⟩)∧(∀b o,b<W.heap.size→w1.frozen? ⟨b,o,none⟩=W.frozen? ⟨b,o,none⟩):=
 ⟨fun b o h=>hb.cell (p:=⟨b,o,none⟩) h,fun b o h=>hb.frozen (p:=⟨b,o,none⟩) h⟩
abbrev bC (w:World) (b:Nat) (c0 c1 c2 c3 c4 c5 c6 c7 c8 c9 c10:Value):World:=(((((((((((w.setCell ⟨b,0,none⟩ c0).setCell ⟨b,1,none⟩ c1).setCell ⟨b,2,none⟩ c2).setCell ⟨b,3,none⟩ c3).setCell ⟨b,4,none⟩ c4).setCell ⟨b,5,none⟩ c5).setCell ⟨b,6,none⟩ c6).setCell ⟨b,7,none⟩ c7).setCell ⟨b,8,none⟩ c8).setCell ⟨b,9,none⟩ c9).setCell ⟨b,10,none⟩ c10)
theorem Below.bC {B:Nat} {a w:World} (h:Below B a w) {b:Nat} (hb:B≤b) (c0 c1 c2 c3 c4 c5 c6 c7 c8 c9 c10:Value):Below B a (bC w b c0 c1 c2 c3 c4 c5 c6 c7 c8 c9 c10):=
 (Below.setCell (p:=⟨b,10,none⟩) (Below.setCell (p:=⟨b,9,none⟩) (Below.setCell (p:=⟨b,8,none⟩) (Below.setCell (p:=⟨b,7,none⟩) (Below.setCell (p:=⟨b,6,none⟩) (Below.setCell (p:=⟨b,5,none⟩) (Below.setCell (p:=⟨b,4,none⟩) (Below.setCell (p:=⟨b,3,none⟩) (Below.setCell (p:=⟨b,2,none⟩) (Below.setCell (p:=⟨b,1,none⟩) (Below.setCell (p:=⟨b,0,none⟩) h hb _) hb _) hb _) hb _) hb _) hb _) hb _) hb _) hb _) hb _) hb _)
theorem CO (x0 x1 x2 x3:Value) (w:World):(Instr.field 67 (.agg #[x0,x1,x2,x3]) 1).run Tryz.prog w=.ok x1 w:=by kernel_rfl
theorem eX (x0 x1 x2 x3:Value) (w:World):(Instr.field 67 (.agg #[x0,x1,x2,x3]) 2).run Tryz.prog w=.ok x2 w:=by kernel_rfl
theorem CP (x0 x1 x2 x3:Value) (w:World):(Instr.field 67 (.agg #[x0,x1,x2,x3]) 3).run Tryz.prog w=.ok x3 w:=by kernel_rfl
theorem iY {t:Tk} {i:Nat} {k:Int} {s:ByteArray} (hg:t.Good) (hi:i<t.len) (h:au t i k 0 s=true):k=0∧i+1<t.len:=by
 simp[au] at h
 obtain⟨h1,h2,h3,h4⟩:=h
 refine⟨h1,?_⟩
 rcases Nat.lt_or_ge (i+1) t.len with h5|h5
 ·exact h5
 ·have e:i=t.len - 1:=by omega
  have hl:=hg.last
  rw[←e] at hl
  omega
structure Bw (t:Tk) (s:ByteArray) (i:Nat) (k:Int) (b:Bool) (i':Nat):Prop where
 jE:b=au t i k 0 s
 yes:b=true→i'=i+1∧k=0
 no:b=false→i'=i
theorem Bw.le {t:Tk} {s:ByteArray} {i:Nat} {k:Int} {b:Bool} {i':Nat} (h:Bw t s i k b i'):i≤i':=by
 cases b
 ·rw[h.no rfl];exact Nat.le_refl _
 ·rw[(h.yes rfl).1];omega
def tq:List (List UInt8)→List UInt8
 |[]=>[]
 |[n]=>n
 |n::m::r=>n++58::58::tq (m::r)
def pU (most:Nat) (s:ByteArray):Prop:=∃ns,ns≠[]∧ns.length≤most∧(∀n∈ns,n≠[]∧(58:UInt8)∉n)∧s.toList=tq ns
def nN (x:Int):Prop:=13≤x∧x≤18
def dB (x:Int):Prop:=(13≤x∧x≤54)∧x≠35∧x≠45∧x≠47
theorem nN.no {x:Int} (h:nN x):dB x:=by unfold nN at h;unfold dB;omega
def lab (kind n m:Int) (name:ByteArray) (len:Nat):Int:=
 if kind=8 then(if(len:Int)=n+3 then(if m=0 then 208 else 108) else(if m=0 then 8 else 308))
 else if kind=4 then(if name.size=0 then 104 else 4)
 else if kind=5 then(if name.size=0 then(if m=0 then 5 else -5) else 105)
 else if kind=12 then(if name.size=0 then -12 else 12)
 else if 100≤kind then -1 else kind
def lenOf:Value→Nat
 |.slice _ l _=>l
 |_=>0
def nM:List Value→Int
 |.int _ k::_::.int _ n::.int _ m::.string s::kv::_=>lab k n m s (lenOf kv)
 |_=> -1
structure Gr (kind n m:Int) (name:ByteArray) (ks:List Int):Prop where
 prog:kind=0→∀x∈ks,x=1
 mod:kind=1→∀x∈ks,x=2∨x=3∨x=6∨x=7∨x=108∨x=208
 use:kind=2→m=0∧pU 2 name
 data:kind=3→(0≤m∧m≤3)∧(n=0∧ks=[9,104]∨n=1∧∃vs,ks=9::vs∧∀x∈vs,x=4)
 variant:kind=4→∀x∈ks,x=if name.size=0 then 105 else 5
 field:kind=5→∃x,ks=[x]∧nN x
 ac4:kind=6→(m=0∨m=1)∧∀x∈ks,x=8
 impl:kind=7→pU 2 name∧∃x fs,ks=9::x::fs∧nN x∧∀f∈fs,f=208
 fn:kind=8→(m=0∨m=1)∧∃ps x rest,ks=9::(ps++x::rest)∧(ps.length:Int)=n∧(∀p∈ps,p=12)∧nN x∧rest.length≤1∧∀y∈rest,dB y
 aeG:kind=9→ks.length≤6100∧∀x∈ks,x=10∨x=11
 ac5:kind=10→∀x∈ks,x=19
 ac6:kind=11→∀x∈ks,x=19∨x=18
 param:kind=12→∃x,ks=[x]∧nN x
 tuple:kind=15→∀x∈ks,nN x
 ref:kind=16→(n=0∨n=1)∧∃x,ks=[x]∧nN x
 YO:kind=17→ks≠[]∧∀x∈ks,nN x
 path:kind=18→pU 2 name∧∃ls ts,ks=ls++ts∧(∀x∈ls,x=19)∧∀x∈ts,nN x
 Ng:kind=20→0≤n∧n≤9223372036854775807
 Uf:kind=21∨kind=52→n=0∨n=1
 all:kind=22∨kind=42∨kind=53→∀x∈ks,dB x
 YP:kind=23∨kind=54→pU 3 name∧∀x∈ks,dB x
 call:kind=24→ks≠[]∧∀x∈ks,dB x
 part:kind=25→(0≤n∧n≤9223372036854775807)∧∃x,ks=[x]∧dB x
 one:kind=26∨kind=28∨kind=37∨kind=45→∃x,ks=[x]∧dB x
 lend:kind=27→(n=0∨n=1)∧∃x,ks=[x]∧dB x
 two:(29≤kind∧kind≤32)∨kind=35∨kind=36→∃x y,ks=[x,y]∧dB x∧dB y
 eif:kind=33→∃x y zs,ks=x::y::zs∧zs.length≤1∧dB x∧dB y∧∀z∈zs,dB z
 ematch:kind=34→∃x zs,ks=x::zs∧dB x∧∀z∈zs,z=35
 gives:kind=40→ks.length≤1∧∀x∈ks,dB x
 ET:kind=43→(∀x∈ks,dB x)∧(n=0∧ks.length=0∨(n=1∨n=2)∧ks.length=1∨n=3∧ks.length=2)
 make:kind=44→pU 2 name∧∃ts zs,ks=ts++zs∧(ts.length:Int)=m∧(∀x∈ts,dB x)∧∀z∈zs,z=45
 Rq:kind=46→∃cs ps x y,ks=cs++(ps++[x,y])∧(cs.length:Int)=m∧(∀c∈cs,c=47)∧(∀p∈ps,p=12)∧dB x∧dB y
 spawn:kind=48→∃cs x y,ks=cs++[x,y]∧(cs.length:Int)=m∧(∀c∈cs,c=47)∧dB x∧dB y
 Nh:kind=51→ -9223372036854775808≤n∧n≤9223372036854775807
def xV (kind:Int):Prop:=kind=13∨kind=14∨kind=19∨kind=38∨kind=39∨kind=41∨kind=47∨kind=49∨kind=50
theorem Gr.free {kind n m:Int} {name:ByteArray} {ks:List Int} (h:xV kind):Gr kind n m name ks:=by
 constructor<;>(intro e;exact absurd h (by unfold xV;omega))
def isNode (S:Nat→Prop) (g:Prop):Nat→World→List Value→Prop
 |0,_,_=>False
 |h+1,w,cs=>∃(kind pos n m:Int) (name:ByteArray) (kv:Value) (vs:List (List Value)),cs=(ah kind pos n m name kv).toList∧name.size≤20000∧(0≤pos∧pos≤7000)∧vs.length≤20000∧
  w.ownsRow 0 28 11 kv vs.length vs.flatten∧(∀b,kv.ownBlock=some b→S b)∧(∀x∈vs,isNode S g h w x)∧(g→Gr kind n m name (vs.map nM))
def Same (S:Nat→Prop) (w w':World):Prop:=∀b,S b→b<w.heap.size→w'.heap[b]? =w.heap[b]?
theorem Same.mono {S S':Nat→Prop} {w w':World} (h:Same S w w') (hs:∀b,S' b→S b):Same S' w w':=fun b hb hl=>h b (hs b hb) hl
theorem Same.trans {S:Nat→Prop} {a b c:World} (h:Same S a b) (h':Same S b c) (hs:a.heap.size≤b.heap.size):Same S a c:=fun x hx hl=>(h' x hx (by omega)).trans (h x hx hl)
theorem Same.alloc (S:Nat→Prop) (w:World) (o:Obj):Same S w (w.alloc o):=fun _ _ hl=>Below.heap_alloc _ _ _ hl
theorem Same.setCell {S:Nat→Prop} (w:World) (p:Addr) (u:Value) (h:¬S p.block):Same S w (w.setCell p u):=fun _ hb _=>Below.heap_setCell _ _ _ _ (fun e=>h (e▸hb))
theorem Same.kp {S:Nat→Prop} {rb:Nat} {w w':World} (h:Kp w.heap.size rb w w') (hr:¬S rb):Same S w w':=fun b hb hl=>h.block b hl (fun e=>hr (e▸hb))
theorem Same.below {S:Nat→Prop} {w w':World} (h:Below w.heap.size w w'):Same S w w':=fun b _ hl=>h.block b hl
theorem Same.grown {S:Nat→Prop} {w w':World} {row:Option Nat} (h:w.grownBy w' row) (hr:∀b,row=some b→¬S b):Same S w w':=fun b hb hl=>h.block b hl (fun e=>hr b e.symm hb)
theorem jY {w w':World} {base:Nat} {e:TypeId} {size:Nat} {v:Value} {n:Nat} {xs:List Value} (h:w.ownsRow base e size v n xs) (hs:∀b,v.ownBlock=some b→b<w.heap.size→w'.heap[b]? =w.heap[b]?):w'.ownsRow base e size v n xs:=by
 obtain⟨h1,h2⟩:=h
 refine⟨h1,?_⟩
 rcases h2 with h2|⟨g,cap,cur,hv,hbg,hg,rest⟩
 ·exact .inl h2
 ·have hlt:g<w.heap.size:=(Array.getElem?_eq_some_iff.1 hg).1
  exact .inr ⟨g,cap,cur,hv,hbg,by rw[hs g (by rw[hv];rfl) hlt];exact hg,rest⟩
theorem Ah {w:World} {base base':Nat} {e:TypeId} {size:Nat} {v:Value} {n:Nat} {xs:List Value} (h:w.ownsRow base e size v n xs) (hb:base'≤base):w.ownsRow base' e size v n xs:=by
 obtain⟨h1,h2⟩:=h
 refine⟨h1,?_⟩
 rcases h2 with h2|⟨g,cap,cur,hv,hbg,rest⟩
 ·exact .inl h2
 ·exact .inr ⟨g,cap,cur,hv,by omega,rest⟩
theorem isNode.frame {S:Nat→Prop} {g:Prop} {w w':World} (hs:Same S w w'):(h:Nat)→(cs:List Value)→isNode S g h w cs→isNode S g h w' cs
 |0,_,hn=>hn
 |h+1,_,⟨kind,pos,n,m,name,kv,vs,h1,h2,h3,h3',h4,h5,h6,h7⟩=>
  ⟨kind,pos,n,m,name,kv,vs,h1,h2,h3,h3',jY h4 (fun b hb hl=>hs b (h5 b hb) hl),h5,fun x hx=>isNode.frame hs h x (h6 x hx),h7⟩
theorem isNode.up {S:Nat→Prop} {g:Prop} {w:World}:(h:Nat)→(cs:List Value)→isNode S g h w cs→isNode S g (h+1) w cs
 |0,_,hn=>absurd hn (fun h=>h)
 |h+1,_,⟨kind,pos,n,m,name,kv,vs,h1,h2,h3,h3',h4,h5,h6,h7⟩=>
  ⟨kind,pos,n,m,name,kv,vs,h1,h2,h3,h3',h4,h5,fun x hx=>isNode.up h x (h6 x hx),h7⟩
theorem isNode.le {S:Nat→Prop} {g:Prop} {w:World} {cs:List Value} {h:Nat} (hn:isNode S g h w cs):(h':Nat)→h≤h'→isNode S g h' w cs
 |0,hl=>by
  obtain rfl:h=0:=by omega
  exact hn
 |h'+1,hl=>by
  rcases Nat.lt_or_ge h' h with hlt|hge
  ·obtain rfl:h=h'+1:=by omega
   exact hn
  ·exact isNode.up h' cs (isNode.le hn h' hge)
theorem isNode.weaken {S S':Nat→Prop} {g g':Prop} {w:World} (hs:∀b,S b→S' b) (hg:g'→g):(h:Nat)→(cs:List Value)→isNode S g h w cs→isNode S' g' h w cs
 |0,_,hn=>hn
 |h+1,_,⟨kind,pos,n,m,name,kv,vs,h1,h2,h3,h3',h4,h5,h6,h7⟩=>
  ⟨kind,pos,n,m,name,kv,vs,h1,h2,h3,h3',h4,fun b hb=>hs b (h5 b hb),fun x hx=>isNode.weaken hs hg h x (h6 x hx),fun hg'=>h7 (hg hg')⟩
def kJ (base:Nat) (g:Prop) (w:World) (cs:List Value):Prop:=∃h,isNode (fun b=>base≤b) g h w cs
structure Kids (base:Nat) (g:Prop) (w:World) (kv:Value) (vs:List (List Value)):Prop where
 row:w.ownsRow base 28 11 kv vs.length vs.flatten
 all:∃h,∀x∈vs,isNode (fun b=>base≤b∧kv.ownBlock≠some b) g h w x
theorem KU (w:World) (kind pos n m:Int) (name:ByteArray) (kv:Value) (t:TypeId):∀j u,(ah kind pos n m name kv).toList[j]? =some u→(w.alloc (.cells (ah kind pos n m name kv) t)).cell? ((⟨w.heap.size,0,none⟩:Addr).add j)=some u:=by
 intro j u hj
 have hadd:(⟨w.heap.size,0,none⟩:Addr).add j=⟨w.heap.size,j,none⟩:=by unfold Addr.add;split<;>simp_all
 rw[hadd,cell_of_row _ w.heap.size j (ah kind pos n m name kv) t (0,0) (heap_alloc_new w _)]
 simpa using hj
theorem KV {kind pos n m:Int} {name:ByteArray} {ko:Option Addr} {kl kc:Nat}:∀u∈(ah kind pos n m name (.slice ko kl kc)).toList,u.oneCell'=true:=by
 intro u hu
 simp at hu
 rcases hu with rfl|rfl|rfl|rfl|rfl|rfl|rfl|rfl|rfl|rfl<;>rfl
theorem OB:(Tryz.prog.info? 28).map (fun i=>(i.zero,i.size,i.bytes))=some (some (.agg (ah 0 0 0 0 ⟨#[]⟩ (.slice none 0 0))),11,160):=by kernel_rfl
end Go.Proofs.YtdplogkmkgekdaaGreatDoor
