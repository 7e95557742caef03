import Derived.Test.YtcnnibahjmekdaaGreatProg
import Derived.WalkKit
import Derived.WalkLawsBesides
import Derived.WalkSpells
import Derived.Outline
import Derived.Laws.RangeAny
import Derived.Lib.Strings
import Derived.Deep.QuietTactic
import Derived.BigQuiet
import Derived.RegionTactic
import Derived.BigRegion
import Derived.Maps.AppendAt
import Derived.Deep.LoopGhost
namespace Go.Proofs.YtcnnibahjmekdaaGreat
open Go.RowKit
open Value renaming slice→J
open List renaming length→O
open Option renaming none→I
open World renaming heap→U
open _root_.Array renaming size→E
open Obj renaming cells→Ob
set_option linter.all false
set_option maxRecDepth 100000
set_option maxHeartbeats 0
theorem gE {a:Type} {xs:Array a} {i:Nat} {b:a} (h:xs[i]? =some b):∃h:i<xs.size,xs[i]=b:=Array.getElem?_eq_some_iff.1 h
theorem gS {a:Type} {xs:List a} {i:Nat} {b:a} (h:xs[i]? =some b):∃h:i<O xs,xs[i]=b:=List.getElem?_eq_some_iff.1 h
theorem gG {a:Type} {l:List a} {i:Nat} (h:i<O l):l[i]? =some l[i]:=List.getElem?_eq_getElem h
theorem mG {b:Type} {l:List b} {i:Nat} {a:b} (e:l[i]? =some a):a∈l:=List.mem_of_getElem? e
theorem lT {n m k:Nat}:n<=m->m<=k->n<=k:=Nat.le_trans
theorem sL {n m:Nat} (h:n<m):n<Nat.succ m:=Nat.lt_succ_of_lt h
theorem lR (n:Nat):n<=n:=Nat.le_refl n
theorem zL (n:Nat):0<=n:=Nat.zero_le n
theorem oM {p:Prop} (h:p:=by omega):p:=h
theorem dC {p:Prop} (h:p:=by decide):p:=h
theorem sQ {p:Prop} (h:p:=by simp):p:=h
theorem rQ {p:Prop} (h:p:=by rfl):p:=h
theorem kQ {p:Prop} (h:p:=by kernel_rfl):p:=h
theorem sU {p q:Prop} (h:q) (k:q->p:=by intro h;simpa using h):p:=k h
theorem oH {p q:Prop} (h:q) (k:q->p:=by intro h;omega):p:=k h
theorem oI {p q r:Prop} (g:q) (h:r) (k:q->r->p:=by intro g h;omega):p:=k g h
theorem Q {b:Sort _} {a:b}:a=a:=rfl
def rY:List ByteArray:=[⟨#[109,111,100]⟩,⟨#[117,115,101]⟩,⟨#[112,117,98]⟩,⟨#[99,111,112,121]⟩,⟨#[115,116,114,117,99,116]⟩,⟨#[101,110,117,109]⟩,⟨#[116,114,97,105,116]⟩,⟨#[105,109,112,108]⟩,⟨#[102,111,114]⟩,⟨#[102,110]⟩,⟨#[108,101,116]⟩,⟨#[109,117,116]⟩,⟨#[105,102]⟩,⟨#[101,108,115,101]⟩,⟨#[109,97,116,99,104]⟩,⟨#[119,104,105,108,101]⟩,⟨#[108,111,111,112]⟩,⟨#[98,114,101,97,107]⟩,⟨#[110,101,120,116]⟩,⟨#[114,101,116,117,114,110]⟩,⟨#[112,97,110,105,99]⟩,⟨#[109,97,107,101]⟩,⟨#[114,101,102]⟩,⟨#[111,110,99,101]⟩,⟨#[115,112,97,119,110]⟩,⟨#[116,114,117,101]⟩,⟨#[102,97,108,115,101]⟩,⟨#[105,110,116]⟩,⟨#[98,111,111,108]⟩]
def isWord (l:List UInt8):Bool:=rY.any λb=>l==b.toList
theorem oU (s:ByteArray) (w:World):Calls Tryz.prog 62 #[.string s] w λa b=>a=.returned (.bool (isWord s.toList))/\b=w:=by
 go_enter Tryz.func62,Tryz.ntmps62
 go_wp2_with fail
 all_goals first|(exfalso;simp_all;done)|(go_ret;refine⟨?_,Q⟩;simp[isWord,rY, *])
section
variable{s:ByteArray} {acc:List (List Value)} {b i:Nat}
def cX (s:ByteArray) (i:Nat):Nat:=if h:i<s.size then(s[i]'h).toNat else 0
theorem dJ (h:i<s.size):cX s i=(s[i]'h).toNat:=by simp[cX,h]
theorem mV (h:¬i<s.size):cX s i=0:=by simp[cX,h]
def cr (c:Nat):Bool:=decide (48<=c/\c<=57)
def eN (c:Nat):Bool:=decide (97<=c/\c<=122\/65<=c/\c<=90)
def bK (c:Nat):Bool:=eN c||cr c||c==95
def iG (c:Nat):Bool:=c !=10
def fH (c:Nat):Bool:=c==32||c==9||c==10
def gH (p:Nat->Bool) (s:ByteArray):Nat->Nat->Nat
 |0,i=>i
 |f+1,i=>if p (cX s i) then gH p s f (i+1) else i
def az (p:Nat->Bool) (s:ByteArray) (i:Nat):Nat:=gH p s (s.size - i) i
theorem fC {p:Nat->Bool} (h:i<s.size) (a:p (cX s i)=true):az p s i=az p s (i+1):=by
 unfold az;rw[show s.size - i=(s.size - (i+1))+1 by omega,gH,if_pos a]
theorem jw {p:Nat->Bool} (a:p (cX s i)=false):az p s i=i:=by
 unfold az
 cases s.size - i with
 |zero=>rfl
 |succ c=>rw[gH,if_neg (by simp[a])]
theorem iV {p:Nat->Bool} (h:¬i<s.size):az p s i=i:=by
 unfold az;rw[show s.size - i=0 by omega,gH]
theorem nP (p:Nat->Bool) (s:ByteArray):∀(a i:Nat),i<=gH p s a i
 |0,_=>lR _
 |a+1,i=>by
  rw[gH];split
  ·have:=nP p s a (i+1);omega
  ·exact lR _
theorem nO (p:Nat->Bool) (s:ByteArray):∀(a i:Nat),gH p s a i<=i+a
 |0,_=>lR _
 |a+1,i=>by
  rw[gH];split
  ·have:=nO p s a (i+1);omega
  ·omega
theorem lU (p:Nat->Bool) (s:ByteArray):∀(c i a:Nat),i<=a->a<gH p s c i->p (cX s a)=true
 |0,i,a,h1,h2=>by rw[gH] at h2;omega
 |c+1,i,a,h1,h2=>by
  rw[gH] at h2;split at h2
  ·rename_i d
   by_cases e:a=i
   ·subst e;exact d
   ·exact lU p s c (i+1) a oM h2
  ·omega
theorem jx (p:Nat->Bool) (s:ByteArray) (i:Nat):i<=az p s i:=nP p s _ i
theorem eD (p:Nat->Bool) (s:ByteArray) (i:Nat) (a:i<=s.size):az p s i<=s.size:=by
 have:=nO p s (s.size - i) i;unfold az;omega
theorem o8 (p:Nat->Bool) (s:ByteArray) (i j:Nat) (a:i<=j) (hl:j<az p s i):p (cX s j)=true:=lU p s _ i j a hl
theorem eW {p:Nat->Bool} (h:i<s.size) (a:p (cX s i)=true):i<az p s i:=by
 rw[fC h a];have:=jx p s (i+1);omega
def cI (s:ByteArray) (i:Nat):Nat->Nat
 |0=>0
 |k+1=>cI s i k*10+(cX s (i+k) - 48)
structure One where
 err:Nat
 kind:Nat
 stop:Nat
 n:Nat
def dZ:List (Nat × Nat):=[(58,58),(45,62),(61,62),(61,61),(33,61),(60,61),(62,61),(38,38),(124,124)]
def jj:List Nat:=[40,41,123,125,91,93,60,62,44,59,58,46,61,43,45,42,47,37,38,33,95]
def aP (s:ByteArray) (i:Nat):Nat:=if dZ.contains (cX s i,cX s (i+1)) then 2 else if jj.contains (cX s i) then 1 else 0
def one (s:ByteArray) (i:Nat):One:=
 if cr (cX s i) then
  (if cI s i (az cr s i - i)<=9223372036854775807 then⟨0,1,az cr s i,cI s i (az cr s i - i)⟩ else⟨3,0,0,0⟩)
 else if eN (cX s i) then
  (if isWord (s.extract i (az bK s i)).toList then⟨0,3,az bK s i,0⟩ else if 20<az bK s i - i then⟨3,0,0,0⟩ else⟨0,2,az bK s i,0⟩)
 else if cX s i==39&&eN (cX s (i+1)) then
  (if 21<az bK s (i+1) - i then⟨3,0,0,0⟩ else⟨0,4,az bK s (i+1),0⟩)
 else if aP s i=0 then⟨2,0,0,0⟩ else⟨0,5,i+aP s i,0⟩
def cS (s:ByteArray) (i:Nat) (o:One):ByteArray:=if o.kind=1 then⟨#[]⟩ else s.extract i o.stop
def fp (kind:Nat) (i:Nat) (t:ByteArray) (n:Nat):List Value:=[.int .i64 kind,.int .i64 i,.string t,.int .i64 n]
def fZ (s:ByteArray) (i:Nat):List Value:=fp (one s i).kind i (cS s i (one s i)) (one s i).n
abbrev pN:=Sum (Nat × Nat) (List (List Value))
def lexFrom:Nat->ByteArray->Nat->List (List Value)->pN
 |0,s,_,acc=>.inr (acc++[fp 0 s.size ⟨#[]⟩ 0])
 |b+1,s,i,acc=>
  if i<s.size then
   if fH (cX s i) then lexFrom b s (i+1) acc
   else if cX s i=35 then lexFrom b s (az iG s i) acc
   else if(one s i).err≠0 then .inl ((one s i).err,i)
   else lexFrom b s (one s i).stop (acc++[fZ s i])
  else .inr (acc++[fp 0 s.size ⟨#[]⟩ 0])
def eM (s:ByteArray):pN:=if 6000<s.size then .inl (1,0) else lexFrom s.size s 0 []
theorem gR (c:i<s.size):i+aP s i<=s.size:=by
 unfold aP;split
 ·rename_i h
  by_cases a:i+1<s.size
  ·omega
  ·rw[mV a] at h;simp[dZ] at h
 ·split<;>omega
theorem kM (d:i<s.size) (h:(one s i).err=0):i<(one s i).stop/\(one s i).stop<=s.size:=by
 unfold one at h⊢;split
 ·rename_i e
  have c:=eW d e;have a:=eD cr s i oM;split at h<;>split at h<;>simp_all
 ·split
  ·rename_i e
   have c:i<az bK s i:=eW d (by simp[bK,e]);have a:=eD bK s i oM;split
   ·exact⟨c,a⟩
   ·split
    ·simp_all
    ·exact⟨c,a⟩
  ·split
   ·have a:=eD bK s (i+1) oM;have c:=jx bK s (i+1);split
    ·simp_all
    ·exact⟨by simp;omega,a⟩
   ·split
    ·simp_all
    ·have:=gR d;exact⟨by simp;omega,this⟩
theorem gj (a:i<s.size) (c:fH (cX s i)=true):lexFrom (b+1) s i acc=lexFrom b s (i+1) acc:=by
 rw[lexFrom,if_pos a,if_pos c]
theorem j3 (c:i<s.size) (a:cX s i=35):lexFrom (b+1) s i acc=lexFrom b s (az iG s i) acc:=by
 rw[lexFrom,if_pos c,if_neg (by simp[fH,a]),if_pos a]
theorem mO (a:i<s.size) (c:fH (cX s i)=false) (d:cX s i≠35) (e:(one s i).err≠0):lexFrom (b+1) s i acc=.inl ((one s i).err,i):=by
 rw[lexFrom,if_pos a,if_neg (by simp[c]),if_neg d,if_pos e]
theorem mM (a:i<s.size) (c:fH (cX s i)=false) (d:cX s i≠35) (e:(one s i).err=0):lexFrom (b+1) s i acc=lexFrom b s (one s i).stop (acc++[fZ s i]):=by
 rw[lexFrom,if_pos a,if_neg (by simp[c]),if_neg d,if_neg (by simp[e])]
theorem mN (a:¬i<s.size):lexFrom b s i acc=.inr (acc++[fp 0 s.size ⟨#[]⟩ 0]):=by
 cases b with
 |zero=>rfl
 |succ b=>rw[lexFrom,if_neg a]
end
section
variable{s:ByteArray} {i:Nat}
theorem eh {a b:Bool} (h:a=b):Ending.returned (.bool a)=.returned (.bool b):=by rw[h]
theorem dW {k:IntKind} {a b:Int} (h:a=b):Ending.returned (.int k a)=.returned (.int k b):=by rw[h]
theorem cM (c:Nat) (w:World):Calls Tryz.prog 58 #[.int .u8 c] w λa b=>a=.returned (.bool (cr c))/\b=w:=by
 by_cases d:(48:Int)<=c
 ·by_cases e:(c:Int)<=57
  ·go_enter Tryz.func58,Tryz.ntmps58
   go_wp2
   go_ret;exact⟨eh (by simp[cr];omega),Q⟩
  ·go_enter Tryz.func58,Tryz.ntmps58
   go_wp2
   go_ret;exact⟨eh (by simp[cr];omega),Q⟩
 ·go_enter Tryz.func58,Tryz.ntmps58
  go_wp2
  go_ret;exact⟨eh (by simp[cr];omega),Q⟩
theorem cR (c:Nat) (w:World):Calls Tryz.prog 60 #[.int .u8 c] w λd e=>d=.returned (.bool (eN c))/\e=w:=by
 rcases(show(97:Int)<=c/\(c:Int)<=122\/(122:Int)<c\/(65:Int)<=c/\(c:Int)<=90\/(90:Int)<c/\(c:Int)<97\/(c:Int)<65 by omega) with⟨a,b⟩|a|⟨a,b⟩|⟨a,b⟩|a
 all_goals
  go_enter Tryz.func60,Tryz.ntmps60
  go_wp2
  go_ret;exact⟨eh (by first|(rw[show eN c=true by simp only[eN,decide_eq_true_eq];omega];done)|(rw[show eN c=false by simp only[eN,decide_eq_false_iff_not];omega];first|done|rfl|(simp;omega)|trace_state)),Q⟩
theorem wE (s:ByteArray) (i:Nat) (w:World) (t:s.size<=6000) (q:i<=s.size):Calls Tryz.prog 61 #[.string s,.int .i64 i] w λc d=>c=.returned (.int .i64 (az bK s i))/\d=w:=by
 go_enter Tryz.func61,Tryz.ntmps61
 go_wp2_with fail;go_loop [1] (λj=>∃a:Nat,a<=s.size/\j=.int .i64 a/\az bK s a=az bK s i) (λj=>s.size - (intOf j).toNat)
 case atStart=>exact⟨i,q,Q,Q⟩
 case round=>
  obtain⟨a,u,rfl,k⟩:=hrel;have e:Hid (az bK s a=az bK s i):=k;clear k;by_cases b:a<s.size
  ·have l:=dJ b;have f:Hid (cX s a=(s[a]'b).toNat):=l;clear l
   cases m:eN (s[a]'b).toNat
   ·cases n:cr (s[a]'b).toNat
    ·cases o:((((s[a]'b).toNat:Int))==95)
     ·go_wp2_with (first|(go_at_call 60;refine(cR _ _).mono ?_;rintro c d ⟨rfl,rfl⟩)|(go_at_call 58;refine(cM _ _).mono ?_;rintro c d ⟨rfl,rfl⟩))
      go_ret;exact⟨dW (by have:=e.out;rw[jw (by rw[f.out];simp at o;simp[bK,m,n];omega)] at this;rw[this]),Q⟩
     ·have p:(s[a]'b).toNat=95:=by simp at o;omega
      have r:Hid ((s[a]'b).toNat=95):=p;clear p;go_wp2_with (first|(go_at_call 60;refine(cR _ _).mono ?_;rintro c d ⟨rfl,rfl⟩)|(go_at_call 58;refine(cM _ _).mono ?_;rintro c d ⟨rfl,rfl⟩))
      go_round
      case rel=>exact⟨a+1,oM,by go_num,by rw[<-e.out];exact(fC b (by rw[f.out];simp[bK,r.out])).symm⟩
      case measure=>simp[intOf];omega
    ·go_wp2_with (first|(go_at_call 60;refine(cR _ _).mono ?_;rintro c d ⟨rfl,rfl⟩)|(go_at_call 58;refine(cM _ _).mono ?_;rintro c d ⟨rfl,rfl⟩))
     go_round
     case rel=>exact⟨a+1,oM,by go_num,by rw[<-e.out];exact(fC b (by rw[f.out];simp[bK,n])).symm⟩
     case measure=>simp[intOf];omega
   ·go_wp2_with (first|(go_at_call 60;refine(cR _ _).mono ?_;rintro c d ⟨rfl,rfl⟩)|(go_at_call 58;refine(cM _ _).mono ?_;rintro c d ⟨rfl,rfl⟩))
    go_round
    case rel=>exact⟨a+1,oM,by go_num,by rw[<-e.out];exact(fC b (by rw[f.out];simp[bK,m])).symm⟩
    case measure=>simp[intOf];omega
  ·go_wp2
   go_ret;exact⟨dW (by have:=e.out;rw[iV b] at this;rw[this]),Q⟩
theorem tG (s:ByteArray) (i k:Nat) (h:i<=k):cI s i (k+1 - i)=cI s i (k - i)*10+(cX s k - 48):=by
 rw[show k+1 - i=(k - i)+1 by omega];show cI s i (k - i)*10+(cX s (i+(k - i)) - 48)=_;rw[show i+(k - i)=k by omega]
def mY (s:ByteArray) (i:Nat) (e:Ending):Prop:=
 ∃(n:Int) (big:Bool),e=.returned (.tuple #[.int .i64 n,.int .i64 (az cr s i),.bool big])/\
  (big=true->9223372036854775807<cI s i (az cr s i - i))/\(big=false->n=(cI s i (az cr s i - i):Nat)/\cI s i (az cr s i - i)<=9223372036854775807)
theorem tF (s:ByteArray) (i:Nat) (w:World) (B:s.size<=6000) (x:i<=s.size):
 Calls Tryz.prog 59 #[.string s,.int .i64 i] w λe j=>mY s i e/\j=w:=by
 go_enter Tryz.func59,Tryz.ntmps59
 go_wp2_with fail
 go_loop [1,7,8] (λm y z=>∃(a:Nat) (c:Nat) (d:Bool),i<=a/\a<=s.size/\c<=9223372036854775807/\m=.int .i64 a/\y=.int .i64 c/\z=.bool d/\az cr s a=az cr s i/\
  (d=true->9223372036854775807<cI s i (a - i))/\(d=false->c=cI s i (a - i))) (λm _ _=>s.size - (intOf m).toNat)
 case atStart=>exact⟨i,0,false,lR _,x,oM,Q,Q,Q,Q,sQ,by simp[cI]⟩
 case round=>
  obtain⟨a,c,d,A,C,n,rfl,rfl,rfl,q,r,t⟩:=hrel;have o:Hid (az cr s a=az cr s i):=q;have k:Hid (d=true->9223372036854775807<cI s i (a - i)):=r;have f:Hid (d=false->c=cI s i (a - i)):=t;clear q r t;by_cases b:a<s.size
  ·have u:Hid (cX s a=(s[a]'b).toNat):=dJ b
   cases l:cr (s[a]'b).toNat
   ·go_wp2_with (go_at_call 58;refine(cM _ _).mono ?_;rintro e j ⟨rfl,rfl⟩)
    go_ret3
    have e:az cr s i=a:=by rw[<-o.out];exact jw (by rw[u.out];exact l)
    refine⟨?_,Q⟩;unfold mY;rw[e];exact⟨c,d,Q,k.out,λh=>⟨by rw[f.out h],by rw[<-f.out h];exact n⟩⟩
   ·have D:(48:Int)<=((s[a]'b).toNat:Int):=by simp[cr] at l;omega
    have F:((s[a]'b).toNat:Int)<=57:=by simp[cr] at l;omega
    have p:Hid (cI s i (a+1 - i)=cI s i (a - i)*10+((s[a]'b).toNat - 48)):=by
     have:=tG s i a A;rw[dJ b] at this;exact this
    have v:Hid (az cr s (a+1)=az cr s i):=by
     have:=o.out;rw[fC b (by rw[u.out];exact l)] at this;exact this
    by_cases G:(9223372036854775807 - (((s[a]'b).toNat:Int) - 48))/10<(c:Int)
    ·go_wp2_with (go_at_call 58;refine(cM _ _).mono ?_;rintro e j ⟨rfl,rfl⟩)
     go_round
     case rel=>
      refine⟨a+1,c,true,oM,oM,n,by go_num,Q,Q,v.out,λ_=>?_,λh=>by cases h⟩;rw[p.out]
      cases d
      ·have:=f.out Q;rw[<-this];omega
      ·have:=k.out Q;omega
     case measure=>simp[intOf];omega
    ·go_wp2_with (go_at_call 58;refine(cM _ _).mono ?_;rintro e j ⟨rfl,rfl⟩)
     go_round
     case rel=>
      refine⟨a+1,c*10+((s[a]'b).toNat - 48),d,oM,oM,oM,by go_num,by go_num,Q,v.out,λh=>?_,λh=>?_⟩
      ·rw[p.out];have:=k.out h;omega
      ·rw[p.out,<-f.out h]
     case measure=>simp[intOf];omega
  ·go_wp2
   go_ret3
   have e:az cr s i=a:=by rw[<-o.out];exact iV b
   refine⟨?_,Q⟩;unfold mY;rw[e];exact⟨c,d,Q,k.out,λh=>⟨by rw[f.out h],by rw[<-f.out h];exact n⟩⟩
theorem fR (h:i+1<s.size) (a b:UInt8):((s.extract i (i+2)).toList==[a,b])=((cX s i,cX s (i+1))==(a.toNat,b.toNat)):=by
 have c:(s.extract i (i+2)).toList=[s[i]'oM,s[i+1]'h]:=by
  rw[Lib.extract_toList,show i+2 - i=2 by omega];rw[List.drop_eq_getElem_cons (by simp;omega),List.drop_eq_getElem_cons (sU h)];rfl
 rw[c,dJ h,dJ (show i<s.size by omega),Bool.eq_iff_iff];simp[UInt8.toNat_inj]
theorem fu (h:i+1<s.size) (a b:UInt8) (hl:((s.extract i (i+2)).toList==[a,b])=true) (c:dZ.contains (a.toNat,b.toNat)=true):aP s i=2:=by
 rw[fR h] at hl;have d:(cX s i,cX s (i+1))=(a.toNat,b.toNat):=sU hl;unfold aP;rw[d,if_pos c]
theorem v7 (h:i+1<s.size) (a:((s.extract i (i+2)).toList==[58,58])=false) (b:((s.extract i (i+2)).toList==[45,62])=false) (c:((s.extract i (i+2)).toList==[61,62])=false) (d:((s.extract i (i+2)).toList==[61,61])=false) (e:((s.extract i (i+2)).toList==[33,61])=false) (f:((s.extract i (i+2)).toList==[60,61])=false) (j:((s.extract i (i+2)).toList==[62,61])=false) (k:((s.extract i (i+2)).toList==[38,38])=false) (l:((s.extract i (i+2)).toList==[124,124])=false):dZ.contains (cX s i,cX s (i+1))=false:=by
 rw[fR h] at a;rw[fR h] at b;rw[fR h] at c;rw[fR h] at d;rw[fR h] at e;rw[fR h] at f;rw[fR h] at j;rw[fR h] at k;rw[fR h] at l;simp only[dZ,List.contains,List.elem];simp only[UInt8.reduceToNat] at a b c d e f j k l;simp only[a,b,c,d,e,f,j,k,l]
theorem uQ (h:¬i+1<s.size):dZ.contains (cX s i,cX s (i+1))=false:=by
 rw[mV h];simp[dZ]
theorem pZ {c:Int} (h:dZ.contains (cX s i,cX s (i+1))=false) (a:i<s.size) (b:(((s[i]'a).toNat:Int)==c)=true) (d:jj.contains c.toNat=true):aP s i=1:=by
 have e:cX s i=c.toNat:=by rw[dJ a];simp at b;omega
 unfold aP;rw[h,e,if_neg sQ,if_pos d]
theorem kD (s:ByteArray) (i:Nat) (w:World) (k:s.size<=6000) (a:i<s.size) (d:dZ.contains (cX s i,cX s (i+1))=false)
 (hl:i+1<s.size->((s.extract i (i+2)).toList==[58,58])=false/\((s.extract i (i+2)).toList==[45,62])=false/\((s.extract i (i+2)).toList==[61,62])=false/\((s.extract i (i+2)).toList==[61,61])=false/\((s.extract i (i+2)).toList==[33,61])=false/\((s.extract i (i+2)).toList==[60,61])=false/\((s.extract i (i+2)).toList==[62,61])=false/\((s.extract i (i+2)).toList==[38,38])=false/\((s.extract i (i+2)).toList==[124,124])=false):
  Calls Tryz.prog 63 #[.string s,.int .i64 i] w λe f=>e=.returned (.int .i64 (aP s i))/\f=w:=by
  have b:Hid (dZ.contains (cX s i,cX s (i+1))=false):=d;clear d;by_cases j:i+1<s.size
  ·obtain⟨l,m,n,o,p,q,r,t,u⟩:=hl j;clear hl;go_enter Tryz.func63,Tryz.ntmps63
   go_wp2_with fail
   all_goals first|(exfalso;simp_all;done)|(go_ret;refine⟨dW ?_,Q⟩;first|(have c:=pZ b.out a ‹(((s[i]'a).toNat:Int)==_)=true› dC;rw[c];rfl)|(unfold aP;rw[b.out,if_neg sQ,if_neg (by rw[dJ a];simp_all [jj];omega)];rfl))
  ·clear hl;go_enter Tryz.func63,Tryz.ntmps63
   go_wp2_with fail
   all_goals first|(exfalso;simp_all;done)|(go_ret;refine⟨dW ?_,Q⟩;first|(have c:=pZ b.out a ‹(((s[i]'a).toNat:Int)==_)=true› dC;rw[c];rfl)|(unfold aP;rw[b.out,if_neg sQ,if_neg (by rw[dJ a];simp_all [jj];omega)];rfl))
theorem gT (s:ByteArray) (i:Nat) (w:World) (o:s.size<=6000) (p:i<s.size):
 Calls Tryz.prog 63 #[.string s,.int .i64 i] w λq r=>q=.returned (.int .i64 (aP s i))/\r=w:=by
 by_cases b:i+1<s.size
 ·cases c:((s.extract i (i+2)).toList==[58,58])
  ·cases d:((s.extract i (i+2)).toList==[45,62])
   ·cases e:((s.extract i (i+2)).toList==[61,62])
    ·cases f:((s.extract i (i+2)).toList==[61,61])
     ·cases j:((s.extract i (i+2)).toList==[33,61])
      ·cases k:((s.extract i (i+2)).toList==[60,61])
       ·cases l:((s.extract i (i+2)).toList==[62,61])
        ·cases m:((s.extract i (i+2)).toList==[38,38])
         ·cases n:((s.extract i (i+2)).toList==[124,124])
          ·exact kD s i w o p (v7 b c d e f j k l m n) (λ_=>⟨c,d,e,f,j,k,l,m,n⟩)
          ·have a:Hid (aP s i=2):=fu b _ _ n dC;go_enter Tryz.func63,Tryz.ntmps63
           go_wp2_with fail
           all_goals first|(exfalso;simp_all;done)|(go_ret;exact⟨dW (by rw[a.out];rfl),Q⟩)
         ·have a:Hid (aP s i=2):=fu b _ _ m dC;go_enter Tryz.func63,Tryz.ntmps63
          go_wp2_with fail
          all_goals first|(exfalso;simp_all;done)|(go_ret;exact⟨dW (by rw[a.out];rfl),Q⟩)
        ·have a:Hid (aP s i=2):=fu b _ _ l dC;go_enter Tryz.func63,Tryz.ntmps63
         go_wp2_with fail
         all_goals first|(exfalso;simp_all;done)|(go_ret;exact⟨dW (by rw[a.out];rfl),Q⟩)
       ·have a:Hid (aP s i=2):=fu b _ _ k dC;go_enter Tryz.func63,Tryz.ntmps63
        go_wp2_with fail
        all_goals first|(exfalso;simp_all;done)|(go_ret;exact⟨dW (by rw[a.out];rfl),Q⟩)
      ·have a:Hid (aP s i=2):=fu b _ _ j dC;go_enter Tryz.func63,Tryz.ntmps63
       go_wp2_with fail
       all_goals first|(exfalso;simp_all;done)|(go_ret;exact⟨dW (by rw[a.out];rfl),Q⟩)
     ·have a:Hid (aP s i=2):=fu b _ _ f dC;go_enter Tryz.func63,Tryz.ntmps63
      go_wp2_with fail
      all_goals first|(exfalso;simp_all;done)|(go_ret;exact⟨dW (by rw[a.out];rfl),Q⟩)
    ·have a:Hid (aP s i=2):=fu b _ _ e dC;go_enter Tryz.func63,Tryz.ntmps63
     go_wp2_with fail
     all_goals first|(exfalso;simp_all;done)|(go_ret;exact⟨dW (by rw[a.out];rfl),Q⟩)
   ·have a:Hid (aP s i=2):=fu b _ _ d dC;go_enter Tryz.func63,Tryz.ntmps63
    go_wp2_with fail
    all_goals first|(exfalso;simp_all;done)|(go_ret;exact⟨dW (by rw[a.out];rfl),Q⟩)
  ·have a:Hid (aP s i=2):=fu b _ _ c dC;go_enter Tryz.func63,Tryz.ntmps63
   go_wp2_with fail
   all_goals first|(exfalso;simp_all;done)|(go_ret;exact⟨dW (by rw[a.out];rfl),Q⟩)
 ·exact kD s i w o p (uQ b) (λh=>absurd h b)
end
section
variable{p:Addr} {a k:Int} {B cap i rb tb:Nat} {w w':World}
structure Tk where
 len:Nat
 kind:Nat->Nat
 pos:Nat->Nat
 text:Nat->ByteArray
 num:Nat->Nat
def ig (s:ByteArray):Prop:=s.toList≠[]/\(58:UInt8)∉s.toList
structure Tk.Good (t:Tk):Prop where
 name:∀j,t.kind j=2->ig (t.text j)
 some_:0<t.len
 bB:t.len<=6001
 last:t.kind (t.len - 1)=0
 aO:∀j,t.pos j<=6000
 pQ:∀j,(t.text j).size<=6000
 xX:∀j,t.num j<=9223372036854775807
structure Row (w:World) (tb:Nat) (t:Tk):Prop where
 lt:tb<E (U w)
 c0:∀j,j<t.len->w.cell? ⟨tb,j*4,I⟩=some (.int .i64 (t.kind j))
 c1:∀j,j<t.len->w.cell? ⟨tb,j*4+1,I⟩=some (.int .i64 (t.pos j))
 c2:∀j,j<t.len->w.cell? ⟨tb,j*4+2,I⟩=some (.string (t.text j))
 c3:∀j,j<t.len->w.cell? ⟨tb,j*4+3,I⟩=some (.int .i64 (t.num j))
structure Rd (w:World) (rb tb cap:Nat) (t:Tk) (i:Nat) (k a:Int):Prop where
 eG:w.heap[rb]? =some (Ob #[J (some ⟨tb,0,I⟩) t.len cap,.int .i64 i,.int .i64 k,.int .i64 a] 80 (0,0))
 row:Row w tb t
 ne:rb≠tb
 ar:t.Good
 lt:i<t.len
structure Kp (B rb:Nat) (w w':World):Prop where
 os:w'.os=w.os
 tape:w'.tape=w.tape
 output:w'.output=w.output
 size:E (U w)<=E (U w')
 block:∀k,k<B->k≠rb->w'.heap[k]? =w.heap[k]?
theorem Kp.refl (B rb:Nat) (w:World):Kp B rb w w:=⟨Q,Q,Q,lR _,λ_ _ _=>rfl⟩
theorem Kp.trans {a b c:World} (h:Kp B rb a b) (k:Kp B rb b c):Kp B rb a c:=
 ⟨k.os.trans h.os,k.tape.trans h.tape,k.output.trans h.output,lT h.size k.size,λi d e=>(k.block i d e).trans (h.block i d e)⟩
theorem Kp.mono {b:Nat} (h:Kp B rb w w') (c:b<=B):Kp b rb w w':=⟨h.os,h.tape,h.output,h.size,λk d e=>h.block k (Nat.lt_of_lt_of_le d c) e⟩
theorem Kp.aq (h:Below B w w'):Kp B rb w w':=⟨h.os,h.tape,h.output,h.size,λk b _=>h.block k b⟩
theorem Kp.drew {a:World} (h:Kp B rb a w):Kp B rb a w.drew:=⟨h.os,h.tape,h.output,h.size,h.block⟩
theorem Kp.setCell {a:World} (h:Kp B rb a w) (b:B<=p.block\/p.block=rb) (u:Value):Kp B rb a (w.setCell p u):=
 h.trans ⟨Q,Q,Q,by simp[World.setCell],λk c d=>Below.heap_setCell _ _ _ _ oM⟩
theorem Kp.grown {a:World} {c:Option Nat} (h:Kp B rb a w) (b:w.grownBy w' c) (f:B<=E (U w)) (d:∀k,c=some k->B<=k):Kp B rb a w':=
 h.trans ⟨b.os,b.tape,b.output,b.size,λk j _=>b.block k oM (λe=>oH (d k e.symm))⟩
theorem Kp.cell (h:Kp B rb w w') (b:p.block<B) (c:p.block≠rb):w'.cell? p=w.cell? p:=World.cell?_of_block (w:=w) (h.block p.block b c)
theorem Row.fF {t:Tk} (h:Row w tb t) (e:w'.heap[tb]? =w.heap[tb]?):Row w' tb t:=by
 have d:∀f,w'.cell? ⟨tb,f,I⟩=w.cell? ⟨tb,f,I⟩:=λf=>World.cell?_of_block (w:=w) e
 have j:tb<E (U w'):=by
  have l:w.heap[tb]? =some (w.heap[tb]'h.lt):=Array.getElem?_eq_getElem h.lt;rw[l] at e;exact(gE e).1
 exact⟨j,λb c=>by rw[d];exact h.c0 b c,λb c=>by rw[d];exact h.c1 b c,λb c=>by rw[d];exact h.c2 b c,λb c=>by rw[d];exact h.c3 b c⟩
section
variable{w:World} {rb tb cap i:Nat} {t:Tk} {k a:Int}
theorem Rd.l (h:Rd w rb tb cap t i k a):rb<E (U w):=(gE h.eG).1
theorem Rd.r0 (h:Rd w rb tb cap t i k a):w.cell? ⟨rb,0,I⟩=some (J (some ⟨tb,0,I⟩) t.len cap):=by rw[cell_of_row w rb 0 _ 80 (0,0) h.eG];rfl
theorem Rd.r1 (h:Rd w rb tb cap t i k a):w.cell? ⟨rb,1,I⟩=some (.int .i64 i):=by rw[cell_of_row w rb 1 _ 80 (0,0) h.eG];rfl
theorem Rd.r2 (h:Rd w rb tb cap t i k a):w.cell? ⟨rb,2,I⟩=some (.int .i64 k):=by rw[cell_of_row w rb 2 _ 80 (0,0) h.eG];rfl
theorem Rd.r3 (h:Rd w rb tb cap t i k a):w.cell? ⟨rb,3,I⟩=some (.int .i64 a):=by rw[cell_of_row w rb 3 _ 80 (0,0) h.eG];rfl
theorem Rd.fz (h:Rd w rb tb cap t i k a) (j:Nat):w.frozen? ⟨rb,j,I⟩=false:=frozen_of_row w rb j _ 80 h.eG
end
theorem jA {t:Tk} (h:Rd w rb tb cap t i k a):
 Calls Tryz.prog 21 #[.pointer (some ⟨rb,0,I⟩)] w λb w'=>b=.returned (.bool (k==0))/\w'=w:=by
 have c:=h.r2;go_enter Tryz.func21,Tryz.ntmps21
 go_wp2
 go_ret;exact⟨Q,Q⟩
theorem dP {t:Tk} (h:Rd w rb tb cap t i k a):
 Calls Tryz.prog 38 #[.pointer (some ⟨rb,0,I⟩)] w λb w'=>b=.returned (.agg #[.int .i64 (t.kind i),.int .i64 (t.pos i),.string (t.text i),.int .i64 (t.num i)])/\Below (E (U w)) w w':=by
 have c:=h.r0;have d:=h.r1;have e:=h.l;have f:=h.row.lt;have j:=h.row.c0 i h.lt;have l:=h.row.c1 i h.lt;have m:=h.row.c2 i h.lt;have n:=h.row.c3 i h.lt;have o:(i:Int)<(t.len:Int):=oH h.lt;go_enter Tryz.func38,Tryz.ntmps38
 go_wp2_with fail;go_region;go_wp2_with fail;exact bodyPost_ret (v:=.agg #[.int .i64 (t.kind i),.int .i64 (t.pos i),.string (t.text i),.int .i64 (t.num i)]) (by simp[results,Tryz.results38,go_sem]) Q ⟨Q,((Below.refl _ _).alloc (lR _) _).drew⟩
theorem Rd.below {t:Tk} (h:Rd w rb tb cap t i k a) (b:Below (E (U w)) w w'):Rd w' rb tb cap t i k a:=
 ⟨by rw[b.block rb h.l];exact h.eG,h.row.fF (b.block tb h.row.lt),h.ne,h.ar,h.lt⟩
def bW (t:Tk) (i:Nat) (k:Int) (ahead:Nat) (s:ByteArray):Bool:=
 (k==0)&&(decide (i+ahead<t.len)&&((t.kind (i+ahead)==5||t.kind (i+ahead)==3)&&((t.text (i+ahead)).toList==s.toList)))
def cq (t:Tk) (i:Nat) (k:Int) (ahead:Nat) (q:Int):Bool:=
 (k==0)&&(decide (i+ahead<t.len)&&((t.kind (i+ahead):Int)==q))
theorem Rd.drewN {t:Tk} (h:Rd w rb tb cap t i k a) (n:Nat):Rd (w.drewN n) rb tb cap t i k a:=
 ⟨h.eG,h.row.fF Q,h.ne,h.ar,h.lt⟩
theorem below_drewN (w:World) (n:Nat):Below (E (U w)) w (w.drewN n):=⟨Q,Q,Q,lR _,λ_ _=>rfl⟩
theorem bH {t:Tk} (h:Rd w rb tb cap t i k a) (b:Nat) (m:b<=2) (q:Int):
 Calls Tryz.prog 22 #[.pointer (some ⟨rb,0,I⟩),.int .i64 b,.int .i64 q] w λf w'=>f=.returned (.bool (cq t i k b q))/\Below (E (U w)) w w':=by
 have n:=h.r0;have o:=h.r1;have r:=h.l;have s:=h.row.lt;have u:(i:Int)<(t.len:Int):=oH h.lt;have v:(t.len:Int)<=6001:=oH h.ar.bB;have c:∀d,Calls Tryz.prog 21 #[.pointer (some ⟨rb,0,I⟩)] (w.drewN d) λf w'=>f=.returned (.bool (k==0))/\w'=w.drewN d:=λd=>jA (h.drewN d)
 cases e:(k==0)<;>rw[e] at c
 ·go_enter Tryz.func22,Tryz.ntmps22
  go_wp2_with fail;go_quiet ((go_at_call 21;exact Calls.quiet_of_same (c _)))
  go_wp2_with fail;go_ret;exact⟨eh (by unfold cq;rw[e];rfl),below_drewN _ _⟩
 ·by_cases j:i+b<t.len
  ·have l:(i:Int)+(b:Int)<(t.len:Int):=oM;have x:=h.row.c0 (i+b) j;go_enter Tryz.func22,Tryz.ntmps22
   go_wp2_with fail;go_quiet ((go_at_call 21;exact Calls.quiet_of_same (c _)))
   go_wp2_with fail;go_ret;exact⟨eh (by unfold cq;rw[e];simp[j]),below_drewN _ _⟩
  ·have l:decide ((i:Int)+(b:Int)<(t.len:Int))=false:=by simp;omega
   go_enter Tryz.func22,Tryz.ntmps22
   go_wp2_with fail;go_quiet ((go_at_call 21;exact Calls.quiet_of_same (c _)))
   go_wp2_with fail;go_ret;exact⟨eh (by unfold cq;rw[e];simp[j]),below_drewN _ _⟩
theorem aW {t:Tk} (h:Rd w rb tb cap t i k a) (b:Nat) (o:b<=2) (s:ByteArray):
 Calls Tryz.prog 41 #[.pointer (some ⟨rb,0,I⟩),.int .i64 b,.string s] w λl w'=>l=.returned (.bool (bW t i k b s))/\Below (E (U w)) w w':=by
 have q:=h.r0;have r:=h.r1;have u:=h.l;have v:=h.row.lt;have x:(i:Int)<(t.len:Int):=oH h.lt;have y:(t.len:Int)<=6001:=oH h.ar.bB;have e:∀f,Calls Tryz.prog 21 #[.pointer (some ⟨rb,0,I⟩)] (w.drewN f) λl w'=>l=.returned (.bool (k==0))/\w'=w.drewN f:=λf=>jA (h.drewN f)
 cases j:(k==0)<;>rw[j] at e
 ·go_enter Tryz.func41,Tryz.ntmps41
  go_wp2_with fail;go_quiet ((go_at_call 21;exact Calls.quiet_of_same (e _)))
  go_wp2_with fail;go_ret;exact⟨eh (by unfold bW;rw[j];rfl),below_drewN _ _⟩
 ·by_cases d:i+b<t.len
  ·have n:(i:Int)+(b:Int)<(t.len:Int):=oM;have z:decide ((t.len:Int)<=(i:Int)+(b:Int))=false:=by simp;omega
   have A:IntKind.i64.wrap ((i:Int)+(b:Int))=((i+b:Nat):Int):=by rw[IntKind.wrap_i64];omega
   have C:((i+b:Nat):Int)<(t.len:Int):=oM;go_enter Tryz.func41,Tryz.ntmps41
   go_wp2_with fail;go_quiet ((go_at_call 21;exact Calls.quiet_of_same (e _)))
   rename_i nq
   have c:=h.drewN nq;have m:=below_drewN w nq;generalize w.drewN nq=D at c m⊢;have F:=c.r0;have G:=c.r1;have H:=c.l;have K:=c.row.lt;have L:=c.row.c0 (i+b) d;have M:=c.row.c1 (i+b) d;have N:=c.row.c2 (i+b) d;have P:=c.row.c3 (i+b) d;go_wp2_with fail;go_region;go_wp2_with fail
   all_goals
    go_ret;refine⟨eh ?_,(m.alloc m.size _).drew⟩;unfold bW;rw[j,decide_eq_true d];first|(rw[show(t.kind (i+b)==5||t.kind (i+b)==3)=true by simp;omega];simp;done)|(rw[show(t.kind (i+b)==5||t.kind (i+b)==3)=false by simp;omega];simp;done)
  ·have n:decide ((t.len:Int)<=(i:Int)+(b:Int))=true:=by simp;omega
   go_enter Tryz.func41,Tryz.ntmps41
   go_wp2_with fail;go_quiet ((go_at_call 21;exact Calls.quiet_of_same (e _)))
   go_wp2_with fail;go_ret;exact⟨eh (by unfold bW;rw[j];simp[d]),below_drewN _ _⟩
abbrev ae (kind pos n m:Int) (name:ByteArray) (kids:Value):Array Value:=#[.int .i64 kind,.int .i64 pos,.int .i64 n,.int .i64 m,.string name,kids,.int .i64 0,.int .i64 0,J I 0 0,J I 0 0,J I 0 0]
theorem yI {W d:World} (e:Below (E (U W)) W d):(∀b c,b<E (U W)->d.cell? ⟨b,c,I⟩=W.cell? ⟨b,c,I⟩)/\(∀b c,b<E (U W)->d.frozen? ⟨b,c,I⟩=W.frozen? ⟨b,c,I⟩):=
 ⟨λb c h=>e.cell (p:=⟨b,c,I⟩) h,λb c h=>e.frozen (p:=⟨b,c,I⟩) h⟩
theorem Rd.alloc {t:Tk} (h:Rd w rb tb cap t i k a) (o:Obj):Rd (w.alloc o) rb tb cap t i k a:=h.below ((Below.refl _ _).alloc (lR _) o)
theorem Rd.drew {t:Tk} (h:Rd w rb tb cap t i k a):Rd w.drew rb tb cap t i k a:=h.below (Below.refl _ _).drew
abbrev bA (w:World) (b:Nat) (c0 c1 c2 c3 c4 c5 c6 c7 c8 c9 c10:Value):World:=(((((((((((w.setCell ⟨b,0,I⟩ c0).setCell ⟨b,1,I⟩ c1).setCell ⟨b,2,I⟩ c2).setCell ⟨b,3,I⟩ c3).setCell ⟨b,4,I⟩ c4).setCell ⟨b,5,I⟩ c5).setCell ⟨b,6,I⟩ c6).setCell ⟨b,7,I⟩ c7).setCell ⟨b,8,I⟩ c8).setCell ⟨b,9,I⟩ c9).setCell ⟨b,10,I⟩ c10)
theorem Below.bA {a:World} (h:Below B a w) {b:Nat} (c:B<=b) (c0 c1 c2 c3 d e f j l m n:Value):Below B a (bA w b c0 c1 c2 c3 d e f j l m n):=
 (Below.setCell (p:=⟨b,10,I⟩) (Below.setCell (p:=⟨b,9,I⟩) (Below.setCell (p:=⟨b,8,I⟩) (Below.setCell (p:=⟨b,7,I⟩) (Below.setCell (p:=⟨b,6,I⟩) (Below.setCell (p:=⟨b,5,I⟩) (Below.setCell (p:=⟨b,4,I⟩) (Below.setCell (p:=⟨b,3,I⟩) (Below.setCell (p:=⟨b,2,I⟩) (Below.setCell (p:=⟨b,1,I⟩) (Below.setCell (p:=⟨b,0,I⟩) h c _) c _) c _) c _) c _) c _) c _) c _) c _) c _) c _)
theorem uc (c b d e:Value) (w:World):(Instr.field 103 (.agg #[c,b,d,e]) 1).run Tryz.prog w=.ok b w:=by kernel_rfl
theorem cE (c d b e:Value) (w:World):(Instr.field 103 (.agg #[c,d,b,e]) 2).run Tryz.prog w=.ok b w:=by kernel_rfl
theorem er (c d e b:Value) (w:World):(Instr.field 103 (.agg #[c,d,e,b]) 3).run Tryz.prog w=.ok b w:=by kernel_rfl
theorem dK (c d e f b j l m n o q:Value) (w:World):(Instr.field 46 (.agg #[c,d,e,f,b,j,l,m,n,o,q]) 4).run Tryz.prog w=.ok b w:=by kernel_rfl
theorem aE {t:Tk} (h:Rd w rb tb cap t i k a) (q:Int):
 Calls Tryz.prog 20 #[.pointer (some ⟨rb,0,I⟩),.int .i64 q] w λc w'=>c=.returned (.agg (ae q (t.pos i) 0 0 ⟨#[]⟩ (J I 0 0)))/\Below (E (U w)) w w':=by
 have f:=h.l;have j:=uc;go_enter Tryz.func20,Tryz.ntmps20
 go_wp2_with (go_at_call 38;refine(dP (h.alloc _)).mono ?_;rintro c d ⟨rfl,b⟩;obtain⟨e,l⟩:=yI b;have m:E (U w)<E (U d):=(by have:=b.size;simp at this;omega))
 exact bodyPost_ret (v:=.agg (ae q (t.pos i) 0 0 ⟨#[]⟩ (J I 0 0))) (by simp[results,Tryz.results20,go_sem,e]) Q ⟨Q,Below.bA (((Below.refl _ _).alloc (lR _) _).trans (b.mono sQ)) (lR _) _ _ _ _ _ _ _ _ _ _ _⟩
theorem Rd.uZ {t:Tk} (h:Rd w rb tb cap t i k a) {i':Nat} (b:i'<t.len):Rd (w.setCell ⟨rb,1,I⟩ (.int .i64 i')) rb tb cap t i' k a:=by
 refine⟨?_,h.row.fF (Below.heap_setCell _ _ _ _ (λc=>h.ne c.symm)),h.ne,h.ar,b⟩;rw[heap_setCell_same w rb 1 _ 80 _ h.eG];rfl
theorem Rd.zc {t:Tk} (h:Rd w rb tb cap t i k a) (k' c:Int):Rd ((w.setCell ⟨rb,2,I⟩ (.int .i64 k')).setCell ⟨rb,3,I⟩ (.int .i64 c)) rb tb cap t i k' c:=by
 have d:(w.setCell ⟨rb,2,I⟩ (.int .i64 k')).heap[rb]? =some (Ob #[J (some ⟨tb,0,I⟩) t.len cap,.int .i64 i,.int .i64 k',.int .i64 a] 80 (0,0)):=by
  rw[heap_setCell_same w rb 2 _ 80 _ h.eG];rfl
 refine⟨?_,(h.row.fF (Below.heap_setCell _ _ _ _ (λb=>h.ne b.symm))).fF (Below.heap_setCell _ _ _ _ (λb=>h.ne b.symm)),h.ne,h.ar,h.lt⟩;rw[heap_setCell_same _ rb 3 _ 80 _ d];rfl
theorem ir {t:Tk} (h:Rd w rb tb cap t i k a):
 Calls Tryz.prog 64 #[.pointer (some ⟨rb,0,I⟩)] w λb w'=>b=.returned (.tuple #[])/\(∃c d,c≠0/\Rd w' rb tb cap t i c d)/\Kp (E (U w)) rb w w':=by
 have j:=h.r0;have l:=h.r1;have m:=h.r2;have n:=h.r3;have o:=h.l;have q:=h.row.lt;have r:=h.fz 2;have s:=h.fz 3;have u:=h.ne;have v:=h.row.c1 i h.lt;have x:(i:Int)<(t.len:Int):=oH h.lt
 cases e:(k==0)
 ·go_enter Tryz.func64,Tryz.ntmps64
  go_wp2_with (go_at_call 21;refine(jA h).mono ?_;rintro b f ⟨rfl,rfl⟩)
  go_end0;exact⟨Q,⟨k,a,sU e,h⟩,Kp.refl _ _ _⟩
 ·go_enter Tryz.func64,Tryz.ntmps64
  go_wp2_with (go_at_call 21;refine(jA h).mono ?_;rintro b f ⟨rfl,rfl⟩)
  go_region;go_end0;exact⟨Q,⟨4,t.pos i,dC,(h.zc 4 (t.pos i)).drew⟩,((Kp.setCell (p:=⟨rb,3,I⟩) (Kp.setCell (p:=⟨rb,2,I⟩) (Kp.refl _ _ _) (.inr Q) _) (.inr Q) _)).drew⟩
end
abbrev VV:Type:=List (List Value)
abbrev OA:Type:=Option Addr
abbrev vN (x:Int):Value:=.int .i64 x
abbrev aS (b:Nat):Option Addr:=some ⟨b,0,I⟩
abbrev cl (w:World) (b o:Nat):Option Value:=w.cell? ⟨b,o,I⟩
abbrev Ce (w:World) (b:Nat) (c:Array Value):Prop:=∀o,w.cell? ⟨b,o,I⟩=c[o]?
abbrev nC (k p n m:Int) (s:ByteArray) (o:Option Addr) (l c:Nat):Array Value:=ae k p n m s (J o l c)
section
variable{s:ByteArray} {a k:Int} {cap i rb tb:Nat} {t:Tk} {w:World}
theorem dI (c:t.Good) (j:i<t.len) (h:bW t i k 0 s=true):k=0/\i+1<t.len:=by
 simp[bW] at h;obtain⟨d,l,m,n⟩:=h;refine⟨d,?_⟩;rcases Nat.lt_or_ge (i+1) t.len with b|b
 ·exact b
 ·have e:i=t.len - 1:=oM;have f:=c.last;rw[<-e] at f;omega
theorem ij {q:Int} (e:t.Good) (m:i<t.len) (f:q≠0) (h:cq t i k 0 q=true):k=0/\i+1<t.len/\(t.kind i:Int)=q:=by
 simp[cq] at h;obtain⟨j,n,b⟩:=h;refine⟨j,?_,b⟩;rcases Nat.lt_or_ge (i+1) t.len with c|c
 ·exact c
 ·have l:i=t.len - 1:=oM;have d:=e.last;rw[<-l] at d;rw[d] at b;exact absurd b.symm f
structure Nx (w:World) (rb tb cap:Nat) (t:Tk) (i:Nat) (k:Int) (must:Prop) (w':World) (i':Nat) (k' a':Int):Prop where
 rd:Rd w' rb tb cap t i' k' a'
 kp:Kp (E (U w)) rb w w'
 le:i<=i'
 ok:k'=0->k=0
 go:must->k'=0->i<i'
structure oK (t:Tk) (s:ByteArray) (i:Nat) (k:Int) (b:Bool) (i':Nat):Prop where
 zP:b=bW t i k 0 s
 yes:b=true->i'=i+1/\k=0
 no:b=false->i'=i
theorem oK.le {b:Bool} {i':Nat} (h:oK t s i k b i'):i<=i':=by
 cases b
 ·rw[h.no rfl];exact lR _
 ·rw[(h.yes Q).1];omega
theorem aR (h:Rd w rb tb cap t i k a) (s:ByteArray):
 Calls Tryz.prog 42 #[.pointer (aS rb),.string s] w λd j=>∃l m,d=.returned (.bool l)/\oK t s i k l m/\Rd j rb tb cap t m k a/\Kp (E (U w)) rb w j:=by
 have u:(i:Int)<(t.len:Int):=oH h.lt;have v:(t.len:Int)<=6001:=oH h.ar.bB
 cases e:bW t i k 0 s
 ·have f:Hid (bW t i k 0 s=false):=e;go_enter Tryz.func42,Tryz.ntmps42
  go_wp2_with (go_at_call 41;refine(aW h 0 oM s).mono ?_;rintro d o ⟨rfl,b⟩)
  go_ret;exact⟨false,i,Q,⟨f.out.symm,sQ,λ_=>rfl⟩,h.below b,Kp.aq b⟩
 ·have f:Hid (bW t i k 0 s=true):=e;obtain⟨n,q⟩:=dI h.ar h.lt e;have r:Hid (k=0):=n;clear n;go_enter Tryz.func42,Tryz.ntmps42
  go_wp2_with (go_at_call 41;refine(aW h 0 oM s).mono ?_;rintro d o ⟨rfl,b⟩;have c:=h.below b;have x:=c.r1;have y:=c.l;have z:=c.fz 1)
  go_ret;refine⟨true,i+1,Q,⟨f.out.symm,λ_=>⟨Q,r.out⟩,sQ⟩,?_,?_⟩
  ·exact c.uZ q
  ·exact Kp.setCell (p:=⟨rb,1,I⟩) (Kp.aq b) (.inr Q) _
theorem aH (h:Rd w rb tb cap t i k a) (s:ByteArray):
 Calls Tryz.prog 39 #[.pointer (aS rb),.string s] w λb m=>b=.returned (.tuple #[])/\∃n o p,Nx w rb tb cap t i k True m n o p:=by
 go_enter Tryz.func39,Tryz.ntmps39
 go_wp2_with (first|(go_at_call 42;refine(aR h s).mono ?_;rintro b z ⟨d,e,rfl,f,j,c⟩)|(go_at_call 64;refine(ir j).mono ?_;rintro b A ⟨rfl,⟨q,r,l,u⟩,v⟩))
 ·go_end0;exact⟨Q,e,q,r,u,c.trans (v.mono c.size),f.le,λb=>absurd b l,λ_ b=>absurd b l⟩
 ·go_end0;have x:d=true:=sU ‹(!d)=false›;obtain⟨B,y⟩:=f.yes x;exact⟨Q,e,k,a,j,c,oM,λ_=>y,λ_ _=>by omega⟩
theorem cJ (h:Rd w rb tb cap t i k a):
 Calls Tryz.prog 40 #[.pointer (aS rb)] w λb n=>∃s,b=.returned (.string s)/\s.size<=6000/\∃o j q,Nx w rb tb cap t i k True n o j q/\(j=0->ig s):=by
 have D:(i:Int)<(t.len:Int):=oH h.lt;have F:(t.len:Int)<=6001:=oH h.ar.bB;have G:=cE
 cases e:cq t i k 0 2
 ·have r:Hid (cq t i k 0 2=false):=e;go_enter Tryz.func40,Tryz.ntmps40
  go_wp2_with (first|(go_at_call 22;refine(bH h 0 oM 2).mono ?_;rintro b u ⟨rfl,c⟩)|(go_at_call 64;refine(ir (h.below c)).mono ?_;rintro b v ⟨rfl,⟨x,y,f,d⟩,z⟩))
  go_ret;exact⟨⟨#[]⟩,Q,dC,i,x,y,⟨d,(Kp.aq c).trans (z.mono c.size),lR _,λb=>absurd b f,λ_ b=>absurd b f⟩,λb=>absurd b f⟩
 ·have r:Hid (cq t i k 0 2=true):=e;obtain⟨l,A,B⟩:=ij h.ar h.lt dC e;have H:Hid (k=0):=l;have C:Hid (t.kind i=2):=by show t.kind i=2;omega
  clear l B;go_enter Tryz.func40,Tryz.ntmps40
  go_wp2_with (first|(go_at_call 22;refine(bH h 0 oM 2).mono ?_;rintro b u ⟨rfl,c⟩)|(go_at_call 38;refine(dP (h.below c)).mono ?_;rintro b v ⟨rfl,m⟩;have d:=(h.below c).below m;have K:=d.r1;have L:=d.l;have M:=d.fz 1))
  go_ret;exact⟨t.text i,Q,h.ar.pQ i,i+1,k,a,⟨d.uZ A,Kp.setCell (p:=⟨rb,1,I⟩) (Kp.aq (c.trans (m.mono c.size))) (.inr Q) _,oM,λb=>b,λ_ _=>by omega⟩,λ_=>h.ar.name i C.out⟩
end
section
variable{name:ByteArray} {a k kind m n pos:Int} {xs:List Value} {base cap i rb size tb:Nat} {S S':Nat->Prop} {g:Prop} {t:Tk} {e:TypeId} {vs:VV} {kv v:Value} {w w':World}
def fM:List (List UInt8)->List UInt8
 |[]=>[]
 |[n]=>n
 |n::m::r=>n++58::58::fM (m::r)
def cD (most:Nat) (s:ByteArray):Prop:=∃ns,ns≠[]/\O ns<=most/\(∀n∈ns,n≠[]/\(58:UInt8)∉n)/\s.toList=fM ns
def cH (x:Int):Prop:=13<=x/\x<=18
def fL (kind n:Int) (len:Nat):Int:=if kind=8/\(len:Int)=n+3 then 108 else if kind=108 then -108 else kind
def lenOf:Value->Nat
 |J _ l _=>l
 |_=>0
def aA:List Value->Int
 |.int _ k::_::.int _ n::_::_::kv::_=>fL k n (lenOf kv)
 |_=> -1
structure Gr (kind n:Int) (name:ByteArray) (ks:List Int):Prop where
 prog:kind=0->∀x∈ks,x=1
 mod:kind=1->∀x∈ks,x=2\/x=3\/x=6\/x=7\/x=108
 use:kind=2->cD 2 name/\¬cD 1 name
 data:kind=3->∃vs,ks=9::vs/\∀x∈vs,x=4
 variant:kind=4->∀x∈ks,x=5
 field:kind=5->∃x,ks=[x]/\cH x
 sy:kind=6->∀x∈ks,x=8
 impl:kind=7->cD 2 name/\∃x fs,ks=9::x::fs/\cH x/\∀f∈fs,f=108
 fn:kind=8->∃ps x rest,ks=9::(ps++x::rest)/\(O ps:Int)=n/\(∀p∈ps,p=12)/\cH x/\O rest<=1
 cL:kind=9->O ks<=6100/\∀x∈ks,x=10\/x=11
 yw:kind=10->∀x∈ks,x=19
 yv:kind=11->∀x∈ks,x=19\/x=18
 param:kind=12->∃x,ks=[x]/\cH x
 tuple:kind=15->∀x∈ks,cH x
 ref:kind=16->(n=0\/n=1)/\∃x,ks=[x]/\cH x
 zQ:kind=17->ks≠[]/\∀x∈ks,cH x
 path:kind=18->cD 2 name/\∃ls ts,ks=ls++ts/\(∀x∈ls,x=19)/\∀x∈ts,cH x
theorem Gr.free {ks:List Int} (h:20<=kind\/kind=13\/kind=14\/kind=19):Gr kind n name ks:=by
 constructor<;>(intro e;exact absurd h oM)
def isNode (S:Nat->Prop) (g:Prop):Nat->World->List Value->Prop
 |0,_,_=>False
 |h+1,w,cs=>∃(kind pos n m:Int) (name:ByteArray) (kv:Value) (vs:VV),cs=(ae kind pos n m name kv).toList/\name.size<=20000/\(0<=pos/\pos<=7000)/\O vs<=20000/\
  w.ownsRow 0 46 11 kv (O vs) vs.flatten/\(∀b,kv.ownBlock=some b->S b)/\(∀x∈vs,isNode S g h w x)/\(g->Gr kind n name (vs.map aA))
def al (S:Nat->Prop) (w w':World):Prop:=∀b,S b->b<E (U w)->w'.heap[b]? =w.heap[b]?
theorem al.mono (h:al S w w') (c:∀b,S' b->S b):al S' w w':=λb d f=>h b (c b d) f
theorem al.trans {a b c:World} (h:al S a b) (j:al S b c) (o:E (U a)<=E (U b)):al S a c:=λd f l=>(j d f oM).trans (h d f l)
theorem al.alloc (S:Nat->Prop) (w:World) (o:Obj):al S w (w.alloc o):=λ_ _ b=>Below.heap_alloc _ _ _ b
theorem al.setCell (w:World) (p:Addr) (u:Value) (h:¬S p.block):al S w (w.setCell p u):=λ_ b _=>Below.heap_setCell _ _ _ _ (λe=>h (e▸b))
theorem al.drew (S:Nat->Prop) (w:World):al S w w.drew:=λ_ _ _=>rfl
theorem al.kp (h:Kp (E (U w)) rb w w') (b:¬S rb):al S w w':=λc d f=>h.block c f (λe=>b (e▸d))
theorem al.below (h:Below (E (U w)) w w'):al S w w':=λb _ c=>h.block b c
theorem al.grown {c:Option Nat} (h:w.grownBy w' c) (d:∀b,c=some b->¬S b):al S w w':=λb f j=>h.block b j (λe=>d b e.symm f)
theorem ag {n:Nat} (h:w.ownsRow base e size v n xs) (d:∀b,v.ownBlock=some b->b<E (U w)->w'.heap[b]? =w.heap[b]?):w'.ownsRow base e size v n xs:=by
 obtain⟨f,c⟩:=h;refine⟨f,?_⟩;rcases c with c|⟨g,cap,cur,hv,hbg,hg,rest⟩
 ·exact .inl c
 ·have j:g<E (U w):=(gE hg).1;exact .inr ⟨g,cap,cur,hv,hbg,by rw[d g (by rw[hv];rfl) j];exact hg,rest⟩
theorem eL {c:Nat} {n:Nat} (h:w.ownsRow base e size v n xs) (f:c<=base):w.ownsRow c e size v n xs:=by
 obtain⟨d,b⟩:=h;refine⟨d,?_⟩;rcases b with b|⟨g,cap,cur,hv,hbg,rest⟩
 ·exact .inl b
 ·exact .inr ⟨g,cap,cur,hv,oM,rest⟩
theorem isNode.frame (b:al S w w'):(h:Nat)->(cs:List Value)->isNode S g h w cs->isNode S g h w' cs
 |0,_,hn=>hn
 |h+1,_,⟨kind,pos,n,m,name,kv,vs,h1,h2,h3,h3',h4,h5,h6,h7⟩=>
  ⟨kind,pos,n,m,name,kv,vs,h1,h2,h3,h3',ag h4 (λc f j=>b c (h5 c f) j),h5,λd l=>isNode.frame b h d (h6 d l),h7⟩
theorem isNode.up:(h:Nat)->(cs:List Value)->isNode S g h w cs->isNode S g (h+1) w cs
 |0,_,hn=>absurd hn (λh=>h)
 |h+1,_,⟨kind,pos,n,m,name,kv,vs,h1,h2,h3,h3',h4,h5,h6,h7⟩=>
  ⟨kind,pos,n,m,name,kv,vs,h1,h2,h3,h3',h4,h5,λb c=>isNode.up h b (h6 b c),h7⟩
theorem isNode.le {cs:List Value} {h:Nat} (b:isNode S g h w cs):(h':Nat)->h<=h'->isNode S g h' w cs
 |0,hl=>by
  obtain rfl:h=0:=oM;exact b
 |h'+1,hl=>by
  rcases Nat.lt_or_ge h' h with c|hge
  ·obtain rfl:h=h'+1:=oM;exact b
  ·exact isNode.up h' cs (isNode.le b h' hge)
theorem isNode.weaken {g':Prop} (c:∀b,S b->S' b) (d:g'->g):(h:Nat)->(cs:List Value)->isNode S g h w cs->isNode S' g' h w cs
 |0,_,hn=>hn
 |h+1,_,⟨kind,pos,n,m,name,kv,vs,h1,h2,h3,h3',h4,h5,h6,h7⟩=>
  ⟨kind,pos,n,m,name,kv,vs,h1,h2,h3,h3',h4,λb j=>c b (h5 b j),λf l=>isNode.weaken c d h f (h6 f l),λo=>h7 (d o)⟩
def eC (base:Nat) (g:Prop) (w:World) (cs:List Value):Prop:=∃h,isNode (λb=>base<=b) g h w cs
structure Kids (base:Nat) (g:Prop) (w:World) (kv:Value) (vs:VV):Prop where
 row:w.ownsRow base 46 11 kv (O vs) vs.flatten
 all:∃h,∀x∈vs,isNode (λb=>base<=b/\kv.ownBlock≠some b) g h w x
theorem Kids.same (h:Kids base g w kv vs) (d:al (λb=>base<=b) w w'):Kids base g w' kv vs:=by
 obtain⟨f,n,l⟩:=h;exact⟨ag f (λb c o=>d b (f.lt b c).1 o),n,λj p=>isNode.frame (d.mono (λb c=>c.1)) n j (l j p)⟩
theorem Kids.node (h:Kids base g w kv vs) (hl:O vs<=20000) (j:name.size<=20000) (l:0<=pos/\pos<=7000) (o:g->Gr kind n name (vs.map aA)):
 eC base g w (ae kind pos n m name kv).toList:=by
 obtain⟨d,k,p⟩:=h;exact⟨k+1,kind,pos,n,m,name,kv,vs,Q,j,l,hl,eL d (zL _),λf c=>(d.lt f c).1,λb q=>isNode.weaken (λf c=>c.1) (λb=>b) k b (p b q),o⟩
def Bd (N:Nat) (t:Tk) (i:Nat) (k:Int) (r:Nat):Prop:=(k=0->(t.len - i)*64+r<=N)/\r<=N
theorem Bd.down {b:Nat} {i':Nat} {k':Int} {r c:Nat} (h:Bd (b+1) t i k r) (f:i<=i') (d:k'=0->k=0) (j:c<r):Bd b t i' k' c:=by
 refine⟨λe=>?_,oH h.2⟩;have:=h.1 (d e);have:(t.len - i')*64<=(t.len - i)*64:=Nat.mul_le_mul_right _ oM;omega
def ml (t:Tk) (j:Nat) (kj:Int):Nat:=2*(t.len - j)+if kj=0 then 1 else 0
theorem bO {j j':Nat} {b:Int} (d:j<t.len) (h:j<=j') (c:b=0->j<j'):ml t j' b<ml t j 0:=by
 unfold ml;by_cases e:b=0
 ·have:=c e;simp[e];omega
 ·simp[e];omega
theorem Rd.same (h:Rd w rb tb cap t i k a) (b:w'.heap[rb]? =w.heap[rb]?) (c:w'.heap[tb]? =w.heap[tb]?):Rd w' rb tb cap t i k a:=
 ⟨by rw[b];exact h.eG,h.row.fF c,h.ne,h.ar,h.lt⟩
theorem Rd.grown (h:Rd w rb tb cap t i k a) {b:Option Nat} (c:w.grownBy w' b) (d:b≠some rb) (f:b≠some tb):Rd w' rb tb cap t i k a:=
 h.same (c.block rb h.l (λe=>d e.symm)) (c.block tb h.row.lt (λe=>f e.symm))
theorem Rd.setCell (h:Rd w rb tb cap t i k a) {p:Addr} (b:p.block≠rb) (c:p.block≠tb) (u:Value):Rd (w.setCell p u) rb tb cap t i k a:=
 h.same (Below.heap_setCell _ _ _ _ (λe=>b e.symm)) (Below.heap_setCell _ _ _ _ (λe=>c e.symm))
theorem oA (w:World) (kind pos n m:Int) (name:ByteArray) (kv:Value) (t:TypeId):∀b c,(ae kind pos n m name kv).toList[b]? =some c->(w.alloc (Ob (ae kind pos n m name kv) t)).cell? ((⟨E (U w),0,I⟩:Addr).add b)=some c:=by
 intro b c d;have f:(⟨E (U w),0,I⟩:Addr).add b=⟨E (U w),b,I⟩:=by unfold Addr.add;split<;>simp_all
 rw[f,cell_of_row _ (E (U w)) b (ae kind pos n m name kv) t (0,0) (heap_alloc_new w _)];simpa using d
theorem oz {ko:OA} {kl kc:Nat}:∀b∈(ae kind pos n m name (J ko kl kc)).toList,b.oneCell'=true:=by
 intro b c;simp at c;rcases c with rfl|rfl|rfl|rfl|rfl|rfl|rfl|rfl|rfl|rfl<;>rfl
theorem Nx.below (h:Rd w rb tb cap t i k a) (b:Below (E (U w)) w w'):Nx w rb tb cap t i k False w' i k a:=
 ⟨h.below b,Kp.aq b,lR _,λe=>e,λe _=>absurd e (λc=>c)⟩
end
theorem wU:(Tryz.prog.info? 46).map (λa=>(a.zero,a.size,a.bytes))=some (some (.agg (ae 0 0 0 0 ⟨#[]⟩ (J I 0 0))),11,160):=by kernel_rfl
theorem aM {C:Int->Prop} {ks:List Int} {b:Int} (h:∀x∈ks,C x) (c:C b):∀x∈ks++[b],C x:=by
 intro x a;rcases List.mem_append.1 a with a|a
 ·exact h x a
 ·obtain rfl:x=b:=sU a;exact c
end Go.Proofs.YtcnnibahjmekdaaGreat
