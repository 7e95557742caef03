import Derived.Test.YtdghkacbpebcoaaGreatProg
import Derived.WalkKit
import Derived.WalkLawsBesides
import Derived.WalkSpells
import Derived.Outline
import Derived.Laws.RangeAny
import Derived.Lib.Strings
namespace Go.Proofs.YtdghkacbpebcoaaGreat
open Go.RowKit
open Value renaming slice→J
open List renaming length→O
open Option renaming none→I
open World renaming heap→U
open _root_.Array renaming size→E
open Obj renaming cells→Ob
set_option linter.all false
set_option maxRecDepth 100000
set_option maxHeartbeats 0
theorem gE {a:Type} {xs:Array a} {i:Nat} {b:a} (h:xs[i]? =some b):∃h:i<xs.size,xs[i]=b:=Array.getElem?_eq_some_iff.1 h
theorem gS {a:Type} {xs:List a} {i:Nat} {b:a} (h:xs[i]? =some b):∃h:i<O xs,xs[i]=b:=List.getElem?_eq_some_iff.1 h
theorem gG {a:Type} {l:List a} {i:Nat} (h:i<O l):l[i]? =some l[i]:=List.getElem?_eq_getElem h
theorem mG {b:Type} {l:List b} {i:Nat} {a:b} (e:l[i]? =some a):a∈l:=List.mem_of_getElem? e
theorem lT {n m k:Nat}:n<=m->m<=k->n<=k:=Nat.le_trans
theorem sL {n m:Nat} (h:n<m):n<Nat.succ m:=Nat.lt_succ_of_lt h
theorem lR (n:Nat):n<=n:=Nat.le_refl n
theorem zL (n:Nat):0<=n:=Nat.zero_le n
theorem oM {p:Prop} (h:p:=by omega):p:=h
theorem dC {p:Prop} (h:p:=by decide):p:=h
theorem sQ {p:Prop} (h:p:=by simp):p:=h
theorem rQ {p:Prop} (h:p:=by rfl):p:=h
theorem kQ {p:Prop} (h:p:=by kernel_rfl):p:=h
theorem sU {p q:Prop} (h:q) (k:q->p:=by intro h;simpa using h):p:=k h
theorem oH {p q:Prop} (h:q) (k:q->p:=by intro h;omega):p:=k h
theorem oI {p q r:Prop} (g:q) (h:r) (k:q->r->p:=by intro g h;omega):p:=k g h
theorem Q {b:Sort _} {a:b}:a=a:=rfl
def rL:List ByteArray:=[⟨#[109,111,100]⟩,⟨#[117,115,101]⟩,⟨#[112,117,98]⟩,⟨#[99,111,112,121]⟩,⟨#[115,116,114,117,99,116]⟩,⟨#[101,110,117,109]⟩,⟨#[116,114,97,105,116]⟩,⟨#[105,109,112,108]⟩,⟨#[102,111,114]⟩,⟨#[102,110]⟩,⟨#[108,101,116]⟩,⟨#[109,117,116]⟩,⟨#[105,102]⟩,⟨#[101,108,115,101]⟩,⟨#[109,97,116,99,104]⟩,⟨#[119,104,105,108,101]⟩,⟨#[108,111,111,112]⟩,⟨#[98,114,101,97,107]⟩,⟨#[110,101,120,116]⟩,⟨#[114,101,116,117,114,110]⟩,⟨#[112,97,110,105,99]⟩,⟨#[109,97,107,101]⟩,⟨#[114,101,102]⟩,⟨#[111,110,99,101]⟩,⟨#[115,112,97,119,110]⟩,⟨#[116,114,117,101]⟩,⟨#[102,97,108,115,101]⟩,⟨#[105,110,116]⟩,⟨#[98,111,111,108]⟩]
def isWord (l:List UInt8):Bool:=rL.any λb=>l==b.toList
theorem oJ (s:ByteArray) (w:World):Calls Tryz.prog 56 #[.string s] w λa b=>a=.returned (.bool (isWord s.toList))/\b=w:=by
 go_enter Tryz.func56,Tryz.ntmps56
 go_wp2_with fail
 all_goals first|(exfalso;simp_all;done)|(go_ret;refine⟨?_,Q⟩;simp[isWord,rL, *])
section
variable{s:ByteArray} {acc:List (List Value)} {b i:Nat}
def cR (s:ByteArray) (i:Nat):Nat:=if h:i<s.size then(s[i]'h).toNat else 0
theorem dw (h:i<s.size):cR s i=(s[i]'h).toNat:=by simp[cR,h]
theorem mS (h:¬i<s.size):cR s i=0:=by simp[cR,h]
def cr (c:Nat):Bool:=decide (48<=c/\c<=57)
def eE (c:Nat):Bool:=decide (97<=c/\c<=122\/65<=c/\c<=90)
def bI (c:Nat):Bool:=eE c||cr c||c==95
def iG (c:Nat):Bool:=c !=10
def fH (c:Nat):Bool:=c==32||c==9||c==10
def gH (p:Nat->Bool) (s:ByteArray):Nat->Nat->Nat
 |0,i=>i
 |f+1,i=>if p (cR s i) then gH p s f (i+1) else i
def aC (p:Nat->Bool) (s:ByteArray) (i:Nat):Nat:=gH p s (s.size - i) i
theorem fy {p:Nat->Bool} (h:i<s.size) (a:p (cR s i)=true):aC p s i=aC p s (i+1):=by
 unfold aC;rw[show s.size - i=(s.size - (i+1))+1 by omega,gH,if_pos a]
theorem ju {p:Nat->Bool} (a:p (cR s i)=false):aC p s i=i:=by
 unfold aC
 cases s.size - i with
 |zero=>rfl
 |succ c=>rw[gH,if_neg (by simp[a])]
theorem iT {p:Nat->Bool} (h:¬i<s.size):aC p s i=i:=by
 unfold aC;rw[show s.size - i=0 by omega,gH]
theorem nw (p:Nat->Bool) (s:ByteArray):∀(a i:Nat),i<=gH p s a i
 |0,_=>lR _
 |a+1,i=>by
  rw[gH];split
  ·have:=nw p s a (i+1);omega
  ·exact lR _
theorem nu (p:Nat->Bool) (s:ByteArray):∀(a i:Nat),gH p s a i<=i+a
 |0,_=>lR _
 |a+1,i=>by
  rw[gH];split
  ·have:=nu p s a (i+1);omega
  ·omega
theorem lQ (p:Nat->Bool) (s:ByteArray):∀(c i a:Nat),i<=a->a<gH p s c i->p (cR s a)=true
 |0,i,a,h1,h2=>by rw[gH] at h2;omega
 |c+1,i,a,h1,h2=>by
  rw[gH] at h2;split at h2
  ·rename_i d
   by_cases e:a=i
   ·subst e;exact d
   ·exact lQ p s c (i+1) a oM h2
  ·omega
theorem jv (p:Nat->Bool) (s:ByteArray) (i:Nat):i<=aC p s i:=nw p s _ i
theorem eh (p:Nat->Bool) (s:ByteArray) (i:Nat) (a:i<=s.size):aC p s i<=s.size:=by
 have:=nu p s (s.size - i) i;unfold aC;omega
theorem oT (p:Nat->Bool) (s:ByteArray) (i j:Nat) (a:i<=j) (hl:j<aC p s i):p (cR s j)=true:=lQ p s _ i j a hl
theorem eP {p:Nat->Bool} (h:i<s.size) (a:p (cR s i)=true):i<aC p s i:=by
 rw[fy h a];have:=jv p s (i+1);omega
def cC (s:ByteArray) (i:Nat):Nat->Nat
 |0=>0
 |k+1=>cC s i k*10+(cR s (i+k) - 48)
structure One where
 err:Nat
 kind:Nat
 stop:Nat
 n:Nat
def dR:List (Nat × Nat):=[(58,58),(45,62),(61,62),(61,61),(33,61),(60,61),(62,61),(38,38),(124,124)]
def ji:List Nat:=[40,41,123,125,91,93,60,62,44,59,58,46,61,43,45,42,47,37,38,33,95]
def aR (s:ByteArray) (i:Nat):Nat:=if dR.contains (cR s i,cR s (i+1)) then 2 else if ji.contains (cR s i) then 1 else 0
def one (s:ByteArray) (i:Nat):One:=
 if cr (cR s i) then
  (if cC s i (aC cr s i - i)<=9223372036854775807 then⟨0,1,aC cr s i,cC s i (aC cr s i - i)⟩ else⟨3,0,0,0⟩)
 else if eE (cR s i) then
  (if isWord (s.extract i (aC bI s i)).toList then⟨0,3,aC bI s i,0⟩ else if 20<aC bI s i - i then⟨3,0,0,0⟩ else⟨0,2,aC bI s i,0⟩)
 else if cR s i==39&&eE (cR s (i+1)) then
  (if 21<aC bI s (i+1) - i then⟨3,0,0,0⟩ else⟨0,4,aC bI s (i+1),0⟩)
 else if aR s i=0 then⟨2,0,0,0⟩ else⟨0,5,i+aR s i,0⟩
def cO (s:ByteArray) (i:Nat) (o:One):ByteArray:=if o.kind=1 then⟨#[]⟩ else s.extract i o.stop
def eV (kind:Nat) (i:Nat) (t:ByteArray) (n:Nat):List Value:=[.int .i64 kind,.int .i64 i,.string t,.int .i64 n]
def fY (s:ByteArray) (i:Nat):List Value:=eV (one s i).kind i (cO s i (one s i)) (one s i).n
abbrev pF:=Sum (Nat × Nat) (List (List Value))
def lexFrom:Nat->ByteArray->Nat->List (List Value)->pF
 |0,s,_,acc=>.inr (acc++[eV 0 s.size ⟨#[]⟩ 0])
 |b+1,s,i,acc=>
  if i<s.size then
   if fH (cR s i) then lexFrom b s (i+1) acc
   else if cR s i=35 then lexFrom b s (aC iG s i) acc
   else if(one s i).err≠0 then .inl ((one s i).err,i)
   else lexFrom b s (one s i).stop (acc++[fY s i])
  else .inr (acc++[eV 0 s.size ⟨#[]⟩ 0])
def eD (s:ByteArray):pF:=if 6000<s.size then .inl (1,0) else lexFrom s.size s 0 []
theorem gQ (c:i<s.size):i+aR s i<=s.size:=by
 unfold aR;split
 ·rename_i h
  by_cases a:i+1<s.size
  ·omega
  ·rw[mS a] at h;simp[dR] at h
 ·split<;>omega
theorem kM (d:i<s.size) (h:(one s i).err=0):i<(one s i).stop/\(one s i).stop<=s.size:=by
 unfold one at h⊢;split
 ·rename_i e
  have c:=eP d e;have a:=eh cr s i oM;split at h<;>split at h<;>simp_all
 ·split
  ·rename_i e
   have c:i<aC bI s i:=eP d (by simp[bI,e]);have a:=eh bI s i oM;split
   ·exact⟨c,a⟩
   ·split
    ·simp_all
    ·exact⟨c,a⟩
  ·split
   ·have a:=eh bI s (i+1) oM;have c:=jv bI s (i+1);split
    ·simp_all
    ·exact⟨by simp;omega,a⟩
   ·split
    ·simp_all
    ·have:=gQ d;exact⟨by simp;omega,this⟩
theorem gh (a:i<s.size) (c:fH (cR s i)=true):lexFrom (b+1) s i acc=lexFrom b s (i+1) acc:=by
 rw[lexFrom,if_pos a,if_pos c]
theorem j2 (c:i<s.size) (a:cR s i=35):lexFrom (b+1) s i acc=lexFrom b s (aC iG s i) acc:=by
 rw[lexFrom,if_pos c,if_neg (by simp[fH,a]),if_pos a]
theorem mL (a:i<s.size) (c:fH (cR s i)=false) (d:cR s i≠35) (e:(one s i).err≠0):lexFrom (b+1) s i acc=.inl ((one s i).err,i):=by
 rw[lexFrom,if_pos a,if_neg (by simp[c]),if_neg d,if_pos e]
theorem mJ (a:i<s.size) (c:fH (cR s i)=false) (d:cR s i≠35) (e:(one s i).err=0):lexFrom (b+1) s i acc=lexFrom b s (one s i).stop (acc++[fY s i]):=by
 rw[lexFrom,if_pos a,if_neg (by simp[c]),if_neg d,if_neg (by simp[e])]
theorem mK (a:¬i<s.size):lexFrom b s i acc=.inr (acc++[eV 0 s.size ⟨#[]⟩ 0]):=by
 cases b with
 |zero=>rfl
 |succ b=>rw[lexFrom,if_neg a]
end
section
variable{s:ByteArray} {i:Nat}
theorem dS {a b:Bool} (h:a=b):Ending.returned (.bool a)=.returned (.bool b):=by rw[h]
theorem dI {k:IntKind} {a b:Int} (h:a=b):Ending.returned (.int k a)=.returned (.int k b):=by rw[h]
theorem cH (c:Nat) (w:World):Calls Tryz.prog 52 #[.int .u8 c] w λa b=>a=.returned (.bool (cr c))/\b=w:=by
 by_cases d:(48:Int)<=c
 ·by_cases e:(c:Int)<=57
  ·go_enter Tryz.func52,Tryz.ntmps52
   go_wp2
   go_ret;exact⟨dS (by simp[cr];omega),Q⟩
  ·go_enter Tryz.func52,Tryz.ntmps52
   go_wp2
   go_ret;exact⟨dS (by simp[cr];omega),Q⟩
 ·go_enter Tryz.func52,Tryz.ntmps52
  go_wp2
  go_ret;exact⟨dS (by simp[cr];omega),Q⟩
theorem cN (c:Nat) (w:World):Calls Tryz.prog 54 #[.int .u8 c] w λd e=>d=.returned (.bool (eE c))/\e=w:=by
 rcases(show(97:Int)<=c/\(c:Int)<=122\/(122:Int)<c\/(65:Int)<=c/\(c:Int)<=90\/(90:Int)<c/\(c:Int)<97\/(c:Int)<65 by omega) with⟨a,b⟩|a|⟨a,b⟩|⟨a,b⟩|a
 all_goals
  go_enter Tryz.func54,Tryz.ntmps54
  go_wp2
  go_ret;exact⟨dS (by first|(rw[show eE c=true by simp only[eE,decide_eq_true_eq];omega];done)|(rw[show eE c=false by simp only[eE,decide_eq_false_iff_not];omega];first|done|rfl|(simp;omega)|trace_state)),Q⟩
theorem vR (s:ByteArray) (i:Nat) (w:World) (t:s.size<=6000) (q:i<=s.size):Calls Tryz.prog 55 #[.string s,.int .i64 i] w λc d=>c=.returned (.int .i64 (aC bI s i))/\d=w:=by
 go_enter Tryz.func55,Tryz.ntmps55
 go_wp2_with fail;go_loop [1] (λj=>∃a:Nat,a<=s.size/\j=.int .i64 a/\aC bI s a=aC bI s i) (λj=>s.size - (intOf j).toNat)
 case atStart=>exact⟨i,q,Q,Q⟩
 case round=>
  obtain⟨a,u,rfl,k⟩:=hrel;have e:Hid (aC bI s a=aC bI s i):=k;clear k;by_cases b:a<s.size
  ·have l:=dw b;have f:Hid (cR s a=(s[a]'b).toNat):=l;clear l
   cases m:eE (s[a]'b).toNat
   ·cases n:cr (s[a]'b).toNat
    ·cases o:((((s[a]'b).toNat:Int))==95)
     ·go_wp2_with (first|(go_at_call 54;refine(cN _ _).mono ?_;rintro c d ⟨rfl,rfl⟩)|(go_at_call 52;refine(cH _ _).mono ?_;rintro c d ⟨rfl,rfl⟩))
      go_ret;exact⟨dI (by have:=e.out;rw[ju (by rw[f.out];simp at o;simp[bI,m,n];omega)] at this;rw[this]),Q⟩
     ·have p:(s[a]'b).toNat=95:=by simp at o;omega
      have r:Hid ((s[a]'b).toNat=95):=p;clear p;go_wp2_with (first|(go_at_call 54;refine(cN _ _).mono ?_;rintro c d ⟨rfl,rfl⟩)|(go_at_call 52;refine(cH _ _).mono ?_;rintro c d ⟨rfl,rfl⟩))
      go_round
      case rel=>exact⟨a+1,oM,by go_num,by rw[<-e.out];exact(fy b (by rw[f.out];simp[bI,r.out])).symm⟩
      case measure=>simp[intOf];omega
    ·go_wp2_with (first|(go_at_call 54;refine(cN _ _).mono ?_;rintro c d ⟨rfl,rfl⟩)|(go_at_call 52;refine(cH _ _).mono ?_;rintro c d ⟨rfl,rfl⟩))
     go_round
     case rel=>exact⟨a+1,oM,by go_num,by rw[<-e.out];exact(fy b (by rw[f.out];simp[bI,n])).symm⟩
     case measure=>simp[intOf];omega
   ·go_wp2_with (first|(go_at_call 54;refine(cN _ _).mono ?_;rintro c d ⟨rfl,rfl⟩)|(go_at_call 52;refine(cH _ _).mono ?_;rintro c d ⟨rfl,rfl⟩))
    go_round
    case rel=>exact⟨a+1,oM,by go_num,by rw[<-e.out];exact(fy b (by rw[f.out];simp[bI,m])).symm⟩
    case measure=>simp[intOf];omega
  ·go_wp2
   go_ret;exact⟨dI (by have:=e.out;rw[iT b] at this;rw[this]),Q⟩
theorem th (s:ByteArray) (i k:Nat) (h:i<=k):cC s i (k+1 - i)=cC s i (k - i)*10+(cR s k - 48):=by
 rw[show k+1 - i=(k - i)+1 by omega];show cC s i (k - i)*10+(cR s (i+(k - i)) - 48)=_;rw[show i+(k - i)=k by omega]
def mV (s:ByteArray) (i:Nat) (e:Ending):Prop:=
 ∃(n:Int) (big:Bool),e=.returned (.tuple #[.int .i64 n,.int .i64 (aC cr s i),.bool big])/\
  (big=true->9223372036854775807<cC s i (aC cr s i - i))/\(big=false->n=(cC s i (aC cr s i - i):Nat)/\cC s i (aC cr s i - i)<=9223372036854775807)
theorem tg (s:ByteArray) (i:Nat) (w:World) (B:s.size<=6000) (x:i<=s.size):
 Calls Tryz.prog 53 #[.string s,.int .i64 i] w λe j=>mV s i e/\j=w:=by
 go_enter Tryz.func53,Tryz.ntmps53
 go_wp2_with fail
 go_loop [1,7,8] (λm y z=>∃(a:Nat) (c:Nat) (d:Bool),i<=a/\a<=s.size/\c<=9223372036854775807/\m=.int .i64 a/\y=.int .i64 c/\z=.bool d/\aC cr s a=aC cr s i/\
  (d=true->9223372036854775807<cC s i (a - i))/\(d=false->c=cC s i (a - i))) (λm _ _=>s.size - (intOf m).toNat)
 case atStart=>exact⟨i,0,false,lR _,x,oM,Q,Q,Q,Q,sQ,by simp[cC]⟩
 case round=>
  obtain⟨a,c,d,A,C,n,rfl,rfl,rfl,q,r,t⟩:=hrel;have o:Hid (aC cr s a=aC cr s i):=q;have k:Hid (d=true->9223372036854775807<cC s i (a - i)):=r;have f:Hid (d=false->c=cC s i (a - i)):=t;clear q r t;by_cases b:a<s.size
  ·have u:Hid (cR s a=(s[a]'b).toNat):=dw b
   cases l:cr (s[a]'b).toNat
   ·go_wp2_with (go_at_call 52;refine(cH _ _).mono ?_;rintro e j ⟨rfl,rfl⟩)
    go_ret3
    have e:aC cr s i=a:=by rw[<-o.out];exact ju (by rw[u.out];exact l)
    refine⟨?_,Q⟩;unfold mV;rw[e];exact⟨c,d,Q,k.out,λh=>⟨by rw[f.out h],by rw[<-f.out h];exact n⟩⟩
   ·have D:(48:Int)<=((s[a]'b).toNat:Int):=by simp[cr] at l;omega
    have F:((s[a]'b).toNat:Int)<=57:=by simp[cr] at l;omega
    have p:Hid (cC s i (a+1 - i)=cC s i (a - i)*10+((s[a]'b).toNat - 48)):=by
     have:=th s i a A;rw[dw b] at this;exact this
    have v:Hid (aC cr s (a+1)=aC cr s i):=by
     have:=o.out;rw[fy b (by rw[u.out];exact l)] at this;exact this
    by_cases G:(9223372036854775807 - (((s[a]'b).toNat:Int) - 48))/10<(c:Int)
    ·go_wp2_with (go_at_call 52;refine(cH _ _).mono ?_;rintro e j ⟨rfl,rfl⟩)
     go_round
     case rel=>
      refine⟨a+1,c,true,oM,oM,n,by go_num,Q,Q,v.out,λ_=>?_,λh=>by cases h⟩;rw[p.out]
      cases d
      ·have:=f.out Q;rw[<-this];omega
      ·have:=k.out Q;omega
     case measure=>simp[intOf];omega
    ·go_wp2_with (go_at_call 52;refine(cH _ _).mono ?_;rintro e j ⟨rfl,rfl⟩)
     go_round
     case rel=>
      refine⟨a+1,c*10+((s[a]'b).toNat - 48),d,oM,oM,oM,by go_num,by go_num,Q,v.out,λh=>?_,λh=>?_⟩
      ·rw[p.out];have:=k.out h;omega
      ·rw[p.out,<-f.out h]
     case measure=>simp[intOf];omega
  ·go_wp2
   go_ret3
   have e:aC cr s i=a:=by rw[<-o.out];exact iT b
   refine⟨?_,Q⟩;unfold mV;rw[e];exact⟨c,d,Q,k.out,λh=>⟨by rw[f.out h],by rw[<-f.out h];exact n⟩⟩
theorem fQ (h:i+1<s.size) (a b:UInt8):((s.extract i (i+2)).toList==[a,b])=((cR s i,cR s (i+1))==(a.toNat,b.toNat)):=by
 have c:(s.extract i (i+2)).toList=[s[i]'oM,s[i+1]'h]:=by
  rw[Lib.extract_toList,show i+2 - i=2 by omega];rw[List.drop_eq_getElem_cons (by simp;omega),List.drop_eq_getElem_cons (sU h)];rfl
 rw[c,dw h,dw (show i<s.size by omega),Bool.eq_iff_iff];simp[UInt8.toNat_inj]
theorem fp (h:i+1<s.size) (a b:UInt8) (hl:((s.extract i (i+2)).toList==[a,b])=true) (c:dR.contains (a.toNat,b.toNat)=true):aR s i=2:=by
 rw[fQ h] at hl;have d:(cR s i,cR s (i+1))=(a.toNat,b.toNat):=sU hl;unfold aR;rw[d,if_pos c]
theorem vG (h:i+1<s.size) (a:((s.extract i (i+2)).toList==[58,58])=false) (b:((s.extract i (i+2)).toList==[45,62])=false) (c:((s.extract i (i+2)).toList==[61,62])=false) (d:((s.extract i (i+2)).toList==[61,61])=false) (e:((s.extract i (i+2)).toList==[33,61])=false) (f:((s.extract i (i+2)).toList==[60,61])=false) (j:((s.extract i (i+2)).toList==[62,61])=false) (k:((s.extract i (i+2)).toList==[38,38])=false) (l:((s.extract i (i+2)).toList==[124,124])=false):dR.contains (cR s i,cR s (i+1))=false:=by
 rw[fQ h] at a;rw[fQ h] at b;rw[fQ h] at c;rw[fQ h] at d;rw[fQ h] at e;rw[fQ h] at f;rw[fQ h] at j;rw[fQ h] at k;rw[fQ h] at l;simp only[dR,List.contains,List.elem];simp only[UInt8.reduceToNat] at a b c d e f j k l;simp only[a,b,c,d,e,f,j,k,l]
theorem uD (h:¬i+1<s.size):dR.contains (cR s i,cR s (i+1))=false:=by
 rw[mS h];simp[dR]
theorem pS {c:Int} (h:dR.contains (cR s i,cR s (i+1))=false) (a:i<s.size) (b:(((s[i]'a).toNat:Int)==c)=true) (d:ji.contains c.toNat=true):aR s i=1:=by
 have e:cR s i=c.toNat:=by rw[dw a];simp at b;omega
 unfold aR;rw[h,e,if_neg sQ,if_pos d]
theorem kC (s:ByteArray) (i:Nat) (w:World) (k:s.size<=6000) (a:i<s.size) (d:dR.contains (cR s i,cR s (i+1))=false)
 (hl:i+1<s.size->((s.extract i (i+2)).toList==[58,58])=false/\((s.extract i (i+2)).toList==[45,62])=false/\((s.extract i (i+2)).toList==[61,62])=false/\((s.extract i (i+2)).toList==[61,61])=false/\((s.extract i (i+2)).toList==[33,61])=false/\((s.extract i (i+2)).toList==[60,61])=false/\((s.extract i (i+2)).toList==[62,61])=false/\((s.extract i (i+2)).toList==[38,38])=false/\((s.extract i (i+2)).toList==[124,124])=false):
  Calls Tryz.prog 57 #[.string s,.int .i64 i] w λe f=>e=.returned (.int .i64 (aR s i))/\f=w:=by
  have b:Hid (dR.contains (cR s i,cR s (i+1))=false):=d;clear d;by_cases j:i+1<s.size
  ·obtain⟨l,m,n,o,p,q,r,t,u⟩:=hl j;clear hl;go_enter Tryz.func57,Tryz.ntmps57
   go_wp2_with fail
   all_goals first|(exfalso;simp_all;done)|(go_ret;refine⟨dI ?_,Q⟩;first|(have c:=pS b.out a ‹(((s[i]'a).toNat:Int)==_)=true› dC;rw[c];rfl)|(unfold aR;rw[b.out,if_neg sQ,if_neg (by rw[dw a];simp_all [ji];omega)];rfl))
  ·clear hl;go_enter Tryz.func57,Tryz.ntmps57
   go_wp2_with fail
   all_goals first|(exfalso;simp_all;done)|(go_ret;refine⟨dI ?_,Q⟩;first|(have c:=pS b.out a ‹(((s[i]'a).toNat:Int)==_)=true› dC;rw[c];rfl)|(unfold aR;rw[b.out,if_neg sQ,if_neg (by rw[dw a];simp_all [ji];omega)];rfl))
theorem gR (s:ByteArray) (i:Nat) (w:World) (o:s.size<=6000) (p:i<s.size):
 Calls Tryz.prog 57 #[.string s,.int .i64 i] w λq r=>q=.returned (.int .i64 (aR s i))/\r=w:=by
 by_cases b:i+1<s.size
 ·cases c:((s.extract i (i+2)).toList==[58,58])
  ·cases d:((s.extract i (i+2)).toList==[45,62])
   ·cases e:((s.extract i (i+2)).toList==[61,62])
    ·cases f:((s.extract i (i+2)).toList==[61,61])
     ·cases j:((s.extract i (i+2)).toList==[33,61])
      ·cases k:((s.extract i (i+2)).toList==[60,61])
       ·cases l:((s.extract i (i+2)).toList==[62,61])
        ·cases m:((s.extract i (i+2)).toList==[38,38])
         ·cases n:((s.extract i (i+2)).toList==[124,124])
          ·exact kC s i w o p (vG b c d e f j k l m n) (λ_=>⟨c,d,e,f,j,k,l,m,n⟩)
          ·have a:Hid (aR s i=2):=fp b _ _ n dC;go_enter Tryz.func57,Tryz.ntmps57
           go_wp2_with fail
           all_goals first|(exfalso;simp_all;done)|(go_ret;exact⟨dI (by rw[a.out];rfl),Q⟩)
         ·have a:Hid (aR s i=2):=fp b _ _ m dC;go_enter Tryz.func57,Tryz.ntmps57
          go_wp2_with fail
          all_goals first|(exfalso;simp_all;done)|(go_ret;exact⟨dI (by rw[a.out];rfl),Q⟩)
        ·have a:Hid (aR s i=2):=fp b _ _ l dC;go_enter Tryz.func57,Tryz.ntmps57
         go_wp2_with fail
         all_goals first|(exfalso;simp_all;done)|(go_ret;exact⟨dI (by rw[a.out];rfl),Q⟩)
       ·have a:Hid (aR s i=2):=fp b _ _ k dC;go_enter Tryz.func57,Tryz.ntmps57
        go_wp2_with fail
        all_goals first|(exfalso;simp_all;done)|(go_ret;exact⟨dI (by rw[a.out];rfl),Q⟩)
      ·have a:Hid (aR s i=2):=fp b _ _ j dC;go_enter Tryz.func57,Tryz.ntmps57
       go_wp2_with fail
       all_goals first|(exfalso;simp_all;done)|(go_ret;exact⟨dI (by rw[a.out];rfl),Q⟩)
     ·have a:Hid (aR s i=2):=fp b _ _ f dC;go_enter Tryz.func57,Tryz.ntmps57
      go_wp2_with fail
      all_goals first|(exfalso;simp_all;done)|(go_ret;exact⟨dI (by rw[a.out];rfl),Q⟩)
    ·have a:Hid (aR s i=2):=fp b _ _ e dC;go_enter Tryz.func57,Tryz.ntmps57
     go_wp2_with fail
     all_goals first|(exfalso;simp_all;done)|(go_ret;exact⟨dI (by rw[a.out];rfl),Q⟩)
   ·have a:Hid (aR s i=2):=fp b _ _ d dC;go_enter Tryz.func57,Tryz.ntmps57
    go_wp2_with fail
    all_goals first|(exfalso;simp_all;done)|(go_ret;exact⟨dI (by rw[a.out];rfl),Q⟩)
  ·have a:Hid (aR s i=2):=fp b _ _ c dC;go_enter Tryz.func57,Tryz.ntmps57
   go_wp2_with fail
   all_goals first|(exfalso;simp_all;done)|(go_ret;exact⟨dI (by rw[a.out];rfl),Q⟩)
 ·exact kC s i w o p (uD b) (λh=>absurd h b)
end
end Go.Proofs.YtdghkacbpebcoaaGreat
