import Derived.Test.YtdghkacbpebcoaaGreatS01
namespace Go.Proofs.YtdghkacbpebcoaaGreat
open Go.RowKit
open Value renaming slice→J
open List renaming length→O
open Option renaming none→I
open World renaming heap→U
open _root_.Array renaming size→E
open Obj renaming cells→Ob
set_option linter.all false
set_option maxRecDepth 100000
set_option maxHeartbeats 0
section
variable{s t:ByteArray} {a b:Int} {i:Nat}
def gC (s:ByteArray) (i:Nat) (e:Ending):Prop:=
 ∃(a b:Int) (t:ByteArray) (n j:Int),e=.returned (.tuple #[.agg #[vN a,vN b,.string t,vN n],vN j,vN (one s i).err])/\
  ((one s i).err=0->a=(one s i).kind/\b=i/\t=cO s i (one s i)/\n=(one s i).n/\j=((one s i).stop:Nat))
theorem ek {n j:Int} {k:Nat} (h:(one s i).err=k) (d:k≠0):gC s i (.returned (.tuple #[.agg #[vN a,vN b,.string t,vN n],vN j,vN (k:Int)])):=
 ⟨a,b,t,n,j,by rw[h],λc=>absurd c oM⟩
theorem dY {o:One} (h:one s i=o) (c:o.err=0) (d:cO s i o=t) (e:a=o.kind) (f:b=o.n):gC s i (.returned (.tuple #[.agg #[vN a,vN (i:Int),.string t,vN b],vN (o.stop:Int),vN 0])):=
 ⟨_,_,_,_,_,by rw[h,c];rfl,λ_=>⟨by rw[h,e],Q,by rw[h,d],by rw[h,f],by rw[h]⟩⟩
theorem qT (c:cr (cR s i)=true):one s i=if cC s i (aC cr s i - i)<=9223372036854775807 then⟨0,1,aC cr s i,cC s i (aC cr s i - i)⟩ else⟨3,0,0,0⟩:=by
 rw[one,if_pos c]
theorem jO {c:Nat} (h:eE c=true):cr c=false:=by
 simp only[eE,cr,decide_eq_true_eq,decide_eq_false_iff_not] at h⊢;omega
theorem kN (c:eE (cR s i)=true):one s i=if isWord (s.extract i (aC bI s i)).toList then⟨0,3,aC bI s i,0⟩ else if 20<aC bI s i - i then⟨3,0,0,0⟩ else⟨0,2,aC bI s i,0⟩:=by
 rw[one,if_neg (by simp[jO c]),if_pos c]
theorem sR (h:cR s i=39) (c:eE (cR s (i+1))=true):one s i=if 21<aC bI s (i+1) - i then⟨3,0,0,0⟩ else⟨0,4,aC bI s (i+1),0⟩:=by
 rw[one,if_neg (by simp[h,cr]),if_neg (by simp[h,eE]),if_pos (by simp[h,c])]
theorem sP (c:cr (cR s i)=false) (d:eE (cR s i)=false) (e:cR s i≠39\/eE (cR s (i+1))=false):one s i=if aR s i=0 then⟨2,0,0,0⟩ else⟨0,5,i+aR s i,0⟩:=by
 rw[one,if_neg (by simp[c]),if_neg (by simp[d]),if_neg];rcases e with h|h<;>simp[h]
theorem eC (s:ByteArray) (i:Nat) (x:Int) (w:World) (c:s.size<=6000) (d:i<=s.size) (e:x=(i:Nat)):Calls Tryz.prog 55 #[.string s,vN x] w λf j=>f=.returned (vN (aC bI s i))/\j=w:=by
 subst e;exact vR s i w c d
theorem bY (w:World) (c d:Obj):Below (E (U w)) w ((w.alloc c).alloc d):=((Below.refl _ _).alloc (lR _) _).alloc sQ _
theorem nH (s:ByteArray) (i:Nat) (w:World) (k:s.size<=6000) (d:i<s.size) (e:cr (cR s i)=true):
 Calls Tryz.prog 31 #[.string s,vN i] w λc f=>gC s i c/\Below (E (U w)) w f:=by
 have r:cr (s[i]'d).toNat=true:=by rw[<-dw d];exact e
 have j:Hid (one s i=if cC s i (aC cr s i - i)<=9223372036854775807 then⟨0,1,aC cr s i,cC s i (aC cr s i - i)⟩ else⟨3,0,0,0⟩):=qT e;clear e;go_enter Tryz.func31,Tryz.ntmps31
 go_wp2_with (first|(go_at_call 52;refine(cH _ _).mono ?_;rintro c f ⟨rfl,rfl⟩)|(go_at_call 53;refine(tg s i _ k (Nat.le_of_lt d)).mono ?_;rintro c f ⟨⟨l,m,rfl,n,o⟩,rfl⟩;cases m))
 ·obtain⟨p,q⟩:=o (by trivial);have c:one s i=⟨0,1,aC cr s i,cC s i (aC cr s i - i)⟩:=by rw[j.out,if_pos q]
  exact bodyPost_ret (v:=.tuple #[.agg #[vN 1,vN i,.string ⟨#[]⟩,vN (cC s i (aC cr s i - i))],vN (aC cr s i),vN 0]) (by simp[results,Tryz.results31,go_sem]) Q ⟨dY c Q Q Q Q,bY _ _ _⟩
 ·have p:=n (by trivial);have c:(one s i).err=3:=by rw[j.out,if_neg oM]
  exact bodyPost_ret (v:=.tuple #[.agg #[vN 1,vN i,.string ⟨#[]⟩,vN l],vN (aC cr s i),vN 3]) (by simp[results,Tryz.results31,go_sem]) Q ⟨ek c dC,bY _ _ _⟩
theorem mD (s:ByteArray) (i:Nat) (w:World) (j:s.size<=6000) (e:i<s.size) (f:eE (cR s i)=true):
 Calls Tryz.prog 31 #[.string s,vN i] w λc d=>gC s i c/\Below (E (U w)) w d:=by
 have m:eE (s[i]'e).toNat=true:=by rw[<-dw e];exact f
 have n:cr (s[i]'e).toNat=false:=jO m;have k:Hid (one s i=if isWord (s.extract i (aC bI s i)).toList then⟨0,3,aC bI s i,0⟩ else if 20<aC bI s i - i then⟨3,0,0,0⟩ else⟨0,2,aC bI s i,0⟩):=kN f;have o:i<aC bI s i:=eP e (by simp[bI,f]);have p:=eh bI s i oM;clear f
 cases l:isWord (s.extract i (aC bI s i)).toList
 ·by_cases q:(20:Int)<(aC bI s i:Int) - i
  ·go_enter Tryz.func31,Tryz.ntmps31
   go_wp2_with (first|(go_at_call 52;refine(cH _ _).mono ?_;rintro c d ⟨rfl,rfl⟩)|(go_at_call 54;refine(cN _ _).mono ?_;rintro c d ⟨rfl,rfl⟩)|(go_at_call 55;refine(eC s i _ _ j oM Q).mono ?_;rintro c d ⟨rfl,rfl⟩)|(go_at_call 56;refine(oJ _ _).mono ?_;rintro c d ⟨rfl,rfl⟩))
   have c:(one s i).err=3:=by rw[k.out,if_neg (by simp[l]),if_pos oM]
   exact bodyPost_ret (v:=.tuple #[.agg #[vN 2,vN i,.string (s.extract i (aC bI s i)),vN 0],vN (aC bI s i),vN 3]) (by simp[results,Tryz.results31,go_sem]) Q ⟨ek c dC,bY _ _ _⟩
  ·go_enter Tryz.func31,Tryz.ntmps31
   go_wp2_with (first|(go_at_call 52;refine(cH _ _).mono ?_;rintro c d ⟨rfl,rfl⟩)|(go_at_call 54;refine(cN _ _).mono ?_;rintro c d ⟨rfl,rfl⟩)|(go_at_call 55;refine(eC s i _ _ j oM Q).mono ?_;rintro c d ⟨rfl,rfl⟩)|(go_at_call 56;refine(oJ _ _).mono ?_;rintro c d ⟨rfl,rfl⟩))
   have c:one s i=⟨0,2,aC bI s i,0⟩:=by rw[k.out,if_neg (by simp[l]),if_neg oM]
   exact bodyPost_ret (v:=.tuple #[.agg #[vN 2,vN i,.string (s.extract i (aC bI s i)),vN 0],vN (aC bI s i),vN 0]) (by simp[results,Tryz.results31,go_sem]) Q ⟨dY c Q (by simp[cO]) Q Q,bY _ _ _⟩
 ·go_enter Tryz.func31,Tryz.ntmps31
  go_wp2_with (first|(go_at_call 52;refine(cH _ _).mono ?_;rintro c d ⟨rfl,rfl⟩)|(go_at_call 54;refine(cN _ _).mono ?_;rintro c d ⟨rfl,rfl⟩)|(go_at_call 55;refine(eC s i _ _ j oM Q).mono ?_;rintro c d ⟨rfl,rfl⟩)|(go_at_call 56;refine(oJ _ _).mono ?_;rintro c d ⟨rfl,rfl⟩))
  have c:one s i=⟨0,3,aC bI s i,0⟩:=by rw[k.out,if_pos l]
  exact bodyPost_ret (v:=.tuple #[.agg #[vN 3,vN i,.string (s.extract i (aC bI s i)),vN 0],vN (aC bI s i),vN 0]) (by simp[results,Tryz.results31,go_sem]) Q ⟨dY c Q (by simp[cO]) Q Q,bY _ _ _⟩
theorem pf (s:ByteArray) (i:Nat) (w:World) (f:s.size<=6000) (e:i<s.size) (l:cR s i=39) (m:i+1<s.size) (j:eE (cR s (i+1))=true):
 Calls Tryz.prog 31 #[.string s,vN i] w λc d=>gC s i c/\Below (E (U w)) w d:=by
 have o:eE (s[i+1]'m).toNat=true:=by rw[<-dw m];exact j
 have k:(s[i]'e).toNat=39:=by rw[<-dw e];exact l
 have p:cr (s[i]'e).toNat=false:=by rw[k];rfl
 have q:eE (s[i]'e).toNat=false:=by rw[k];rfl
 have r:(((s[i]'e).toNat:Int)==39)=true:=by simp[k]
 have n:Hid (one s i=if 21<aC bI s (i+1) - i then⟨3,0,0,0⟩ else⟨0,4,aC bI s (i+1),0⟩):=sR l j;have u:i+1<aC bI s (i+1):=eP m (by simp[bI,j]);have x:=eh bI s (i+1) oM;clear j l k;by_cases y:(21:Int)<(aC bI s (i+1):Int) - i
 ·go_enter Tryz.func31,Tryz.ntmps31
  go_wp2_with (first|(go_at_call 52;refine(cH _ _).mono ?_;rintro c d ⟨rfl,rfl⟩)|(go_at_call 54;refine(cN _ _).mono ?_;rintro c d ⟨rfl,rfl⟩)|(go_at_call 55;refine(eC s (i+1) _ _ f oM oM).mono ?_;rintro c d ⟨rfl,rfl⟩)|(go_at_call 57;refine(gR s i _ f e).mono ?_;rintro c d ⟨rfl,rfl⟩))
  have c:(one s i).err=3:=by rw[n.out,if_pos oM]
  exact bodyPost_ret (v:=.tuple #[.agg #[vN 4,vN i,.string (s.extract i (aC bI s (i+1))),vN 0],vN (aC bI s (i+1)),vN 3]) (by simp[results,Tryz.results31,go_sem]) Q ⟨ek c dC,bY _ _ _⟩
 ·go_enter Tryz.func31,Tryz.ntmps31
  go_wp2_with (first|(go_at_call 52;refine(cH _ _).mono ?_;rintro c d ⟨rfl,rfl⟩)|(go_at_call 54;refine(cN _ _).mono ?_;rintro c d ⟨rfl,rfl⟩)|(go_at_call 55;refine(eC s (i+1) _ _ f oM oM).mono ?_;rintro c d ⟨rfl,rfl⟩)|(go_at_call 57;refine(gR s i _ f e).mono ?_;rintro c d ⟨rfl,rfl⟩))
  have c:one s i=⟨0,4,aC bI s (i+1),0⟩:=by rw[n.out,if_neg oM]
  exact bodyPost_ret (v:=.tuple #[.agg #[vN 4,vN i,.string (s.extract i (aC bI s (i+1))),vN 0],vN (aC bI s (i+1)),vN 0]) (by simp[results,Tryz.results31,go_sem]) Q ⟨dY c Q (by simp[cO]) Q Q,bY _ _ _⟩
theorem iV (s:ByteArray) (i:Nat) (w:World) (f:s.size<=6000) (e:i<s.size) (o:cr (cR s i)=false) (p:eE (cR s i)=false)
 (hl:(cR s i≠39)\/(cR s i=39/\¬i+1<s.size)\/(cR s i=39/\∃h:i+1<s.size,eE (s[i+1]'h).toNat=false)):
  Calls Tryz.prog 31 #[.string s,vN i] w λc d=>gC s i c/\Below (E (U w)) w d:=by
  have q:cR s i≠39\/eE (cR s (i+1))=false:=by
   rcases hl with h|⟨_,h⟩|⟨_,h,h'⟩
   ·exact .inl h
   ·exact .inr (by rw[mS h];rfl)
   ·exact .inr (by rw[dw h];exact h')
  have l:Hid (one s i=if aR s i=0 then⟨2,0,0,0⟩ else⟨0,5,i+aR s i,0⟩):=sP o p q;have u:=gQ e;clear q;rw[dw e] at o p hl;by_cases m:aR s i=0
  ·have k:Hid (aR s i=0):=m;have r:((aR s i:Int)==0)=true:=by simp[m]
   clear m;rcases hl with j|⟨j,hi2⟩|⟨j,hi2,hl2⟩
   ·have n:(((s[i]'e).toNat:Int)==39)=false:=by simp;omega
    clear j;go_enter Tryz.func31,Tryz.ntmps31
    go_wp2_with (first|(go_at_call 52;refine(cH _ _).mono ?_;rintro c d ⟨rfl,rfl⟩)|(go_at_call 54;refine(cN _ _).mono ?_;rintro c d ⟨rfl,rfl⟩)|(go_at_call 55;refine(eC s (i+1) _ _ f oM oM).mono ?_;rintro c d ⟨rfl,rfl⟩)|(go_at_call 57;refine(gR s i _ f e).mono ?_;rintro c d ⟨rfl,rfl⟩))
    have c:(one s i).err=2:=by rw[l.out,if_pos k.out]
    exact bodyPost_ret (v:=.tuple #[.agg #[vN 0,vN i,.string ⟨#[]⟩,vN 0],vN (i),vN 2]) (by simp[results,Tryz.results31,go_sem]) Q ⟨ek c dC,bY _ _ _⟩
   ·have n:(((s[i]'e).toNat:Int)==39)=true:=by simp;omega
    clear j;go_enter Tryz.func31,Tryz.ntmps31
    go_wp2_with (first|(go_at_call 52;refine(cH _ _).mono ?_;rintro c d ⟨rfl,rfl⟩)|(go_at_call 54;refine(cN _ _).mono ?_;rintro c d ⟨rfl,rfl⟩)|(go_at_call 55;refine(eC s (i+1) _ _ f oM oM).mono ?_;rintro c d ⟨rfl,rfl⟩)|(go_at_call 57;refine(gR s i _ f e).mono ?_;rintro c d ⟨rfl,rfl⟩))
    have c:(one s i).err=2:=by rw[l.out,if_pos k.out]
    exact bodyPost_ret (v:=.tuple #[.agg #[vN 0,vN i,.string ⟨#[]⟩,vN 0],vN (i),vN 2]) (by simp[results,Tryz.results31,go_sem]) Q ⟨ek c dC,bY _ _ _⟩
   ·have n:(((s[i]'e).toNat:Int)==39)=true:=by simp;omega
    clear j;go_enter Tryz.func31,Tryz.ntmps31
    go_wp2_with (first|(go_at_call 52;refine(cH _ _).mono ?_;rintro c d ⟨rfl,rfl⟩)|(go_at_call 54;refine(cN _ _).mono ?_;rintro c d ⟨rfl,rfl⟩)|(go_at_call 55;refine(eC s (i+1) _ _ f oM oM).mono ?_;rintro c d ⟨rfl,rfl⟩)|(go_at_call 57;refine(gR s i _ f e).mono ?_;rintro c d ⟨rfl,rfl⟩))
    have c:(one s i).err=2:=by rw[l.out,if_pos k.out]
    exact bodyPost_ret (v:=.tuple #[.agg #[vN 0,vN i,.string ⟨#[]⟩,vN 0],vN (i),vN 2]) (by simp[results,Tryz.results31,go_sem]) Q ⟨ek c dC,bY _ _ _⟩
  ·have k:Hid (aR s i≠0):=m;have r:((aR s i:Int)==0)=false:=by simp;omega
   have x:0<aR s i:=oM;clear m;rcases hl with j|⟨j,hi2⟩|⟨j,hi2,hl2⟩
   ·have n:(((s[i]'e).toNat:Int)==39)=false:=by simp;omega
    clear j;go_enter Tryz.func31,Tryz.ntmps31
    go_wp2_with (first|(go_at_call 52;refine(cH _ _).mono ?_;rintro c d ⟨rfl,rfl⟩)|(go_at_call 54;refine(cN _ _).mono ?_;rintro c d ⟨rfl,rfl⟩)|(go_at_call 55;refine(eC s (i+1) _ _ f oM oM).mono ?_;rintro c d ⟨rfl,rfl⟩)|(go_at_call 57;refine(gR s i _ f e).mono ?_;rintro c d ⟨rfl,rfl⟩))
    have c:one s i=⟨0,5,i+aR s i,0⟩:=by rw[l.out,if_neg k.out]
    exact bodyPost_ret (v:=.tuple #[.agg #[vN 5,vN i,.string (s.extract i (i+aR s i)),vN 0],vN (i+aR s i),vN 0]) (by simp[results,Tryz.results31,go_sem]) Q ⟨dY c Q (by simp[cO]) Q Q,bY _ _ _⟩
   ·have n:(((s[i]'e).toNat:Int)==39)=true:=by simp;omega
    clear j;go_enter Tryz.func31,Tryz.ntmps31
    go_wp2_with (first|(go_at_call 52;refine(cH _ _).mono ?_;rintro c d ⟨rfl,rfl⟩)|(go_at_call 54;refine(cN _ _).mono ?_;rintro c d ⟨rfl,rfl⟩)|(go_at_call 55;refine(eC s (i+1) _ _ f oM oM).mono ?_;rintro c d ⟨rfl,rfl⟩)|(go_at_call 57;refine(gR s i _ f e).mono ?_;rintro c d ⟨rfl,rfl⟩))
    have c:one s i=⟨0,5,i+aR s i,0⟩:=by rw[l.out,if_neg k.out]
    exact bodyPost_ret (v:=.tuple #[.agg #[vN 5,vN i,.string (s.extract i (i+aR s i)),vN 0],vN (i+aR s i),vN 0]) (by simp[results,Tryz.results31,go_sem]) Q ⟨dY c Q (by simp[cO]) Q Q,bY _ _ _⟩
   ·have n:(((s[i]'e).toNat:Int)==39)=true:=by simp;omega
    clear j;go_enter Tryz.func31,Tryz.ntmps31
    go_wp2_with (first|(go_at_call 52;refine(cH _ _).mono ?_;rintro c d ⟨rfl,rfl⟩)|(go_at_call 54;refine(cN _ _).mono ?_;rintro c d ⟨rfl,rfl⟩)|(go_at_call 55;refine(eC s (i+1) _ _ f oM oM).mono ?_;rintro c d ⟨rfl,rfl⟩)|(go_at_call 57;refine(gR s i _ f e).mono ?_;rintro c d ⟨rfl,rfl⟩))
    have c:one s i=⟨0,5,i+aR s i,0⟩:=by rw[l.out,if_neg k.out]
    exact bodyPost_ret (v:=.tuple #[.agg #[vN 5,vN i,.string (s.extract i (i+aR s i)),vN 0],vN (i+aR s i),vN 0]) (by simp[results,Tryz.results31,go_sem]) Q ⟨dY c Q (by simp[cO]) Q Q,bY _ _ _⟩
theorem vm (s:ByteArray) (i:Nat) (w:World) (c:s.size<=6000) (d:i<s.size):
 Calls Tryz.prog 31 #[.string s,vN i] w λm n=>gC s i m/\Below (E (U w)) w n:=by
 cases e:cr (cR s i)
 ·cases f:eE (cR s i)
  ·by_cases j:cR s i=39
   ·by_cases k:i+1<s.size
    ·cases l:eE (cR s (i+1))
     ·exact iV s i w c d e f (.inr (.inr ⟨j,k,by rw[<-dw k];exact l⟩))
     ·exact pf s i w c d j k l
    ·exact iV s i w c d e f (.inr (.inl ⟨j,k⟩))
   ·exact iV s i w c d e f (.inl j)
  ·exact mD s i w c d f
 ·exact nH s i w c d e
theorem sV (s:ByteArray) (i:Nat) (w:World) (f:s.size<=6000) (j:i<s.size) (c:(one s i).err=0):
 Calls Tryz.prog 31 #[.string s,vN i] w λd e=>d=.returned (.tuple #[.agg #[vN (one s i).kind,vN i,.string (cO s i (one s i)),vN (one s i).n],vN (one s i).stop,vN 0])/\Below (E (U w)) w e:=by
 refine(vm s i w f j).mono ?_;rintro d e ⟨⟨a,b,t,l,m,rfl,h⟩,k⟩;obtain⟨rfl,rfl,rfl,rfl,rfl⟩:=h c;exact⟨by rw[c];rfl,k⟩
theorem qU (s:ByteArray) (i:Nat) (w:World) (j:s.size<=6000) (k:i<s.size):
 Calls Tryz.prog 31 #[.string s,vN i] w λe f=>(∃(a b:Int) (t:ByteArray) (c d:Int),e=.returned (.tuple #[.agg #[vN a,vN b,.string t,vN c],vN d,vN (one s i).err]))/\Below (E (U w)) w f:=by
 refine(vm s i w j k).mono ?_;rintro e f ⟨⟨a,b,t,c,d,rfl,h⟩,l⟩;exact⟨⟨a,b,t,c,d,Q⟩,l⟩
end
end Go.Proofs.YtdghkacbpebcoaaGreat
