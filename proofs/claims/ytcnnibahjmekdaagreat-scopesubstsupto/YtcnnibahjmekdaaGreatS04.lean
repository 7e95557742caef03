import Derived.Test.YtcnnibahjmekdaaGreatS00
namespace Go.Proofs.YtcnnibahjmekdaaGreat
open Go.RowKit
open Value renaming slice→J
open List renaming length→O
open Option renaming none→I
open World renaming heap→U
open _root_.Array renaming size→E
open Obj renaming cells→Ob
set_option linter.all false
set_option maxRecDepth 100000
set_option maxHeartbeats 0
section
variable{s t:ByteArray} {a b:Int} {i:Nat}
def gC (s:ByteArray) (i:Nat) (e:Ending):Prop:=
 ∃(a b:Int) (t:ByteArray) (n j:Int),e=.returned (.tuple #[.agg #[vN a,vN b,.string t,vN n],vN j,vN (one s i).err])/\
  ((one s i).err=0->a=(one s i).kind/\b=i/\t=cS s i (one s i)/\n=(one s i).n/\j=((one s i).stop:Nat))
theorem eE {n j:Int} {k:Nat} (h:(one s i).err=k) (d:k≠0):gC s i (.returned (.tuple #[.agg #[vN a,vN b,.string t,vN n],vN j,vN (k:Int)])):=
 ⟨a,b,t,n,j,by rw[h],λc=>absurd c oM⟩
theorem eA {o:One} (h:one s i=o) (c:o.err=0) (d:cS s i o=t) (e:a=o.kind) (f:b=o.n):gC s i (.returned (.tuple #[.agg #[vN a,vN (i:Int),.string t,vN b],vN (o.stop:Int),vN 0])):=
 ⟨_,_,_,_,_,by rw[h,c];rfl,λ_=>⟨by rw[h,e],Q,by rw[h,d],by rw[h,f],by rw[h]⟩⟩
theorem rz (c:cr (cX s i)=true):one s i=if cI s i (az cr s i - i)<=9223372036854775807 then⟨0,1,az cr s i,cI s i (az cr s i - i)⟩ else⟨3,0,0,0⟩:=by
 rw[one,if_pos c]
theorem jQ {c:Nat} (h:eN c=true):cr c=false:=by
 simp only[eN,cr,decide_eq_true_eq,decide_eq_false_iff_not] at h⊢;omega
theorem kN (c:eN (cX s i)=true):one s i=if isWord (s.extract i (az bK s i)).toList then⟨0,3,az bK s i,0⟩ else if 20<az bK s i - i then⟨3,0,0,0⟩ else⟨0,2,az bK s i,0⟩:=by
 rw[one,if_neg (by simp[jQ c]),if_pos c]
theorem tg (h:cX s i=39) (c:eN (cX s (i+1))=true):one s i=if 21<az bK s (i+1) - i then⟨3,0,0,0⟩ else⟨0,4,az bK s (i+1),0⟩:=by
 rw[one,if_neg (by simp[h,cr]),if_neg (by simp[h,eN]),if_pos (by simp[h,c])]
theorem sZ (c:cr (cX s i)=false) (d:eN (cX s i)=false) (e:cX s i≠39\/eN (cX s (i+1))=false):one s i=if aP s i=0 then⟨2,0,0,0⟩ else⟨0,5,i+aP s i,0⟩:=by
 rw[one,if_neg (by simp[c]),if_neg (by simp[d]),if_neg];rcases e with h|h<;>simp[h]
theorem eK (s:ByteArray) (i:Nat) (x:Int) (w:World) (c:s.size<=6000) (d:i<=s.size) (e:x=(i:Nat)):Calls Tryz.prog 61 #[.string s,vN x] w λf j=>f=.returned (vN (az bK s i))/\j=w:=by
 subst e;exact wE s i w c d
theorem bV (w:World) (c d:Obj):Below (E (U w)) w ((w.alloc c).alloc d):=((Below.refl _ _).alloc (lR _) _).alloc sQ _
theorem nT (s:ByteArray) (i:Nat) (w:World) (k:s.size<=6000) (d:i<s.size) (e:cr (cX s i)=true):
 Calls Tryz.prog 37 #[.string s,vN i] w λc f=>gC s i c/\Below (E (U w)) w f:=by
 have r:cr (s[i]'d).toNat=true:=by rw[<-dJ d];exact e
 have j:Hid (one s i=if cI s i (az cr s i - i)<=9223372036854775807 then⟨0,1,az cr s i,cI s i (az cr s i - i)⟩ else⟨3,0,0,0⟩):=rz e;clear e;go_enter Tryz.func37,Tryz.ntmps37
 go_wp2_with (first|(go_at_call 58;refine(cM _ _).mono ?_;rintro c f ⟨rfl,rfl⟩)|(go_at_call 59;refine(tF s i _ k (Nat.le_of_lt d)).mono ?_;rintro c f ⟨⟨l,m,rfl,n,o⟩,rfl⟩;cases m))
 ·obtain⟨p,q⟩:=o (by trivial);have c:one s i=⟨0,1,az cr s i,cI s i (az cr s i - i)⟩:=by rw[j.out,if_pos q]
  exact bodyPost_ret (v:=.tuple #[.agg #[vN 1,vN i,.string ⟨#[]⟩,vN (cI s i (az cr s i - i))],vN (az cr s i),vN 0]) (by simp[results,Tryz.results37,go_sem]) Q ⟨eA c Q Q Q Q,bV _ _ _⟩
 ·have p:=n (by trivial);have c:(one s i).err=3:=by rw[j.out,if_neg oM]
  exact bodyPost_ret (v:=.tuple #[.agg #[vN 1,vN i,.string ⟨#[]⟩,vN l],vN (az cr s i),vN 3]) (by simp[results,Tryz.results37,go_sem]) Q ⟨eE c dC,bV _ _ _⟩
theorem mF (s:ByteArray) (i:Nat) (w:World) (j:s.size<=6000) (e:i<s.size) (f:eN (cX s i)=true):
 Calls Tryz.prog 37 #[.string s,vN i] w λc d=>gC s i c/\Below (E (U w)) w d:=by
 have m:eN (s[i]'e).toNat=true:=by rw[<-dJ e];exact f
 have n:cr (s[i]'e).toNat=false:=jQ m;have k:Hid (one s i=if isWord (s.extract i (az bK s i)).toList then⟨0,3,az bK s i,0⟩ else if 20<az bK s i - i then⟨3,0,0,0⟩ else⟨0,2,az bK s i,0⟩):=kN f;have o:i<az bK s i:=eW e (by simp[bK,f]);have p:=eD bK s i oM;clear f
 cases l:isWord (s.extract i (az bK s i)).toList
 ·by_cases q:(20:Int)<(az bK s i:Int) - i
  ·go_enter Tryz.func37,Tryz.ntmps37
   go_wp2_with (first|(go_at_call 58;refine(cM _ _).mono ?_;rintro c d ⟨rfl,rfl⟩)|(go_at_call 60;refine(cR _ _).mono ?_;rintro c d ⟨rfl,rfl⟩)|(go_at_call 61;refine(eK s i _ _ j oM Q).mono ?_;rintro c d ⟨rfl,rfl⟩)|(go_at_call 62;refine(oU _ _).mono ?_;rintro c d ⟨rfl,rfl⟩))
   have c:(one s i).err=3:=by rw[k.out,if_neg (by simp[l]),if_pos oM]
   exact bodyPost_ret (v:=.tuple #[.agg #[vN 2,vN i,.string (s.extract i (az bK s i)),vN 0],vN (az bK s i),vN 3]) (by simp[results,Tryz.results37,go_sem]) Q ⟨eE c dC,bV _ _ _⟩
  ·go_enter Tryz.func37,Tryz.ntmps37
   go_wp2_with (first|(go_at_call 58;refine(cM _ _).mono ?_;rintro c d ⟨rfl,rfl⟩)|(go_at_call 60;refine(cR _ _).mono ?_;rintro c d ⟨rfl,rfl⟩)|(go_at_call 61;refine(eK s i _ _ j oM Q).mono ?_;rintro c d ⟨rfl,rfl⟩)|(go_at_call 62;refine(oU _ _).mono ?_;rintro c d ⟨rfl,rfl⟩))
   have c:one s i=⟨0,2,az bK s i,0⟩:=by rw[k.out,if_neg (by simp[l]),if_neg oM]
   exact bodyPost_ret (v:=.tuple #[.agg #[vN 2,vN i,.string (s.extract i (az bK s i)),vN 0],vN (az bK s i),vN 0]) (by simp[results,Tryz.results37,go_sem]) Q ⟨eA c Q (by simp[cS]) Q Q,bV _ _ _⟩
 ·go_enter Tryz.func37,Tryz.ntmps37
  go_wp2_with (first|(go_at_call 58;refine(cM _ _).mono ?_;rintro c d ⟨rfl,rfl⟩)|(go_at_call 60;refine(cR _ _).mono ?_;rintro c d ⟨rfl,rfl⟩)|(go_at_call 61;refine(eK s i _ _ j oM Q).mono ?_;rintro c d ⟨rfl,rfl⟩)|(go_at_call 62;refine(oU _ _).mono ?_;rintro c d ⟨rfl,rfl⟩))
  have c:one s i=⟨0,3,az bK s i,0⟩:=by rw[k.out,if_pos l]
  exact bodyPost_ret (v:=.tuple #[.agg #[vN 3,vN i,.string (s.extract i (az bK s i)),vN 0],vN (az bK s i),vN 0]) (by simp[results,Tryz.results37,go_sem]) Q ⟨eA c Q (by simp[cS]) Q Q,bV _ _ _⟩
theorem pz (s:ByteArray) (i:Nat) (w:World) (f:s.size<=6000) (e:i<s.size) (l:cX s i=39) (m:i+1<s.size) (j:eN (cX s (i+1))=true):
 Calls Tryz.prog 37 #[.string s,vN i] w λc d=>gC s i c/\Below (E (U w)) w d:=by
 have o:eN (s[i+1]'m).toNat=true:=by rw[<-dJ m];exact j
 have k:(s[i]'e).toNat=39:=by rw[<-dJ e];exact l
 have p:cr (s[i]'e).toNat=false:=by rw[k];rfl
 have q:eN (s[i]'e).toNat=false:=by rw[k];rfl
 have r:(((s[i]'e).toNat:Int)==39)=true:=by simp[k]
 have n:Hid (one s i=if 21<az bK s (i+1) - i then⟨3,0,0,0⟩ else⟨0,4,az bK s (i+1),0⟩):=tg l j;have u:i+1<az bK s (i+1):=eW m (by simp[bK,j]);have x:=eD bK s (i+1) oM;clear j l k;by_cases y:(21:Int)<(az bK s (i+1):Int) - i
 ·go_enter Tryz.func37,Tryz.ntmps37
  go_wp2_with (first|(go_at_call 58;refine(cM _ _).mono ?_;rintro c d ⟨rfl,rfl⟩)|(go_at_call 60;refine(cR _ _).mono ?_;rintro c d ⟨rfl,rfl⟩)|(go_at_call 61;refine(eK s (i+1) _ _ f oM oM).mono ?_;rintro c d ⟨rfl,rfl⟩)|(go_at_call 63;refine(gT s i _ f e).mono ?_;rintro c d ⟨rfl,rfl⟩))
  have c:(one s i).err=3:=by rw[n.out,if_pos oM]
  exact bodyPost_ret (v:=.tuple #[.agg #[vN 4,vN i,.string (s.extract i (az bK s (i+1))),vN 0],vN (az bK s (i+1)),vN 3]) (by simp[results,Tryz.results37,go_sem]) Q ⟨eE c dC,bV _ _ _⟩
 ·go_enter Tryz.func37,Tryz.ntmps37
  go_wp2_with (first|(go_at_call 58;refine(cM _ _).mono ?_;rintro c d ⟨rfl,rfl⟩)|(go_at_call 60;refine(cR _ _).mono ?_;rintro c d ⟨rfl,rfl⟩)|(go_at_call 61;refine(eK s (i+1) _ _ f oM oM).mono ?_;rintro c d ⟨rfl,rfl⟩)|(go_at_call 63;refine(gT s i _ f e).mono ?_;rintro c d ⟨rfl,rfl⟩))
  have c:one s i=⟨0,4,az bK s (i+1),0⟩:=by rw[n.out,if_neg oM]
  exact bodyPost_ret (v:=.tuple #[.agg #[vN 4,vN i,.string (s.extract i (az bK s (i+1))),vN 0],vN (az bK s (i+1)),vN 0]) (by simp[results,Tryz.results37,go_sem]) Q ⟨eA c Q (by simp[cS]) Q Q,bV _ _ _⟩
theorem iY (s:ByteArray) (i:Nat) (w:World) (f:s.size<=6000) (e:i<s.size) (o:cr (cX s i)=false) (p:eN (cX s i)=false)
 (hl:(cX s i≠39)\/(cX s i=39/\¬i+1<s.size)\/(cX s i=39/\∃h:i+1<s.size,eN (s[i+1]'h).toNat=false)):
  Calls Tryz.prog 37 #[.string s,vN i] w λc d=>gC s i c/\Below (E (U w)) w d:=by
  have q:cX s i≠39\/eN (cX s (i+1))=false:=by
   rcases hl with h|⟨_,h⟩|⟨_,h,h'⟩
   ·exact .inl h
   ·exact .inr (by rw[mV h];rfl)
   ·exact .inr (by rw[dJ h];exact h')
  have l:Hid (one s i=if aP s i=0 then⟨2,0,0,0⟩ else⟨0,5,i+aP s i,0⟩):=sZ o p q;have u:=gR e;clear q;rw[dJ e] at o p hl;by_cases m:aP s i=0
  ·have k:Hid (aP s i=0):=m;have r:((aP s i:Int)==0)=true:=by simp[m]
   clear m;rcases hl with j|⟨j,hi2⟩|⟨j,hi2,hl2⟩
   ·have n:(((s[i]'e).toNat:Int)==39)=false:=by simp;omega
    clear j;go_enter Tryz.func37,Tryz.ntmps37
    go_wp2_with (first|(go_at_call 58;refine(cM _ _).mono ?_;rintro c d ⟨rfl,rfl⟩)|(go_at_call 60;refine(cR _ _).mono ?_;rintro c d ⟨rfl,rfl⟩)|(go_at_call 61;refine(eK s (i+1) _ _ f oM oM).mono ?_;rintro c d ⟨rfl,rfl⟩)|(go_at_call 63;refine(gT s i _ f e).mono ?_;rintro c d ⟨rfl,rfl⟩))
    have c:(one s i).err=2:=by rw[l.out,if_pos k.out]
    exact bodyPost_ret (v:=.tuple #[.agg #[vN 0,vN i,.string ⟨#[]⟩,vN 0],vN (i),vN 2]) (by simp[results,Tryz.results37,go_sem]) Q ⟨eE c dC,bV _ _ _⟩
   ·have n:(((s[i]'e).toNat:Int)==39)=true:=by simp;omega
    clear j;go_enter Tryz.func37,Tryz.ntmps37
    go_wp2_with (first|(go_at_call 58;refine(cM _ _).mono ?_;rintro c d ⟨rfl,rfl⟩)|(go_at_call 60;refine(cR _ _).mono ?_;rintro c d ⟨rfl,rfl⟩)|(go_at_call 61;refine(eK s (i+1) _ _ f oM oM).mono ?_;rintro c d ⟨rfl,rfl⟩)|(go_at_call 63;refine(gT s i _ f e).mono ?_;rintro c d ⟨rfl,rfl⟩))
    have c:(one s i).err=2:=by rw[l.out,if_pos k.out]
    exact bodyPost_ret (v:=.tuple #[.agg #[vN 0,vN i,.string ⟨#[]⟩,vN 0],vN (i),vN 2]) (by simp[results,Tryz.results37,go_sem]) Q ⟨eE c dC,bV _ _ _⟩
   ·have n:(((s[i]'e).toNat:Int)==39)=true:=by simp;omega
    clear j;go_enter Tryz.func37,Tryz.ntmps37
    go_wp2_with (first|(go_at_call 58;refine(cM _ _).mono ?_;rintro c d ⟨rfl,rfl⟩)|(go_at_call 60;refine(cR _ _).mono ?_;rintro c d ⟨rfl,rfl⟩)|(go_at_call 61;refine(eK s (i+1) _ _ f oM oM).mono ?_;rintro c d ⟨rfl,rfl⟩)|(go_at_call 63;refine(gT s i _ f e).mono ?_;rintro c d ⟨rfl,rfl⟩))
    have c:(one s i).err=2:=by rw[l.out,if_pos k.out]
    exact bodyPost_ret (v:=.tuple #[.agg #[vN 0,vN i,.string ⟨#[]⟩,vN 0],vN (i),vN 2]) (by simp[results,Tryz.results37,go_sem]) Q ⟨eE c dC,bV _ _ _⟩
  ·have k:Hid (aP s i≠0):=m;have r:((aP s i:Int)==0)=false:=by simp;omega
   have x:0<aP s i:=oM;clear m;rcases hl with j|⟨j,hi2⟩|⟨j,hi2,hl2⟩
   ·have n:(((s[i]'e).toNat:Int)==39)=false:=by simp;omega
    clear j;go_enter Tryz.func37,Tryz.ntmps37
    go_wp2_with (first|(go_at_call 58;refine(cM _ _).mono ?_;rintro c d ⟨rfl,rfl⟩)|(go_at_call 60;refine(cR _ _).mono ?_;rintro c d ⟨rfl,rfl⟩)|(go_at_call 61;refine(eK s (i+1) _ _ f oM oM).mono ?_;rintro c d ⟨rfl,rfl⟩)|(go_at_call 63;refine(gT s i _ f e).mono ?_;rintro c d ⟨rfl,rfl⟩))
    have c:one s i=⟨0,5,i+aP s i,0⟩:=by rw[l.out,if_neg k.out]
    exact bodyPost_ret (v:=.tuple #[.agg #[vN 5,vN i,.string (s.extract i (i+aP s i)),vN 0],vN (i+aP s i),vN 0]) (by simp[results,Tryz.results37,go_sem]) Q ⟨eA c Q (by simp[cS]) Q Q,bV _ _ _⟩
   ·have n:(((s[i]'e).toNat:Int)==39)=true:=by simp;omega
    clear j;go_enter Tryz.func37,Tryz.ntmps37
    go_wp2_with (first|(go_at_call 58;refine(cM _ _).mono ?_;rintro c d ⟨rfl,rfl⟩)|(go_at_call 60;refine(cR _ _).mono ?_;rintro c d ⟨rfl,rfl⟩)|(go_at_call 61;refine(eK s (i+1) _ _ f oM oM).mono ?_;rintro c d ⟨rfl,rfl⟩)|(go_at_call 63;refine(gT s i _ f e).mono ?_;rintro c d ⟨rfl,rfl⟩))
    have c:one s i=⟨0,5,i+aP s i,0⟩:=by rw[l.out,if_neg k.out]
    exact bodyPost_ret (v:=.tuple #[.agg #[vN 5,vN i,.string (s.extract i (i+aP s i)),vN 0],vN (i+aP s i),vN 0]) (by simp[results,Tryz.results37,go_sem]) Q ⟨eA c Q (by simp[cS]) Q Q,bV _ _ _⟩
   ·have n:(((s[i]'e).toNat:Int)==39)=true:=by simp;omega
    clear j;go_enter Tryz.func37,Tryz.ntmps37
    go_wp2_with (first|(go_at_call 58;refine(cM _ _).mono ?_;rintro c d ⟨rfl,rfl⟩)|(go_at_call 60;refine(cR _ _).mono ?_;rintro c d ⟨rfl,rfl⟩)|(go_at_call 61;refine(eK s (i+1) _ _ f oM oM).mono ?_;rintro c d ⟨rfl,rfl⟩)|(go_at_call 63;refine(gT s i _ f e).mono ?_;rintro c d ⟨rfl,rfl⟩))
    have c:one s i=⟨0,5,i+aP s i,0⟩:=by rw[l.out,if_neg k.out]
    exact bodyPost_ret (v:=.tuple #[.agg #[vN 5,vN i,.string (s.extract i (i+aP s i)),vN 0],vN (i+aP s i),vN 0]) (by simp[results,Tryz.results37,go_sem]) Q ⟨eA c Q (by simp[cS]) Q Q,bV _ _ _⟩
theorem vJ (s:ByteArray) (i:Nat) (w:World) (c:s.size<=6000) (d:i<s.size):
 Calls Tryz.prog 37 #[.string s,vN i] w λm n=>gC s i m/\Below (E (U w)) w n:=by
 cases e:cr (cX s i)
 ·cases f:eN (cX s i)
  ·by_cases j:cX s i=39
   ·by_cases k:i+1<s.size
    ·cases l:eN (cX s (i+1))
     ·exact iY s i w c d e f (.inr (.inr ⟨j,k,by rw[<-dJ k];exact l⟩))
     ·exact pz s i w c d j k l
    ·exact iY s i w c d e f (.inr (.inl ⟨j,k⟩))
   ·exact iY s i w c d e f (.inl j)
  ·exact mF s i w c d f
 ·exact nT s i w c d e
theorem tj (s:ByteArray) (i:Nat) (w:World) (f:s.size<=6000) (j:i<s.size) (c:(one s i).err=0):
 Calls Tryz.prog 37 #[.string s,vN i] w λd e=>d=.returned (.tuple #[.agg #[vN (one s i).kind,vN i,.string (cS s i (one s i)),vN (one s i).n],vN (one s i).stop,vN 0])/\Below (E (U w)) w e:=by
 refine(vJ s i w f j).mono ?_;rintro d e ⟨⟨a,b,t,l,m,rfl,h⟩,k⟩;obtain⟨rfl,rfl,rfl,rfl,rfl⟩:=h c;exact⟨by rw[c];rfl,k⟩
theorem rA (s:ByteArray) (i:Nat) (w:World) (j:s.size<=6000) (k:i<s.size):
 Calls Tryz.prog 37 #[.string s,vN i] w λe f=>(∃(a b:Int) (t:ByteArray) (c d:Int),e=.returned (.tuple #[.agg #[vN a,vN b,.string t,vN c],vN d,vN (one s i).err]))/\Below (E (U w)) w f:=by
 refine(vJ s i w j k).mono ?_;rintro e f ⟨⟨a,b,t,c,d,rfl,h⟩,l⟩;exact⟨⟨a,b,t,c,d,Q⟩,l⟩
end
section
variable{s:ByteArray} {b k:Nat} {acc:VV} {v:Value} {w wr:World}
theorem wV:(Tryz.prog.info? 103).map (λa=>(a.zero,a.size,a.bytes))=some (some (.agg #[vN 0,vN 0,.string ⟨#[]⟩,vN 0]),4,40):=by kernel_rfl
theorem lK {c:World} {base:Nat} {e:TypeId} {size:Nat} {n:Nat} {xs:List Value} (h:w.ownsRow base e size v n xs) (d:Below (E (U w)) w c):c.ownsRow base e size v n xs:=by
 obtain⟨f,a⟩:=h;refine⟨f,?_⟩;rcases a with a|⟨g,cap,cur,hv,hbg,hg,rest⟩
 ·exact .inl a
 ·have i:g<E (U w):=(gE hg).1;exact .inr ⟨g,cap,cur,hv,hbg,by rw[d.block g i];exact hg,rest⟩
def fQ (s:ByteArray) (base:Nat) (e:Ending) (w':World):Prop:=
 match eM s with
 |.inl (k,i)=>e=.returned (.tuple #[J I 0 0,.agg #[vN k,vN i]])
 |.inr ts=>∃v,e=.returned (.tuple #[v,.agg #[vN 0,vN 0]])/\w'.ownsRow base 103 4 v (O ts) ts.flatten
structure iu (s:ByteArray) (w wr:World) (v:Value) (k b:Nat) (acc:VV):Prop where
 le:k<=s.size
 own:wr.ownsRow (E (U w)+1) 103 4 v (O acc) acc.flatten
 below:Below (E (U w)+1) (w.alloc (Ob #[vN 0,vN 0] 33)) wr
 same:lexFrom b s k acc=lexFrom s.size s 0 []
 fuel:s.size<=k+b
 bB:O acc<=k
theorem lu (w:World) (c0 c1 c2 c3:Value) (t:TypeId):∀c d,[c0,c1,c2,c3][c]? =some d->(w.alloc (Ob #[c0,c1,c2,c3] t)).cell? ((⟨E (U w),0,I⟩:Addr).add c)=some d:=by
 intro c d a;match c,a with
 |0,a=>simp at a;subst a;simp[Addr.add]
 |1,a=>simp at a;subst a;simp[Addr.add]
 |2,a=>simp at a;subst a;simp[Addr.add]
 |3,a=>simp at a;subst a;simp[Addr.add]
theorem lq {a b n:Int} {t:ByteArray}:∀c∈[Value.int .i64 a,vN b,.string t,vN n],c.oneCell'=true:=by
 intro c d;simp at d;rcases d with rfl|rfl|rfl|rfl<;>rfl
theorem kZ (h:Below (E (U w)+1) (w.alloc (Ob #[vN 0,vN 0] 33)) wr):
 wr.cell? ⟨E (U w),0,I⟩=some (vN 0)/\wr.cell? ⟨E (U w),1,I⟩=some (vN 0)/\wr.frozen? ⟨E (U w),0,I⟩=false/\wr.frozen? ⟨E (U w),1,I⟩=false:=by
 refine⟨?_,?_,?_,?_⟩
 ·rw[h.cell (p:=⟨E (U w),0,I⟩) sQ];simp
 ·rw[h.cell (p:=⟨E (U w),1,I⟩) sQ];simp
 ·rw[h.frozen (p:=⟨E (U w),0,I⟩) sQ];simp
 ·rw[h.frozen (p:=⟨E (U w),1,I⟩) sQ];simp
theorem iu.step (h:iu s w wr v k b acc) (m:k<s.size) {k':Nat} {acc':VV} {c:World} {d:Value}
 (n:k<k') (e:k'<=s.size) (f:∀a,lexFrom (a+1) s k acc=lexFrom a s k' acc') (i:c.ownsRow (E (U w)+1) 103 4 d (O acc') acc'.flatten)
 (j:Below (E (U w)+1) (w.alloc (Ob #[vN 0,vN 0] 33)) c) (l:O acc'<=k'):∃a,iu s w c d k' a acc':=by
  obtain⟨a,rfl⟩:∃a,b=a+1:=⟨b - 1,oH h.fuel⟩;exact⟨a,e,i,j,by rw[<-f];exact h.same,oH h.fuel,l⟩
theorem iu.end_ (h:iu s w wr v k b acc) (c:s.size<=6000) (a:¬k<s.size):eM s=.inr (acc++[fp 0 s.size ⟨#[]⟩ 0]):=by
 have:=h.same;rw[mN a] at this;rw[eM,if_neg oM,<-this]
theorem iu.bad (h:iu s w wr v k b acc) (i:s.size<=6000) (c:k<s.size) (d:fH (cX s k)=false) (e:cX s k≠35) (f:(one s k).err≠0):eM s=.inl ((one s k).err,k):=by
 obtain⟨a,rfl⟩:∃a,b=a+1:=⟨b - 1,oH h.fuel⟩;have:=h.same;rw[mO c d e f] at this;rw[eM,if_neg oM,<-this]
theorem jo (acc:VV) (c:List Value):(acc++[c]).flatten=acc.flatten++c:=sQ
theorem uS (s:ByteArray) (w:World) (u:s.size<=6000):
 Calls Tryz.prog 19 #[.string s] w λo P=>fQ s (E (U w)+1) o P/\Below (E (U w)) w P:=by
 obtain⟨R,S,T,V,W⟩:=info_parts wV;go_enter Tryz.func19,Tryz.ntmps19
 go_wp2_with fail;go_loopw [4,5] (λv z wr=>∃(k b:Nat) (acc:VV),z=vN k/\iu s w wr v k b acc) (λ_ z _=>s.size - (intOf z).toNat)
 case atStart=>exact⟨0,s.size,[],Q,⟨zL _,World.ownsRow_nil _ _ _ _,Below.refl _ _,Q,oM,sQ⟩⟩
 case round=>
  obtain⟨k,b,acc,rfl,c⟩:=hrel;have p:=c.le;have A:E (U w)+1<=E (U wr):=by have:=c.below.size;simpa using this
  by_cases a:k<s.size
  ·have m:Hid (cX s k=(s[k]'a).toNat):=dJ a;rcases(show(s[k]'a).toNat=32\/(s[k]'a).toNat=9\/(s[k]'a).toNat=10\/(s[k]'a).toNat=35\/((s[k]'a).toNat≠32/\(s[k]'a).toNat≠9/\(s[k]'a).toNat≠10/\(s[k]'a).toNat≠35) by omega) with d|d|d|d|⟨B,hc2,hc3,hc4⟩
   ·have j:Hid ((s[k]'a).toNat=32):=d;have x:(((s[k]'a).toNat:Int)==32)=true:=by rw[d];rfl
    clear d;go_wp2_with fail;obtain⟨f,i⟩:=c.step a (k':=k+1) oM oM (λf=>gj a (by rw[m.out,j.out];rfl)) c.own c.below (oH c.bB);go_roundw
    case rel=>exact⟨k+1,f,acc,by go_num,i⟩
    case measure=>simp[intOf];omega
   ·have j:Hid ((s[k]'a).toNat=9):=d;have x:(((s[k]'a).toNat:Int)==32)=false:=by rw[d];rfl
    have C:(((s[k]'a).toNat:Int)==9)=true:=by rw[d];rfl
    clear d;go_wp2_with fail;obtain⟨f,i⟩:=c.step a (k':=k+1) oM oM (λf=>gj a (by rw[m.out,j.out];rfl)) c.own c.below (oH c.bB);go_roundw
    case rel=>exact⟨k+1,f,acc,by go_num,i⟩
    case measure=>simp[intOf];omega
   ·have j:Hid ((s[k]'a).toNat=10):=d;have x:(((s[k]'a).toNat:Int)==32)=false:=by rw[d];rfl
    have C:(((s[k]'a).toNat:Int)==9)=false:=by rw[d];rfl
    have X:(((s[k]'a).toNat:Int)==10)=true:=by rw[d];rfl
    clear d;go_wp2_with fail;obtain⟨f,i⟩:=c.step a (k':=k+1) oM oM (λf=>gj a (by rw[m.out,j.out];rfl)) c.own c.below (oH c.bB);go_roundw
    case rel=>exact⟨k+1,f,acc,by go_num,i⟩
    case measure=>simp[intOf];omega
   ·have j:Hid ((s[k]'a).toNat=35):=d;have x:(((s[k]'a).toNat:Int)==32)=false:=by rw[d];rfl
    have C:(((s[k]'a).toNat:Int)==9)=false:=by rw[d];rfl
    have X:(((s[k]'a).toNat:Int)==10)=false:=by rw[d];rfl
    have af:(((s[k]'a).toNat:Int)==35)=true:=by rw[d];rfl
    clear d;have aj:k<az iG s k:=eW a (by rw[m.out,j.out];rfl);have ak:=eD iG s k p;go_wp2_with fail;go_loop [5] (λD=>∃e:Nat,k<=e/\e<=s.size/\D=vN e/\az iG s e=az iG s k) (λD=>s.size - (intOf D).toNat)
    case atStart=>exact⟨k,lR _,p,Q,Q⟩
    case round=>
     obtain⟨e,al,ao,rfl,Y⟩:=hrel;have F:Hid (az iG s e=az iG s k):=Y;clear Y;by_cases q:e<s.size
     ·have Z:Hid (cX s e=(s[e]'q).toNat):=dJ q
      cases aa:(((s[e]'q).toNat:Int) !=10)
      ·go_wp2_with fail;have o:az iG s e=e:=jw (by rw[Z.out];simp at aa;simp[iG];omega);have G:e=az iG s k:=by rw[<-F.out,o]
       obtain⟨f,i⟩:=c.step a (k':=e) oM oM (λf=>by rw[j3 a (by rw[m.out,j.out]),<-G]) c.own c.below (oH c.bB);go_roundw
       case rel=>exact⟨e,f,acc,Q,i⟩
       case measure=>simp[intOf];omega
      ·go_wp2_with fail;go_round
       case rel=>exact⟨e+1,oM,oM,by go_num,by rw[<-F.out];exact(fC q (by rw[Z.out];simp at aa;simp[iG];omega)).symm⟩
       case measure=>simp[intOf];omega
     ·go_wp2_with fail;have o:az iG s e=e:=iV q;have G:e=az iG s k:=by rw[<-F.out,o]
      obtain⟨f,i⟩:=c.step a (k':=e) oM oM (λf=>by rw[j3 a (by rw[m.out,j.out]),<-G]) c.own c.below (oH c.bB);go_roundw
      case rel=>exact⟨e,f,acc,Q,i⟩
      case measure=>simp[intOf];omega
   ·have x:(((s[k]'a).toNat:Int)==32)=false:=by simp;omega
    have C:(((s[k]'a).toNat:Int)==9)=false:=by simp;omega
    have X:(((s[k]'a).toNat:Int)==10)=false:=by simp;omega
    have af:(((s[k]'a).toNat:Int)==35)=false:=by simp;omega
    have ab:Hid (fH (cX s k)=false):=by show fH (cX s k)=false;rw[m.out];simp[fH];omega
    have ac:Hid (cX s k≠35):=by show cX s k≠35;rw[m.out];exact hc4
    clear B hc2 hc3 hc4;by_cases r:(one s k).err=0
    ·have y:Hid ((one s k).err=0):=r;have ad:=kM a r;clear r;go_wp2_with (first|(go_at_call 37;refine(tj s k _ u a y.out).mono ?_;rintro o n ⟨rfl,l⟩;have B:=lK c.own l)|(at_builtin;refine wpList_append_own _ Q (.tmp 59) (.tmp 61) 75 Q (E (U w)+1) 103 R _ 4 40 Tryz.underlying75 S T V W Q dC _ _ _ Q ((B.alloc _).alloc _) ⟨E (U n)+1,0,I⟩ 1 1 (fZ s k) Q Q ?c1 lq (by have:=c.bB;unfold maxLen;omega) (oH c.bB) ?c5 ?_;rotate_left 2;intro H ag K L _))
     case c1=>have:=lu (n.alloc (Ob #[vN (one s k).kind,vN k,.string (cS s k (one s k)),vN (one s k).n] 103)) (vN (one s k).kind) (vN k) (.string (cS s k (one s k))) (vN (one s k).n) 103;simpa[fZ,fp] using this
     case c5=>have:=l.size;simp;omega
     have ae:E (U wr)<=E (U n):=l.size;have t:Below (E (U w)+1) (w.alloc (Ob #[vN 0,vN 0] 33)) ag:=((((c.below.trans (l.mono A)).alloc oM _).alloc (by simp;omega) _)).grown L (by simp;omega) (λk p=>(c.own.lt k p).1);obtain⟨f,i⟩:=c.step a (k':=(one s k).stop) (acc':=acc++[fZ s k]) ad.1 ad.2 (λf=>mM a ab.out ac.out y.out) (by rw[jo,List.length_append];exact K) t (by have:=c.bB;simp;omega);go_roundw
     case rel=>exact⟨_,f,_,Q,i⟩
     case measure=>simp[intOf];omega
    ·have y:Hid ((one s k).err≠0):=r;have ap:(((one s k).err:Int) !=0)=true:=by simp;omega
     clear r;go_wp2_with (go_at_call 37;refine(rA s k _ u a).mono ?_;rintro o n ⟨⟨aq,ar,au,av,aw,rfl⟩,l⟩;have t:Below (E (U w)+1) (w.alloc (Ob #[vN 0,vN 0] 33)) n:=c.below.trans (l.mono A);obtain⟨M,N,ah,ai⟩:=kZ t;have ae:E (U w)<E (U n):=(by have:=t.size;simp at this;omega))
     refine bodyPost_ret (v:=.tuple #[J I 0 0,.agg #[vN (one s k).err,vN k]]) (by simp[results,Tryz.results19,go_sem,M,N,ae]) Q ⟨?_,?_⟩
     ·unfold fQ;rw[c.bad u a ab.out ac.out y.out]
     ·exact(((((Below.refl _ _).alloc (lR _) _).trans (t.mono sQ)).setCell sQ _).setCell sQ _).alloc (by simp;omega) _
  ·go_wp2_with (first|(at_builtin;refine wpList_append_own _ Q (.tmp 64) (.tmp 68) 75 Q (E (U w)+1) 103 R _ 4 40 Tryz.underlying75 S T V W Q dC _ _ _ Q (c.own.alloc _) ⟨E (U wr),0,I⟩ 1 1 [vN 0,vN s.size,.string ⟨#[]⟩,vN 0] rfl Q (lu _ _ _ _ _ _) lq (by have:=c.bB;unfold maxLen;omega) (oH c.bB) (by simp;omega) ?_;intro H n K L _;have l:Below (E (U w)+1) (w.alloc (Ob #[vN 0,vN 0] 33)) n:=(c.below.alloc A _).grown L (by simp;omega) (λk p=>(c.own.lt k p).1);obtain⟨M,N,ah,ai⟩:=kZ l)|fail)
   refine bodyPost_ret (v:=.tuple #[H,.agg #[vN 0,vN 0]]) (by simp[results,Tryz.results19,go_sem,M,N]) Q ⟨?_,?_⟩
   ·unfold fQ;rw[c.end_ u a];refine⟨H,Q,?_⟩;rw[jo,List.length_append];exact ownsRow_setCell_below (ownsRow_setCell_below K sQ _) sQ _
   ·exact((((Below.refl _ _).alloc (lR _) _).trans (l.mono sQ)).setCell sQ _).setCell sQ _
theorem mg (s:ByteArray) (w:World) (c:6000<s.size) (d:s.size<=maxLen):
 Calls Tryz.prog 19 #[.string s] w λe a=>fQ s (E (U w)+1) e a/\Below (E (U w)) w a:=by
 unfold maxLen at d;go_enter Tryz.func19,Tryz.ntmps19
 go_wp2_with fail;refine bodyPost_ret (v:=.tuple #[J I 0 0,.agg #[vN 1,vN 0]]) (by simp[results,Tryz.results19,go_sem]) Q ⟨?_,(Below.refl _ _).alloc (lR _) _⟩;unfold fQ;rw[eM,if_pos c];rfl
theorem jI (s:ByteArray) (w:World) (c:s.size<=maxLen):Calls Tryz.prog 19 #[.string s] w λd a=>fQ s (E (U w)+1) d a/\Below (E (U w)) w a:=by
 by_cases e:s.size<=6000
 ·exact uS s w e
 ·exact mg s w oM c
end
end Go.Proofs.YtcnnibahjmekdaaGreat
