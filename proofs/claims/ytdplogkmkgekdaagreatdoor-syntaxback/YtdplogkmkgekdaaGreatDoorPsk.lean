/- The project's writer: items. -/
import Derived.Test.YtdplogkmkgekdaaGreatDoorPsf
import Derived.Test.YtdplogkmkgekdaaGreatDoorTypes
import Derived.Test.YtdplogkmkgekdaaGreatDoorHdb
set_option linter.all false
set_option maxRecDepth 100000
set_option maxHeartbeats 4000000
namespace Go.Proofs.YtdplogkmkgekdaaGreatDoor
open Go.RowKit
section
variable {B:Nat} {w0 w:World} {wb f:Nat} {aT:List (List UInt8)} {kind pos n m:Int} {name:ByteArray} {ko:Option Addr} {kl kc:Nat}
theorem LQ {α:Type} {xs:List α} {l:Nat} (h:xs.length=l):(xs.length !=0)=decide (0<l):=by
 subst h
 cases xs<;>simp
theorem adh (hR:RP B w0 wb f) (hm:Mx B w0) (ht:Tab B w0):PW B w0 wb f 48 (ah 0 pos n m name (.slice ko kl kc)):=by
 refine PW.of fun w aT vs h hf hcap hkl hr hg hs hc=>?_
 have hn:=hr.nk hg
 have e:asm 0 n m (name:ByteArray).data.toList (vs.map (aB f w0))=bB (vs.map (aB f w0))++[]:=by
  rw[List.append_nil];rfl
 rw[e] at hf⊢
 clear e
 have q:=(Sp.start h hf).box (ah 0 pos n m name (.slice ko kl kc))
 have HL:Hid (NK B w0 f ko vs∧vs.length=kl):=⟨hn,hkl⟩
 clear h hf hr hg hc hkl hcap hn
 have F:=q.f1
 go_enter Tryz.func48,Tryz.ntmps48
 go_wp2_with (first
  |(go_at_call 105;refine q.go (fun a1 a2=>gq hR HL.out.1 HL.out.2 a1 a2) ?_;clear q F;intro w2 q;have F:=q.f1))
 all_goals(go_end0;exact q.done (by simp<;>rfl))
theorem adi (hR:RP B w0 wb f) (hm:Mx B w0) (ht:Tab B w0):PW B w0 wb f 48 (ah 1 pos n m name (.slice ko kl kc)):=by
 refine PW.of fun w aT vs h hf hcap hkl hr hg hs hc=>?_
 have hn:=hr.nk hg
 have e:asm 1 n m (name:ByteArray).data.toList (vs.map (aB f w0))=[[109,111,100],tl name,[123]]++(bB (vs.map (aB f w0))++[[125]]):=by
  rfl
 rw[e] at hf⊢
 clear e
 have q:=(Sp.start h hf).box (ah 1 pos n m name (.slice ko kl kc))
 have HL:Hid (NK B w0 f ko vs∧vs.length=kl):=⟨hn,hkl⟩
 clear h hf hr hg hc hkl hcap hn
 have F:=q.f1
 go_enter Tryz.func48,Tryz.ntmps48
 go_wp2_with (first
  |(go_at_call 106;refine q.puts (ss:=[⟨#[109,111,100]⟩,name,⟨#[123]⟩]) (hg:=by first|rfl|simp) (ho:=rfl) (hX:=rfl) (hn:=rfl) (hl:=by decide) ?_;clear q F;intro w2 q;have F:=q.f1)
  |(go_at_call 106;refine q.put ?_;clear q F;intro w2 q;have F:=q.f1)
  |(go_at_call 105;refine q.go (fun a1 a2=>gq hR HL.out.1 HL.out.2 a1 a2) ?_;clear q F;intro w2 q;have F:=q.f1))
 all_goals(go_end0;exact q.done (by simp<;>rfl))
theorem adj (hR:RP B w0 wb f) (hm:Mx B w0) (ht:Tab B w0):PW B w0 wb f 48 (ah 2 pos n m name (.slice ko kl kc)):=by
 refine PW.of fun w aT vs h hf hcap hkl hr hg hs hc=>?_
 have e:asm 2 n m (name:ByteArray).data.toList (vs.map (aB f w0))=[117,115,101]::jQ (tl name)::[59]::[]:=by
  rfl
 rw[e] at hf⊢
 clear e
 have q:=(Sp.start h hf).box (ah 2 pos n m name (.slice ko kl kc))
 clear h hf hr hg hc hkl hcap
 have F:=q.f1
 go_enter Tryz.func48,Tryz.ntmps48
 go_wp2_with (first
  |(go_at_call 106;refine q.put ?_;clear q F;intro w2 q;have F:=q.f1)
  |(go_at_call 107;refine q.go (fun a1 a2=>u6 hm hs a1 a2) ?_;clear q F;intro w2 q;have F:=q.f1))
 all_goals(go_end0;exact q.done (rfl))
theorem adk (hR:RP B w0 wb f) (hm:Mx B w0) (ht:Tab B w0):PW B w0 wb f 48 (ah 9 pos n m name (.slice ko kl kc)):=by
 refine PW.of fun w aT vs h hf hcap hkl hr hg hs hc=>?_
 have hn:=hr.nk hg
 have e:asm 9 n m (name:ByteArray).data.toList (vs.map (aB f w0))=oP (vs.map (aB f w0))++[]:=by
  rw[List.append_nil];rfl
 rw[e] at hf⊢
 clear e
 have q:=(Sp.start h hf).box (ah 9 pos n m name (.slice ko kl kc))
 have HL:Hid (NK B w0 f ko vs∧vs.length=kl):=⟨hn,hkl⟩
 clear h hf hr hg hc hkl hcap hn
 have F:=q.f1
 go_enter Tryz.func48,Tryz.ntmps48
 go_wp2_with (first
  |(go_at_call 114;refine q.go (fun a1 a2=>CZ hR HL.out.1 HL.out.2 a1 a2) ?_;clear q F;intro w2 q;have F:=q.f1))
 all_goals(go_end0;exact q.done (by simp<;>rfl))
theorem aaw (hR:RP B w0 wb f) (hm:Mx B w0) (ht:Tab B w0):PW B w0 wb f 48 (ah 10 pos n m name (.slice ko kl kc)):=by
 refine PW.of fun w aT vs h hf hcap hkl hr hg hs hc=>?_
 have hn:=hr.nk hg
 have e:asm 10 n m (name:ByteArray).data.toList (vs.map (aB f w0))=tl name::(aC (decide (0<kl)) [[58]]++(pSep (tl ⟨#[43]⟩) (vs.map (aB f w0))++[])):=by
  show tl name::(aC ((vs.map (aB f w0)).length !=0) [[58]]++pSep [43] (vs.map (aB f w0)))=_;rw[LQ (l:=kl) (by rw[List.length_map];exact hkl),List.append_nil];rfl
 rw[e] at hf⊢
 clear e
 have q:=(Sp.start h hf).box (ah 10 pos n m name (.slice ko kl kc))
 have HL:Hid (NK B w0 f ko vs∧vs.length=kl):=⟨hn,hkl⟩
 clear h hf hr hg hc hkl hcap hn
 have F:=q.f1
 go_enter Tryz.func48,Tryz.ntmps48
 go_wp2_with (first
  |(go_at_call 106;refine q.put ?_;clear q F;intro w2 q;have F:=q.f1)
  |(go_at_call 115;refine q.when (ss:=[⟨#[58]⟩]) ?_;clear q F;intro w2 q;have F:=q.f1)
  |(go_at_call 116;refine q.go (fun a1 a2=>xk hR ⟨#[43]⟩ HL.out.1 HL.out.2 a1 a2) ?_;clear q F;intro w2 q;have F:=q.f1))
 all_goals(go_end0;exact q.done (by simp<;>rfl))
theorem aax (hR:RP B w0 wb f) (hm:Mx B w0) (ht:Tab B w0):PW B w0 wb f 48 (ah 11 pos n m name (.slice ko kl kc)):=by
 refine PW.of fun w aT vs h hf hcap hkl hr hg hs hc=>?_
 have hn:=hr.nk hg
 have e:asm 11 n m (name:ByteArray).data.toList (vs.map (aB f w0))=tl name::(aC (decide (0<kl)) [[58]]++(pSep (tl ⟨#[43]⟩) (vs.map (aB f w0))++[])):=by
  show tl name::(aC ((vs.map (aB f w0)).length !=0) [[58]]++pSep [43] (vs.map (aB f w0)))=_;rw[LQ (l:=kl) (by rw[List.length_map];exact hkl),List.append_nil];rfl
 rw[e] at hf⊢
 clear e
 have q:=(Sp.start h hf).box (ah 11 pos n m name (.slice ko kl kc))
 have HL:Hid (NK B w0 f ko vs∧vs.length=kl):=⟨hn,hkl⟩
 clear h hf hr hg hc hkl hcap hn
 have F:=q.f1
 go_enter Tryz.func48,Tryz.ntmps48
 go_wp2_with (first
  |(go_at_call 106;refine q.put ?_;clear q F;intro w2 q;have F:=q.f1)
  |(go_at_call 115;refine q.when (ss:=[⟨#[58]⟩]) ?_;clear q F;intro w2 q;have F:=q.f1)
  |(go_at_call 116;refine q.go (fun a1 a2=>xk hR ⟨#[43]⟩ HL.out.1 HL.out.2 a1 a2) ?_;clear q F;intro w2 q;have F:=q.f1))
 all_goals(go_end0;exact q.done (by simp<;>rfl))
theorem Xb (hR:RP B w0 wb f) (hm:Mx B w0) (ht:Tab B w0) (hmm:m=0) (hnn:n=0):PW B w0 wb f 108 (ah 3 pos n m name (.slice ko kl kc)):=by
 refine PW.of fun w aT vs h hf hcap hkl hr hg hs hc=>?_
 have hn:=hr.nk hg
 obtain rfl:m=0:=hmm
 obtain rfl:n=0:=hnn
 have e:asm 3 0 0 (name:ByteArray).data.toList (vs.map (aB f w0))=aC false [[112,117,98]]++(aC false [[99,111,112,121]]++([[115,116,114,117,99,116],tl name]++(bB (vs.map (aB f w0))++[]))):=by
  show aC ((0:Int)%2==1) [[112,117,98]]++aC (decide (2≤(0:Int))) [[99,111,112,121]]++([115,116,114,117,99,116]::tl name::bB (vs.map (aB f w0)))=_;rw[List.append_nil];simp[aC]
 rw[e] at hf⊢
 clear e
 have q:=(Sp.start h hf).box (ah 3 pos 0 0 name (.slice ko kl kc))
 have HL:Hid (NK B w0 f ko vs∧vs.length=kl):=⟨hn,hkl⟩
 clear h hf hr hg hc hkl hcap hn
 have F:=q.f1
 go_enter Tryz.func108,Tryz.ntmps108
 go_wp2_with (first
  |(go_at_call 115;refine q.when (ss:=[⟨#[99,111,112,121]⟩]) ?_;clear q F;intro w2 q;have F:=q.f1)
  |(go_at_call 115;refine q.when (ss:=[⟨#[112,117,98]⟩]) ?_;clear q F;intro w2 q;have F:=q.f1)
  |(go_at_call 106;refine q.puts (ss:=[⟨#[115,116,114,117,99,116]⟩,name]) (hg:=by first|rfl|simp) (ho:=rfl) (hX:=rfl) (hn:=rfl) (hl:=by decide) ?_;clear q F;intro w2 q;have F:=q.f1)
  |(go_at_call 105;refine q.go (fun a1 a2=>gq hR HL.out.1 HL.out.2 a1 a2) ?_;clear q F;intro w2 q;have F:=q.f1))
 all_goals(go_end0;exact q.done (by simp<;>rfl))
theorem Xc (hR:RP B w0 wb f) (hm:Mx B w0) (ht:Tab B w0) (hmm:m=0) (hnn:n=1):PW B w0 wb f 108 (ah 3 pos n m name (.slice ko kl kc)):=by
 refine PW.of fun w aT vs h hf hcap hkl hr hg hs hc=>?_
 have hn:=hr.nk hg
 obtain rfl:m=0:=hmm
 obtain rfl:n=1:=hnn
 have:kl≠0:=by
  obtain⟨-,⟨h0,-⟩|⟨-,zs,ji,-⟩⟩:=hg.data rfl
  ·omega
  ·have:=congrArg List.length ji
   simp at this;omega
 obtain⟨l1,rfl⟩:∃l1,kl=l1+1:=⟨kl - 1,by omega⟩
 obtain⟨c1,rfl⟩:∃c1,kc=c1+1:=⟨kc - 1,by omega⟩
 obtain⟨k0,p0,a0,b0,s0,o0,l0,c0,g,X0,Y0,Z0,e0,y0,z0,rfl,W0,fI,iF,C0⟩:=fP hR hn hc (i:=0) (by omega)
 obtain⟨us,dS⟩:∃us,us=vs.drop 1:=⟨_,rfl⟩
 have jW:us.length=l1:=by rw[dS,List.length_drop];omega
 have em:(vs.map (aB f w0)).drop 1=us.map (aB f w0):=by rw[dS,List.map_drop]
 have hb:=hn.row.few
 rw[hkl] at hb
 have e:asm 3 1 0 (name:ByteArray).data.toList (vs.map (aB f w0))=aC false [[112,117,98]]++(aC false [[99,111,112,121]]++([[101,110,117,109],tl name]++(X0++(bF [123] [125] (us.map (aB f w0))++[])))):=by
  show aC ((0:Int)%2==1) [[112,117,98]]++aC (decide (2≤(0:Int))) [[99,111,112,121]]++([101,110,117,109]::tl name::((kd (vs.map (aB f w0)) 0).t++bF [123] [125] ((vs.map (aB f w0)).drop 1)))=_;rw[e0,em,List.append_nil];simp[aC]
 rw[e] at hf⊢
 clear e
 have q:=(Sp.start h hf).box (ah 3 pos 1 0 name (.slice (some ⟨g,0,none⟩) (l1+1) (c1+1)))
 have HW0:=@aG _ @W0
 have aW:=@aG _ @C0
 have HL:Hid (NK B w0 f (some ⟨g,11,none⟩) us∧us.length=l1):=⟨by have:=hn.drop 1;rw[←dS] at this;simpa using this,jW⟩
 have HZ:Hid (∀a,c1=0→NK B w0 f a us):=fun a hz=>by
  obtain rfl:us=[]:=List.eq_nil_of_length_eq_zero (by omega)
  exact NK.nil
 have Ck:(l1:Int)+1≤20000:=by omega
 have hcI:(l1:Int)≤(c1:Int):=by omega
 clear e0 y0 z0 W0 fI iF C0
 clear h hf hr hg hc hkl hcap hn dS jW em hb
 have F:=q.f1
 have⟨lg,G0⟩:=q.k0 aW
 go_enter Tryz.func108,Tryz.ntmps108
 go_wp2_with (first
  |(go_at_call 115;refine q.when (ss:=[⟨#[99,111,112,121]⟩]) ?_;clear q F lg G0;intro w2 q;have F:=q.f1;have⟨lg,G0⟩:=q.k0 aW)
  |(go_at_call 115;refine q.when (ss:=[⟨#[112,117,98]⟩]) ?_;clear q F lg G0;intro w2 q;have F:=q.f1;have⟨lg,G0⟩:=q.k0 aW)
  |(go_at_call 106;refine q.puts (ss:=[⟨#[101,110,117,109]⟩,name]) (hg:=by first|rfl|simp) (ho:=rfl) (hX:=rfl) (hn:=rfl) (hl:=by decide) ?_;clear q F lg G0;intro w2 q;have F:=q.f1;have⟨lg,G0⟩:=q.k0 aW)
  |(go_at_call 117;refine q.go (fun a1 a2=>jg hR ⟨#[123]⟩ ⟨#[125]⟩ (HZ.out _ (by first|rfl|assumption|omega)) HL.out.2 a1 a2) ?_;clear q F lg G0;intro w2 q;have F:=q.f1;have⟨lg,G0⟩:=q.k0 aW)
  |(go_at_call 117;refine q.go (fun a1 a2=>jg hR ⟨#[123]⟩ ⟨#[125]⟩ HL.out.1 HL.out.2 a1 a2) ?_;clear q F lg G0;intro w2 q;have F:=q.f1;have⟨lg,G0⟩:=q.k0 aW)
  |(go_at_call 25;refine q.go (fun a1 a2=>HW0.out a1 a2) ?_;clear q F lg G0;intro w2 q;have F:=q.f1;have⟨lg,G0⟩:=q.k0 aW))
 all_goals(go_end0;exact q.done (by simp<;>rfl))
theorem Xd (hR:RP B w0 wb f) (hm:Mx B w0) (ht:Tab B w0) (hmm:m=1) (hnn:n=0):PW B w0 wb f 108 (ah 3 pos n m name (.slice ko kl kc)):=by
 refine PW.of fun w aT vs h hf hcap hkl hr hg hs hc=>?_
 have hn:=hr.nk hg
 obtain rfl:m=1:=hmm
 obtain rfl:n=0:=hnn
 have e:asm 3 0 1 (name:ByteArray).data.toList (vs.map (aB f w0))=aC true [[112,117,98]]++(aC false [[99,111,112,121]]++([[115,116,114,117,99,116],tl name]++(bB (vs.map (aB f w0))++[]))):=by
  show aC ((1:Int)%2==1) [[112,117,98]]++aC (decide (2≤(1:Int))) [[99,111,112,121]]++([115,116,114,117,99,116]::tl name::bB (vs.map (aB f w0)))=_;rw[List.append_nil];simp[aC]
 rw[e] at hf⊢
 clear e
 have q:=(Sp.start h hf).box (ah 3 pos 0 1 name (.slice ko kl kc))
 have HL:Hid (NK B w0 f ko vs∧vs.length=kl):=⟨hn,hkl⟩
 clear h hf hr hg hc hkl hcap hn
 have F:=q.f1
 go_enter Tryz.func108,Tryz.ntmps108
 go_wp2_with (first
  |(go_at_call 115;refine q.when (ss:=[⟨#[99,111,112,121]⟩]) ?_;clear q F;intro w2 q;have F:=q.f1)
  |(go_at_call 115;refine q.when (ss:=[⟨#[112,117,98]⟩]) ?_;clear q F;intro w2 q;have F:=q.f1)
  |(go_at_call 106;refine q.puts (ss:=[⟨#[115,116,114,117,99,116]⟩,name]) (hg:=by first|rfl|simp) (ho:=rfl) (hX:=rfl) (hn:=rfl) (hl:=by decide) ?_;clear q F;intro w2 q;have F:=q.f1)
  |(go_at_call 105;refine q.go (fun a1 a2=>gq hR HL.out.1 HL.out.2 a1 a2) ?_;clear q F;intro w2 q;have F:=q.f1))
 all_goals(go_end0;exact q.done (by simp<;>rfl))
theorem Xe (hR:RP B w0 wb f) (hm:Mx B w0) (ht:Tab B w0) (hmm:m=1) (hnn:n=1):PW B w0 wb f 108 (ah 3 pos n m name (.slice ko kl kc)):=by
 refine PW.of fun w aT vs h hf hcap hkl hr hg hs hc=>?_
 have hn:=hr.nk hg
 obtain rfl:m=1:=hmm
 obtain rfl:n=1:=hnn
 have:kl≠0:=by
  obtain⟨-,⟨h0,-⟩|⟨-,zs,ji,-⟩⟩:=hg.data rfl
  ·omega
  ·have:=congrArg List.length ji
   simp at this;omega
 obtain⟨l1,rfl⟩:∃l1,kl=l1+1:=⟨kl - 1,by omega⟩
 obtain⟨c1,rfl⟩:∃c1,kc=c1+1:=⟨kc - 1,by omega⟩
 obtain⟨k0,p0,a0,b0,s0,o0,l0,c0,g,X0,Y0,Z0,e0,y0,z0,rfl,W0,fI,iF,C0⟩:=fP hR hn hc (i:=0) (by omega)
 obtain⟨us,dS⟩:∃us,us=vs.drop 1:=⟨_,rfl⟩
 have jW:us.length=l1:=by rw[dS,List.length_drop];omega
 have em:(vs.map (aB f w0)).drop 1=us.map (aB f w0):=by rw[dS,List.map_drop]
 have hb:=hn.row.few
 rw[hkl] at hb
 have e:asm 3 1 1 (name:ByteArray).data.toList (vs.map (aB f w0))=aC true [[112,117,98]]++(aC false [[99,111,112,121]]++([[101,110,117,109],tl name]++(X0++(bF [123] [125] (us.map (aB f w0))++[])))):=by
  show aC ((1:Int)%2==1) [[112,117,98]]++aC (decide (2≤(1:Int))) [[99,111,112,121]]++([101,110,117,109]::tl name::((kd (vs.map (aB f w0)) 0).t++bF [123] [125] ((vs.map (aB f w0)).drop 1)))=_;rw[e0,em,List.append_nil];simp[aC]
 rw[e] at hf⊢
 clear e
 have q:=(Sp.start h hf).box (ah 3 pos 1 1 name (.slice (some ⟨g,0,none⟩) (l1+1) (c1+1)))
 have HW0:=@aG _ @W0
 have aW:=@aG _ @C0
 have HL:Hid (NK B w0 f (some ⟨g,11,none⟩) us∧us.length=l1):=⟨by have:=hn.drop 1;rw[←dS] at this;simpa using this,jW⟩
 have HZ:Hid (∀a,c1=0→NK B w0 f a us):=fun a hz=>by
  obtain rfl:us=[]:=List.eq_nil_of_length_eq_zero (by omega)
  exact NK.nil
 have Ck:(l1:Int)+1≤20000:=by omega
 have hcI:(l1:Int)≤(c1:Int):=by omega
 clear e0 y0 z0 W0 fI iF C0
 clear h hf hr hg hc hkl hcap hn dS jW em hb
 have F:=q.f1
 have⟨lg,G0⟩:=q.k0 aW
 go_enter Tryz.func108,Tryz.ntmps108
 go_wp2_with (first
  |(go_at_call 115;refine q.when (ss:=[⟨#[99,111,112,121]⟩]) ?_;clear q F lg G0;intro w2 q;have F:=q.f1;have⟨lg,G0⟩:=q.k0 aW)
  |(go_at_call 115;refine q.when (ss:=[⟨#[112,117,98]⟩]) ?_;clear q F lg G0;intro w2 q;have F:=q.f1;have⟨lg,G0⟩:=q.k0 aW)
  |(go_at_call 106;refine q.puts (ss:=[⟨#[101,110,117,109]⟩,name]) (hg:=by first|rfl|simp) (ho:=rfl) (hX:=rfl) (hn:=rfl) (hl:=by decide) ?_;clear q F lg G0;intro w2 q;have F:=q.f1;have⟨lg,G0⟩:=q.k0 aW)
  |(go_at_call 117;refine q.go (fun a1 a2=>jg hR ⟨#[123]⟩ ⟨#[125]⟩ (HZ.out _ (by first|rfl|assumption|omega)) HL.out.2 a1 a2) ?_;clear q F lg G0;intro w2 q;have F:=q.f1;have⟨lg,G0⟩:=q.k0 aW)
  |(go_at_call 117;refine q.go (fun a1 a2=>jg hR ⟨#[123]⟩ ⟨#[125]⟩ HL.out.1 HL.out.2 a1 a2) ?_;clear q F lg G0;intro w2 q;have F:=q.f1;have⟨lg,G0⟩:=q.k0 aW)
  |(go_at_call 25;refine q.go (fun a1 a2=>HW0.out a1 a2) ?_;clear q F lg G0;intro w2 q;have F:=q.f1;have⟨lg,G0⟩:=q.k0 aW))
 all_goals(go_end0;exact q.done (by simp<;>rfl))
theorem Xf (hR:RP B w0 wb f) (hm:Mx B w0) (ht:Tab B w0) (hmm:m=2) (hnn:n=0):PW B w0 wb f 108 (ah 3 pos n m name (.slice ko kl kc)):=by
 refine PW.of fun w aT vs h hf hcap hkl hr hg hs hc=>?_
 have hn:=hr.nk hg
 obtain rfl:m=2:=hmm
 obtain rfl:n=0:=hnn
 have e:asm 3 0 2 (name:ByteArray).data.toList (vs.map (aB f w0))=aC false [[112,117,98]]++(aC true [[99,111,112,121]]++([[115,116,114,117,99,116],tl name]++(bB (vs.map (aB f w0))++[]))):=by
  show aC ((2:Int)%2==1) [[112,117,98]]++aC (decide (2≤(2:Int))) [[99,111,112,121]]++([115,116,114,117,99,116]::tl name::bB (vs.map (aB f w0)))=_;rw[List.append_nil];simp[aC]
 rw[e] at hf⊢
 clear e
 have q:=(Sp.start h hf).box (ah 3 pos 0 2 name (.slice ko kl kc))
 have HL:Hid (NK B w0 f ko vs∧vs.length=kl):=⟨hn,hkl⟩
 clear h hf hr hg hc hkl hcap hn
 have F:=q.f1
 go_enter Tryz.func108,Tryz.ntmps108
 go_wp2_with (first
  |(go_at_call 115;refine q.when (ss:=[⟨#[99,111,112,121]⟩]) ?_;clear q F;intro w2 q;have F:=q.f1)
  |(go_at_call 115;refine q.when (ss:=[⟨#[112,117,98]⟩]) ?_;clear q F;intro w2 q;have F:=q.f1)
  |(go_at_call 106;refine q.puts (ss:=[⟨#[115,116,114,117,99,116]⟩,name]) (hg:=by first|rfl|simp) (ho:=rfl) (hX:=rfl) (hn:=rfl) (hl:=by decide) ?_;clear q F;intro w2 q;have F:=q.f1)
  |(go_at_call 105;refine q.go (fun a1 a2=>gq hR HL.out.1 HL.out.2 a1 a2) ?_;clear q F;intro w2 q;have F:=q.f1))
 all_goals(go_end0;exact q.done (by simp<;>rfl))
theorem Xg (hR:RP B w0 wb f) (hm:Mx B w0) (ht:Tab B w0) (hmm:m=2) (hnn:n=1):PW B w0 wb f 108 (ah 3 pos n m name (.slice ko kl kc)):=by
 refine PW.of fun w aT vs h hf hcap hkl hr hg hs hc=>?_
 have hn:=hr.nk hg
 obtain rfl:m=2:=hmm
 obtain rfl:n=1:=hnn
 have:kl≠0:=by
  obtain⟨-,⟨h0,-⟩|⟨-,zs,ji,-⟩⟩:=hg.data rfl
  ·omega
  ·have:=congrArg List.length ji
   simp at this;omega
 obtain⟨l1,rfl⟩:∃l1,kl=l1+1:=⟨kl - 1,by omega⟩
 obtain⟨c1,rfl⟩:∃c1,kc=c1+1:=⟨kc - 1,by omega⟩
 obtain⟨k0,p0,a0,b0,s0,o0,l0,c0,g,X0,Y0,Z0,e0,y0,z0,rfl,W0,fI,iF,C0⟩:=fP hR hn hc (i:=0) (by omega)
 obtain⟨us,dS⟩:∃us,us=vs.drop 1:=⟨_,rfl⟩
 have jW:us.length=l1:=by rw[dS,List.length_drop];omega
 have em:(vs.map (aB f w0)).drop 1=us.map (aB f w0):=by rw[dS,List.map_drop]
 have hb:=hn.row.few
 rw[hkl] at hb
 have e:asm 3 1 2 (name:ByteArray).data.toList (vs.map (aB f w0))=aC false [[112,117,98]]++(aC true [[99,111,112,121]]++([[101,110,117,109],tl name]++(X0++(bF [123] [125] (us.map (aB f w0))++[])))):=by
  show aC ((2:Int)%2==1) [[112,117,98]]++aC (decide (2≤(2:Int))) [[99,111,112,121]]++([101,110,117,109]::tl name::((kd (vs.map (aB f w0)) 0).t++bF [123] [125] ((vs.map (aB f w0)).drop 1)))=_;rw[e0,em,List.append_nil];simp[aC]
 rw[e] at hf⊢
 clear e
 have q:=(Sp.start h hf).box (ah 3 pos 1 2 name (.slice (some ⟨g,0,none⟩) (l1+1) (c1+1)))
 have HW0:=@aG _ @W0
 have aW:=@aG _ @C0
 have HL:Hid (NK B w0 f (some ⟨g,11,none⟩) us∧us.length=l1):=⟨by have:=hn.drop 1;rw[←dS] at this;simpa using this,jW⟩
 have HZ:Hid (∀a,c1=0→NK B w0 f a us):=fun a hz=>by
  obtain rfl:us=[]:=List.eq_nil_of_length_eq_zero (by omega)
  exact NK.nil
 have Ck:(l1:Int)+1≤20000:=by omega
 have hcI:(l1:Int)≤(c1:Int):=by omega
 clear e0 y0 z0 W0 fI iF C0
 clear h hf hr hg hc hkl hcap hn dS jW em hb
 have F:=q.f1
 have⟨lg,G0⟩:=q.k0 aW
 go_enter Tryz.func108,Tryz.ntmps108
 go_wp2_with (first
  |(go_at_call 115;refine q.when (ss:=[⟨#[99,111,112,121]⟩]) ?_;clear q F lg G0;intro w2 q;have F:=q.f1;have⟨lg,G0⟩:=q.k0 aW)
  |(go_at_call 115;refine q.when (ss:=[⟨#[112,117,98]⟩]) ?_;clear q F lg G0;intro w2 q;have F:=q.f1;have⟨lg,G0⟩:=q.k0 aW)
  |(go_at_call 106;refine q.puts (ss:=[⟨#[101,110,117,109]⟩,name]) (hg:=by first|rfl|simp) (ho:=rfl) (hX:=rfl) (hn:=rfl) (hl:=by decide) ?_;clear q F lg G0;intro w2 q;have F:=q.f1;have⟨lg,G0⟩:=q.k0 aW)
  |(go_at_call 117;refine q.go (fun a1 a2=>jg hR ⟨#[123]⟩ ⟨#[125]⟩ (HZ.out _ (by first|rfl|assumption|omega)) HL.out.2 a1 a2) ?_;clear q F lg G0;intro w2 q;have F:=q.f1;have⟨lg,G0⟩:=q.k0 aW)
  |(go_at_call 117;refine q.go (fun a1 a2=>jg hR ⟨#[123]⟩ ⟨#[125]⟩ HL.out.1 HL.out.2 a1 a2) ?_;clear q F lg G0;intro w2 q;have F:=q.f1;have⟨lg,G0⟩:=q.k0 aW)
  |(go_at_call 25;refine q.go (fun a1 a2=>HW0.out a1 a2) ?_;clear q F lg G0;intro w2 q;have F:=q.f1;have⟨lg,G0⟩:=q.k0 aW))
 all_goals(go_end0;exact q.done (by simp<;>rfl))
theorem Xh (hR:RP B w0 wb f) (hm:Mx B w0) (ht:Tab B w0) (hmm:m=3) (hnn:n=0):PW B w0 wb f 108 (ah 3 pos n m name (.slice ko kl kc)):=by
 refine PW.of fun w aT vs h hf hcap hkl hr hg hs hc=>?_
 have hn:=hr.nk hg
 obtain rfl:m=3:=hmm
 obtain rfl:n=0:=hnn
 have e:asm 3 0 3 (name:ByteArray).data.toList (vs.map (aB f w0))=aC true [[112,117,98]]++(aC true [[99,111,112,121]]++([[115,116,114,117,99,116],tl name]++(bB (vs.map (aB f w0))++[]))):=by
  show aC ((3:Int)%2==1) [[112,117,98]]++aC (decide (2≤(3:Int))) [[99,111,112,121]]++([115,116,114,117,99,116]::tl name::bB (vs.map (aB f w0)))=_;rw[List.append_nil];simp[aC]
 rw[e] at hf⊢
 clear e
 have q:=(Sp.start h hf).box (ah 3 pos 0 3 name (.slice ko kl kc))
 have HL:Hid (NK B w0 f ko vs∧vs.length=kl):=⟨hn,hkl⟩
 clear h hf hr hg hc hkl hcap hn
 have F:=q.f1
 go_enter Tryz.func108,Tryz.ntmps108
 go_wp2_with (first
  |(go_at_call 115;refine q.when (ss:=[⟨#[99,111,112,121]⟩]) ?_;clear q F;intro w2 q;have F:=q.f1)
  |(go_at_call 115;refine q.when (ss:=[⟨#[112,117,98]⟩]) ?_;clear q F;intro w2 q;have F:=q.f1)
  |(go_at_call 106;refine q.puts (ss:=[⟨#[115,116,114,117,99,116]⟩,name]) (hg:=by first|rfl|simp) (ho:=rfl) (hX:=rfl) (hn:=rfl) (hl:=by decide) ?_;clear q F;intro w2 q;have F:=q.f1)
  |(go_at_call 105;refine q.go (fun a1 a2=>gq hR HL.out.1 HL.out.2 a1 a2) ?_;clear q F;intro w2 q;have F:=q.f1))
 all_goals(go_end0;exact q.done (by simp<;>rfl))
theorem Xi (hR:RP B w0 wb f) (hm:Mx B w0) (ht:Tab B w0) (hmm:m=3) (hnn:n=1):PW B w0 wb f 108 (ah 3 pos n m name (.slice ko kl kc)):=by
 refine PW.of fun w aT vs h hf hcap hkl hr hg hs hc=>?_
 have hn:=hr.nk hg
 obtain rfl:m=3:=hmm
 obtain rfl:n=1:=hnn
 have:kl≠0:=by
  obtain⟨-,⟨h0,-⟩|⟨-,zs,ji,-⟩⟩:=hg.data rfl
  ·omega
  ·have:=congrArg List.length ji
   simp at this;omega
 obtain⟨l1,rfl⟩:∃l1,kl=l1+1:=⟨kl - 1,by omega⟩
 obtain⟨c1,rfl⟩:∃c1,kc=c1+1:=⟨kc - 1,by omega⟩
 obtain⟨k0,p0,a0,b0,s0,o0,l0,c0,g,X0,Y0,Z0,e0,y0,z0,rfl,W0,fI,iF,C0⟩:=fP hR hn hc (i:=0) (by omega)
 obtain⟨us,dS⟩:∃us,us=vs.drop 1:=⟨_,rfl⟩
 have jW:us.length=l1:=by rw[dS,List.length_drop];omega
 have em:(vs.map (aB f w0)).drop 1=us.map (aB f w0):=by rw[dS,List.map_drop]
 have hb:=hn.row.few
 rw[hkl] at hb
 have e:asm 3 1 3 (name:ByteArray).data.toList (vs.map (aB f w0))=aC true [[112,117,98]]++(aC true [[99,111,112,121]]++([[101,110,117,109],tl name]++(X0++(bF [123] [125] (us.map (aB f w0))++[])))):=by
  show aC ((3:Int)%2==1) [[112,117,98]]++aC (decide (2≤(3:Int))) [[99,111,112,121]]++([101,110,117,109]::tl name::((kd (vs.map (aB f w0)) 0).t++bF [123] [125] ((vs.map (aB f w0)).drop 1)))=_;rw[e0,em,List.append_nil];simp[aC]
 rw[e] at hf⊢
 clear e
 have q:=(Sp.start h hf).box (ah 3 pos 1 3 name (.slice (some ⟨g,0,none⟩) (l1+1) (c1+1)))
 have HW0:=@aG _ @W0
 have aW:=@aG _ @C0
 have HL:Hid (NK B w0 f (some ⟨g,11,none⟩) us∧us.length=l1):=⟨by have:=hn.drop 1;rw[←dS] at this;simpa using this,jW⟩
 have HZ:Hid (∀a,c1=0→NK B w0 f a us):=fun a hz=>by
  obtain rfl:us=[]:=List.eq_nil_of_length_eq_zero (by omega)
  exact NK.nil
 have Ck:(l1:Int)+1≤20000:=by omega
 have hcI:(l1:Int)≤(c1:Int):=by omega
 clear e0 y0 z0 W0 fI iF C0
 clear h hf hr hg hc hkl hcap hn dS jW em hb
 have F:=q.f1
 have⟨lg,G0⟩:=q.k0 aW
 go_enter Tryz.func108,Tryz.ntmps108
 go_wp2_with (first
  |(go_at_call 115;refine q.when (ss:=[⟨#[99,111,112,121]⟩]) ?_;clear q F lg G0;intro w2 q;have F:=q.f1;have⟨lg,G0⟩:=q.k0 aW)
  |(go_at_call 115;refine q.when (ss:=[⟨#[112,117,98]⟩]) ?_;clear q F lg G0;intro w2 q;have F:=q.f1;have⟨lg,G0⟩:=q.k0 aW)
  |(go_at_call 106;refine q.puts (ss:=[⟨#[101,110,117,109]⟩,name]) (hg:=by first|rfl|simp) (ho:=rfl) (hX:=rfl) (hn:=rfl) (hl:=by decide) ?_;clear q F lg G0;intro w2 q;have F:=q.f1;have⟨lg,G0⟩:=q.k0 aW)
  |(go_at_call 117;refine q.go (fun a1 a2=>jg hR ⟨#[123]⟩ ⟨#[125]⟩ (HZ.out _ (by first|rfl|assumption|omega)) HL.out.2 a1 a2) ?_;clear q F lg G0;intro w2 q;have F:=q.f1;have⟨lg,G0⟩:=q.k0 aW)
  |(go_at_call 117;refine q.go (fun a1 a2=>jg hR ⟨#[123]⟩ ⟨#[125]⟩ HL.out.1 HL.out.2 a1 a2) ?_;clear q F lg G0;intro w2 q;have F:=q.f1;have⟨lg,G0⟩:=q.k0 aW)
  |(go_at_call 25;refine q.go (fun a1 a2=>HW0.out a1 a2) ?_;clear q F lg G0;intro w2 q;have F:=q.f1;have⟨lg,G0⟩:=q.k0 aW))
 all_goals(go_end0;exact q.done (by simp<;>rfl))
theorem aay (hR:RP B w0 wb f) (hm:Mx B w0) (ht:Tab B w0) (hnm:(name.data.toList.length !=0)=false):PW B w0 wb f 109 (ah 4 pos n m name (.slice ko kl kc)):=by
 refine PW.of fun w aT vs h hf hcap hkl hr hg hs hc=>?_
 have hn:=hr.nk hg
 replace hnm:(name.data.toList.length !=0)=false:=hnm
 obtain rfl:=qG hnm
 have e:asm 4 n m (⟨#[]⟩:ByteArray).data.toList (vs.map (aB f w0))=bF [123] [125] (vs.map (aB f w0))++[]:=by
  rw[List.append_nil];rfl
 rw[e] at hf⊢
 clear e
 have q:=(Sp.start h hf).box (ah 4 pos n m ⟨#[]⟩ (.slice ko kl kc))
 have HL:Hid (NK B w0 f ko vs∧vs.length=kl):=⟨hn,hkl⟩
 clear h hf hr hg hc hkl hcap hn hnm
 have F:=q.f1
 go_enter Tryz.func109,Tryz.ntmps109
 go_wp2_with (first
  |(go_at_call 117;refine q.go (fun a1 a2=>jg hR ⟨#[123]⟩ ⟨#[125]⟩ HL.out.1 HL.out.2 a1 a2) ?_;clear q F;intro w2 q;have F:=q.f1))
 all_goals(go_end0;exact q.done (by simp<;>rfl))
theorem aaz (hR:RP B w0 wb f) (hm:Mx B w0) (ht:Tab B w0) (hnm:(name.data.toList.length !=0)=true) (hz0:kl=0):PW B w0 wb f 109 (ah 4 pos n m name (.slice ko kl kc)):=by
 refine PW.of fun w aT vs h hf hcap hkl hr hg hs hc=>?_
 have hn:=hr.nk hg
 replace hnm:(name.data.toList.length !=0)=true:=hnm
 have hne:=qU hnm
 have hn1:¬(tl name).length=0:=by simpa[tl] using hnm
 obtain rfl:kl=0:=hz0
 have e:asm 4 n m (name:ByteArray).data.toList (vs.map (aB f w0))=tl name::[]:=by
  show(if(tl name).length=0 then _ else tl name::ql (vs.map (aB f w0)))=_;rw[if_neg hn1,ql,if_pos (by rw[List.length_map];exact hkl)]
 rw[e] at hf⊢
 clear e
 have q:=(Sp.start h hf).box (ah 4 pos n m name (.slice ko 0 kc))
 clear h hf hr hg hc hkl hcap hn hnm hn1
 have F:=q.f1
 go_enter Tryz.func109,Tryz.ntmps109
 go_wp2_with (first
  |(go_at_call 106;refine q.put ?_;clear q F;intro w2 q;have F:=q.f1))
 all_goals(go_end0;exact q.done (by simp<;>rfl))
theorem aaA (hR:RP B w0 wb f) (hm:Mx B w0) (ht:Tab B w0) (hnm:(name.data.toList.length !=0)=true) (hz0:0<kl):PW B w0 wb f 109 (ah 4 pos n m name (.slice ko kl kc)):=by
 refine PW.of fun w aT vs h hf hcap hkl hr hg hs hc=>?_
 have hn:=hr.nk hg
 replace hnm:(name.data.toList.length !=0)=true:=hnm
 have hne:=qU hnm
 have hn1:¬(tl name).length=0:=by simpa[tl] using hnm
 have hI:(0:Int)<(kl:Int):=by omega
 have e:asm 4 n m (name:ByteArray).data.toList (vs.map (aB f w0))=tl name::(bF [40] [41] (vs.map (aB f w0))++[]):=by
  show(if(tl name).length=0 then _ else tl name::ql (vs.map (aB f w0)))=_;rw[if_neg hn1,ql,if_neg (by rw[List.length_map];omega),List.append_nil]
 rw[e] at hf⊢
 clear e
 have q:=(Sp.start h hf).box (ah 4 pos n m name (.slice ko kl kc))
 have HL:Hid (NK B w0 f ko vs∧vs.length=kl):=⟨hn,hkl⟩
 clear h hf hr hg hc hkl hcap hn hnm hn1 hz0
 have F:=q.f1
 go_enter Tryz.func109,Tryz.ntmps109
 go_wp2_with (first
  |(go_at_call 106;refine q.put ?_;clear q F;intro w2 q;have F:=q.f1)
  |(go_at_call 117;refine q.go (fun a1 a2=>jg hR ⟨#[40]⟩ ⟨#[41]⟩ HL.out.1 HL.out.2 a1 a2) ?_;clear q F;intro w2 q;have F:=q.f1))
 all_goals(go_end0;exact q.done (by simp<;>rfl))
theorem Xj (hR:RP B w0 wb f) (hm:Mx B w0) (ht:Tab B w0) (hm1:(m==1)=false) (hnm:(name.data.toList.length !=0)=false):PW B w0 wb f 110 (ah 5 pos n m name (.slice ko kl kc)):=by
 refine PW.of fun w aT vs h hf hcap hkl hr hg hs hc=>?_
 have hn:=hr.nk hg
 replace hm1:(m==1)=false:=hm1
 replace hnm:(name.data.toList.length !=0)=false:=hnm
 obtain rfl:=qG hnm
 have e:asm 5 n m (⟨#[]⟩:ByteArray).data.toList (vs.map (aB f w0))=aC false [[112,117,98]]++(aC false [[109,117,116]]++(aC false [(tl ⟨#[]⟩),[58]]++(bB (vs.map (aB f w0))++[]))):=by
  show aC (m==1) [[112,117,98]]++(aC ((tl ⟨#[]⟩).length !=0) [(tl ⟨#[]⟩),[58]]++bB (vs.map (aB f w0)))=_;rw[show((tl ⟨#[]⟩).length !=0)=false from rfl,show((m:Int)==1)=false from hm1,List.append_nil];simp[aC]
 rw[e] at hf⊢
 clear e
 have q:=(Sp.start h hf).box (ah 5 pos n m ⟨#[]⟩ (.slice ko kl kc))
 have HL:Hid (NK B w0 f ko vs∧vs.length=kl):=⟨hn,hkl⟩
 clear h hf hr hg hc hkl hcap hn hnm
 have F:=q.f1
 go_enter Tryz.func110,Tryz.ntmps110
 go_wp2_with (first
  |(go_at_call 115;refine q.when (ss:=[⟨#[]⟩,⟨#[58]⟩]) ?_;clear q F;intro w2 q;have F:=q.f1)
  |(go_at_call 115;refine q.when (ss:=[⟨#[109,117,116]⟩]) ?_;clear q F;intro w2 q;have F:=q.f1)
  |(go_at_call 115;refine q.when (ss:=[⟨#[112,117,98]⟩]) ?_;clear q F;intro w2 q;have F:=q.f1)
  |(go_at_call 105;refine q.go (fun a1 a2=>gq hR HL.out.1 HL.out.2 a1 a2) ?_;clear q F;intro w2 q;have F:=q.f1))
 all_goals(go_end0;exact q.done (by simp<;>rfl))
theorem Xk (hR:RP B w0 wb f) (hm:Mx B w0) (ht:Tab B w0) (hm1:(m==1)=false) (hnm:(name.data.toList.length !=0)=true):PW B w0 wb f 110 (ah 5 pos n m name (.slice ko kl kc)):=by
 refine PW.of fun w aT vs h hf hcap hkl hr hg hs hc=>?_
 have hn:=hr.nk hg
 replace hm1:(m==1)=false:=hm1
 replace hnm:(name.data.toList.length !=0)=true:=hnm
 have hne:=qU hnm
 have e:asm 5 n m (name:ByteArray).data.toList (vs.map (aB f w0))=aC false [[112,117,98]]++(aC false [[109,117,116]]++(aC true [(tl name),[58]]++(bB (vs.map (aB f w0))++[]))):=by
  show aC (m==1) [[112,117,98]]++(aC ((tl name).length !=0) [(tl name),[58]]++bB (vs.map (aB f w0)))=_;rw[show((tl name).length !=0)=true from hnm,show((m:Int)==1)=false from hm1,List.append_nil];simp[aC]
 rw[e] at hf⊢
 clear e
 have q:=(Sp.start h hf).box (ah 5 pos n m name (.slice ko kl kc))
 have HL:Hid (NK B w0 f ko vs∧vs.length=kl):=⟨hn,hkl⟩
 clear h hf hr hg hc hkl hcap hn hnm
 have F:=q.f1
 go_enter Tryz.func110,Tryz.ntmps110
 go_wp2_with (first
  |(go_at_call 115;refine q.when (ss:=[name,⟨#[58]⟩]) ?_;clear q F;intro w2 q;have F:=q.f1)
  |(go_at_call 115;refine q.when (ss:=[⟨#[109,117,116]⟩]) ?_;clear q F;intro w2 q;have F:=q.f1)
  |(go_at_call 115;refine q.when (ss:=[⟨#[112,117,98]⟩]) ?_;clear q F;intro w2 q;have F:=q.f1)
  |(go_at_call 105;refine q.go (fun a1 a2=>gq hR HL.out.1 HL.out.2 a1 a2) ?_;clear q F;intro w2 q;have F:=q.f1))
 all_goals(go_end0;exact q.done (by simp<;>rfl))
theorem Xl (hR:RP B w0 wb f) (hm:Mx B w0) (ht:Tab B w0) (hm1:(m==1)=true) (hnm:(name.data.toList.length !=0)=false):PW B w0 wb f 110 (ah 5 pos n m name (.slice ko kl kc)):=by
 refine PW.of fun w aT vs h hf hcap hkl hr hg hs hc=>?_
 have hn:=hr.nk hg
 obtain rfl:m=1:=by simpa using hm1
 replace hnm:(name.data.toList.length !=0)=false:=hnm
 obtain rfl:=qG hnm
 have e:asm 5 n 1 (⟨#[]⟩:ByteArray).data.toList (vs.map (aB f w0))=aC true [[112,117,98]]++(aC false [[109,117,116]]++(aC false [(tl ⟨#[]⟩),[58]]++(bB (vs.map (aB f w0))++[]))):=by
  show aC (1==1) [[112,117,98]]++(aC ((tl ⟨#[]⟩).length !=0) [(tl ⟨#[]⟩),[58]]++bB (vs.map (aB f w0)))=_;rw[show((tl ⟨#[]⟩).length !=0)=false from rfl,show((1:Int)==1)=true from rfl,List.append_nil];simp[aC]
 rw[e] at hf⊢
 clear e
 have q:=(Sp.start h hf).box (ah 5 pos n 1 ⟨#[]⟩ (.slice ko kl kc))
 have HL:Hid (NK B w0 f ko vs∧vs.length=kl):=⟨hn,hkl⟩
 clear h hf hr hg hc hkl hcap hn hnm
 have F:=q.f1
 go_enter Tryz.func110,Tryz.ntmps110
 go_wp2_with (first
  |(go_at_call 115;refine q.when (ss:=[⟨#[]⟩,⟨#[58]⟩]) ?_;clear q F;intro w2 q;have F:=q.f1)
  |(go_at_call 115;refine q.when (ss:=[⟨#[109,117,116]⟩]) ?_;clear q F;intro w2 q;have F:=q.f1)
  |(go_at_call 115;refine q.when (ss:=[⟨#[112,117,98]⟩]) ?_;clear q F;intro w2 q;have F:=q.f1)
  |(go_at_call 105;refine q.go (fun a1 a2=>gq hR HL.out.1 HL.out.2 a1 a2) ?_;clear q F;intro w2 q;have F:=q.f1))
 all_goals(go_end0;exact q.done (by simp<;>rfl))
theorem Xm (hR:RP B w0 wb f) (hm:Mx B w0) (ht:Tab B w0) (hm1:(m==1)=true) (hnm:(name.data.toList.length !=0)=true):PW B w0 wb f 110 (ah 5 pos n m name (.slice ko kl kc)):=by
 refine PW.of fun w aT vs h hf hcap hkl hr hg hs hc=>?_
 have hn:=hr.nk hg
 obtain rfl:m=1:=by simpa using hm1
 replace hnm:(name.data.toList.length !=0)=true:=hnm
 have hne:=qU hnm
 have e:asm 5 n 1 (name:ByteArray).data.toList (vs.map (aB f w0))=aC true [[112,117,98]]++(aC false [[109,117,116]]++(aC true [(tl name),[58]]++(bB (vs.map (aB f w0))++[]))):=by
  show aC (1==1) [[112,117,98]]++(aC ((tl name).length !=0) [(tl name),[58]]++bB (vs.map (aB f w0)))=_;rw[show((tl name).length !=0)=true from hnm,show((1:Int)==1)=true from rfl,List.append_nil];simp[aC]
 rw[e] at hf⊢
 clear e
 have q:=(Sp.start h hf).box (ah 5 pos n 1 name (.slice ko kl kc))
 have HL:Hid (NK B w0 f ko vs∧vs.length=kl):=⟨hn,hkl⟩
 clear h hf hr hg hc hkl hcap hn hnm
 have F:=q.f1
 go_enter Tryz.func110,Tryz.ntmps110
 go_wp2_with (first
  |(go_at_call 115;refine q.when (ss:=[name,⟨#[58]⟩]) ?_;clear q F;intro w2 q;have F:=q.f1)
  |(go_at_call 115;refine q.when (ss:=[⟨#[109,117,116]⟩]) ?_;clear q F;intro w2 q;have F:=q.f1)
  |(go_at_call 115;refine q.when (ss:=[⟨#[112,117,98]⟩]) ?_;clear q F;intro w2 q;have F:=q.f1)
  |(go_at_call 105;refine q.go (fun a1 a2=>gq hR HL.out.1 HL.out.2 a1 a2) ?_;clear q F;intro w2 q;have F:=q.f1))
 all_goals(go_end0;exact q.done (by simp<;>rfl))
theorem RJ (hR:RP B w0 wb f) (hm:Mx B w0) (ht:Tab B w0) (hm1:(m==1)=false) (hnm:(name.data.toList.length !=0)=false):PW B w0 wb f 110 (ah 12 pos n m name (.slice ko kl kc)):=by
 refine PW.of fun w aT vs h hf hcap hkl hr hg hs hc=>?_
 have hn:=hr.nk hg
 replace hm1:(m==1)=false:=hm1
 replace hnm:(name.data.toList.length !=0)=false:=hnm
 obtain rfl:=qG hnm
 have e:asm 12 n m (⟨#[]⟩:ByteArray).data.toList (vs.map (aB f w0))=aC false [[112,117,98]]++(aC false [[109,117,116]]++(aC false [(tl ⟨#[]⟩),[58]]++(bB (vs.map (aB f w0))++[]))):=by
  show aC (m==1) [[109,117,116]]++(aC ((tl ⟨#[]⟩).length !=0) [(tl ⟨#[]⟩),[58]]++bB (vs.map (aB f w0)))=_;rw[show((tl ⟨#[]⟩).length !=0)=false from rfl,show((m:Int)==1)=false from hm1,List.append_nil];simp[aC]
 rw[e] at hf⊢
 clear e
 have q:=(Sp.start h hf).box (ah 12 pos n m ⟨#[]⟩ (.slice ko kl kc))
 have HL:Hid (NK B w0 f ko vs∧vs.length=kl):=⟨hn,hkl⟩
 clear h hf hr hg hc hkl hcap hn hnm
 have F:=q.f1
 go_enter Tryz.func110,Tryz.ntmps110
 go_wp2_with (first
  |(go_at_call 115;refine q.when (ss:=[⟨#[]⟩,⟨#[58]⟩]) ?_;clear q F;intro w2 q;have F:=q.f1)
  |(go_at_call 115;refine q.when (ss:=[⟨#[109,117,116]⟩]) ?_;clear q F;intro w2 q;have F:=q.f1)
  |(go_at_call 115;refine q.when (ss:=[⟨#[112,117,98]⟩]) ?_;clear q F;intro w2 q;have F:=q.f1)
  |(go_at_call 105;refine q.go (fun a1 a2=>gq hR HL.out.1 HL.out.2 a1 a2) ?_;clear q F;intro w2 q;have F:=q.f1))
 all_goals(go_end0;exact q.done (by simp<;>rfl))
theorem RL (hR:RP B w0 wb f) (hm:Mx B w0) (ht:Tab B w0) (hm1:(m==1)=false) (hnm:(name.data.toList.length !=0)=true):PW B w0 wb f 110 (ah 12 pos n m name (.slice ko kl kc)):=by
 refine PW.of fun w aT vs h hf hcap hkl hr hg hs hc=>?_
 have hn:=hr.nk hg
 replace hm1:(m==1)=false:=hm1
 replace hnm:(name.data.toList.length !=0)=true:=hnm
 have hne:=qU hnm
 have e:asm 12 n m (name:ByteArray).data.toList (vs.map (aB f w0))=aC false [[112,117,98]]++(aC false [[109,117,116]]++(aC true [(tl name),[58]]++(bB (vs.map (aB f w0))++[]))):=by
  show aC (m==1) [[109,117,116]]++(aC ((tl name).length !=0) [(tl name),[58]]++bB (vs.map (aB f w0)))=_;rw[show((tl name).length !=0)=true from hnm,show((m:Int)==1)=false from hm1,List.append_nil];simp[aC]
 rw[e] at hf⊢
 clear e
 have q:=(Sp.start h hf).box (ah 12 pos n m name (.slice ko kl kc))
 have HL:Hid (NK B w0 f ko vs∧vs.length=kl):=⟨hn,hkl⟩
 clear h hf hr hg hc hkl hcap hn hnm
 have F:=q.f1
 go_enter Tryz.func110,Tryz.ntmps110
 go_wp2_with (first
  |(go_at_call 115;refine q.when (ss:=[name,⟨#[58]⟩]) ?_;clear q F;intro w2 q;have F:=q.f1)
  |(go_at_call 115;refine q.when (ss:=[⟨#[109,117,116]⟩]) ?_;clear q F;intro w2 q;have F:=q.f1)
  |(go_at_call 115;refine q.when (ss:=[⟨#[112,117,98]⟩]) ?_;clear q F;intro w2 q;have F:=q.f1)
  |(go_at_call 105;refine q.go (fun a1 a2=>gq hR HL.out.1 HL.out.2 a1 a2) ?_;clear q F;intro w2 q;have F:=q.f1))
 all_goals(go_end0;exact q.done (by simp<;>rfl))
theorem RN (hR:RP B w0 wb f) (hm:Mx B w0) (ht:Tab B w0) (hm1:(m==1)=true) (hnm:(name.data.toList.length !=0)=false):PW B w0 wb f 110 (ah 12 pos n m name (.slice ko kl kc)):=by
 refine PW.of fun w aT vs h hf hcap hkl hr hg hs hc=>?_
 have hn:=hr.nk hg
 obtain rfl:m=1:=by simpa using hm1
 replace hnm:(name.data.toList.length !=0)=false:=hnm
 obtain rfl:=qG hnm
 have e:asm 12 n 1 (⟨#[]⟩:ByteArray).data.toList (vs.map (aB f w0))=aC false [[112,117,98]]++(aC true [[109,117,116]]++(aC false [(tl ⟨#[]⟩),[58]]++(bB (vs.map (aB f w0))++[]))):=by
  show aC (1==1) [[109,117,116]]++(aC ((tl ⟨#[]⟩).length !=0) [(tl ⟨#[]⟩),[58]]++bB (vs.map (aB f w0)))=_;rw[show((tl ⟨#[]⟩).length !=0)=false from rfl,show((1:Int)==1)=true from rfl,List.append_nil];simp[aC]
 rw[e] at hf⊢
 clear e
 have q:=(Sp.start h hf).box (ah 12 pos n 1 ⟨#[]⟩ (.slice ko kl kc))
 have HL:Hid (NK B w0 f ko vs∧vs.length=kl):=⟨hn,hkl⟩
 clear h hf hr hg hc hkl hcap hn hnm
 have F:=q.f1
 go_enter Tryz.func110,Tryz.ntmps110
 go_wp2_with (first
  |(go_at_call 115;refine q.when (ss:=[⟨#[]⟩,⟨#[58]⟩]) ?_;clear q F;intro w2 q;have F:=q.f1)
  |(go_at_call 115;refine q.when (ss:=[⟨#[109,117,116]⟩]) ?_;clear q F;intro w2 q;have F:=q.f1)
  |(go_at_call 115;refine q.when (ss:=[⟨#[112,117,98]⟩]) ?_;clear q F;intro w2 q;have F:=q.f1)
  |(go_at_call 105;refine q.go (fun a1 a2=>gq hR HL.out.1 HL.out.2 a1 a2) ?_;clear q F;intro w2 q;have F:=q.f1))
 all_goals(go_end0;exact q.done (by simp<;>rfl))
theorem RO (hR:RP B w0 wb f) (hm:Mx B w0) (ht:Tab B w0) (hm1:(m==1)=true) (hnm:(name.data.toList.length !=0)=true):PW B w0 wb f 110 (ah 12 pos n m name (.slice ko kl kc)):=by
 refine PW.of fun w aT vs h hf hcap hkl hr hg hs hc=>?_
 have hn:=hr.nk hg
 obtain rfl:m=1:=by simpa using hm1
 replace hnm:(name.data.toList.length !=0)=true:=hnm
 have hne:=qU hnm
 have e:asm 12 n 1 (name:ByteArray).data.toList (vs.map (aB f w0))=aC false [[112,117,98]]++(aC true [[109,117,116]]++(aC true [(tl name),[58]]++(bB (vs.map (aB f w0))++[]))):=by
  show aC (1==1) [[109,117,116]]++(aC ((tl name).length !=0) [(tl name),[58]]++bB (vs.map (aB f w0)))=_;rw[show((tl name).length !=0)=true from hnm,show((1:Int)==1)=true from rfl,List.append_nil];simp[aC]
 rw[e] at hf⊢
 clear e
 have q:=(Sp.start h hf).box (ah 12 pos n 1 name (.slice ko kl kc))
 have HL:Hid (NK B w0 f ko vs∧vs.length=kl):=⟨hn,hkl⟩
 clear h hf hr hg hc hkl hcap hn hnm
 have F:=q.f1
 go_enter Tryz.func110,Tryz.ntmps110
 go_wp2_with (first
  |(go_at_call 115;refine q.when (ss:=[name,⟨#[58]⟩]) ?_;clear q F;intro w2 q;have F:=q.f1)
  |(go_at_call 115;refine q.when (ss:=[⟨#[109,117,116]⟩]) ?_;clear q F;intro w2 q;have F:=q.f1)
  |(go_at_call 115;refine q.when (ss:=[⟨#[112,117,98]⟩]) ?_;clear q F;intro w2 q;have F:=q.f1)
  |(go_at_call 105;refine q.go (fun a1 a2=>gq hR HL.out.1 HL.out.2 a1 a2) ?_;clear q F;intro w2 q;have F:=q.f1))
 all_goals(go_end0;exact q.done (by simp<;>rfl))
theorem xq {T:List (List UInt8)} (HP:Wq B w0 wb 108 (ah 3 pos n m name (.slice ko kl kc)) T):Wq B w0 wb 48 (ah 3 pos n m name (.slice ko kl kc)) T:=by
 intro w aT h hf
 have q:=((Sp.start h hf).as (rest':=T++[]) (by simp)).box (ah 3 pos n m name (.slice ko kl kc))
 have H:=@aG _ @HP
 clear h hf HP
 have F:=q.f1
 go_enter Tryz.func48,Tryz.ntmps48
 go_wp2_with (go_at_call 108;refine q.go (fun a1 a2=>H.out a1 a2) ?_;clear q F;intro w2 q;have F:=q.f1)
 go_end0
 exact q.done (by simp)
theorem Nu {T:List (List UInt8)} (HP:Wq B w0 wb 109 (ah 4 pos n m name (.slice ko kl kc)) T):Wq B w0 wb 48 (ah 4 pos n m name (.slice ko kl kc)) T:=by
 intro w aT h hf
 have q:=((Sp.start h hf).as (rest':=T++[]) (by simp)).box (ah 4 pos n m name (.slice ko kl kc))
 have H:=@aG _ @HP
 clear h hf HP
 have F:=q.f1
 go_enter Tryz.func48,Tryz.ntmps48
 go_wp2_with (go_at_call 109;refine q.go (fun a1 a2=>H.out a1 a2) ?_;clear q F;intro w2 q;have F:=q.f1)
 go_end0
 exact q.done (by simp)
theorem Hq {T:List (List UInt8)} (HP:Wq B w0 wb 110 (ah 5 pos n m name (.slice ko kl kc)) T):Wq B w0 wb 48 (ah 5 pos n m name (.slice ko kl kc)) T:=by
 intro w aT h hf
 have q:=((Sp.start h hf).as (rest':=T++[]) (by simp)).box (ah 5 pos n m name (.slice ko kl kc))
 have H:=@aG _ @HP
 clear h hf HP
 have F:=q.f1
 go_enter Tryz.func48,Tryz.ntmps48
 go_wp2_with (go_at_call 110;refine q.go (fun a1 a2=>H.out a1 a2) ?_;clear q F;intro w2 q;have F:=q.f1)
 go_end0
 exact q.done (by simp)
theorem DZ {T:List (List UInt8)} (HP:Wq B w0 wb 110 (ah 12 pos n m name (.slice ko kl kc)) T):Wq B w0 wb 48 (ah 12 pos n m name (.slice ko kl kc)) T:=by
 intro w aT h hf
 have q:=((Sp.start h hf).as (rest':=T++[]) (by simp)).box (ah 12 pos n m name (.slice ko kl kc))
 have H:=@aG _ @HP
 clear h hf HP
 have F:=q.f1
 go_enter Tryz.func48,Tryz.ntmps48
 go_wp2_with (go_at_call 110;refine q.go (fun a1 a2=>H.out a1 a2) ?_;clear q F;intro w2 q;have F:=q.f1)
 go_end0
 exact q.done (by simp)
theorem adl {T:List (List UInt8)} (HP:Wq B w0 wb 111 (ah 6 pos n m name (.slice ko kl kc)) T):Wq B w0 wb 48 (ah 6 pos n m name (.slice ko kl kc)) T:=by
 intro w aT h hf
 have q:=((Sp.start h hf).as (rest':=T++[]) (by simp)).box (ah 6 pos n m name (.slice ko kl kc))
 have H:=@aG _ @HP
 clear h hf HP
 have F:=q.f1
 go_enter Tryz.func48,Tryz.ntmps48
 go_wp2_with (go_at_call 111;refine q.go (fun a1 a2=>H.out a1 a2) ?_;clear q F;intro w2 q;have F:=q.f1)
 go_end0
 exact q.done (by simp)
theorem adn {T:List (List UInt8)} (HP:Wq B w0 wb 112 (ah 7 pos n m name (.slice ko kl kc)) T):Wq B w0 wb 48 (ah 7 pos n m name (.slice ko kl kc)) T:=by
 intro w aT h hf
 have q:=((Sp.start h hf).as (rest':=T++[]) (by simp)).box (ah 7 pos n m name (.slice ko kl kc))
 have H:=@aG _ @HP
 clear h hf HP
 have F:=q.f1
 go_enter Tryz.func48,Tryz.ntmps48
 go_wp2_with (go_at_call 112;refine q.go (fun a1 a2=>H.out a1 a2) ?_;clear q F;intro w2 q;have F:=q.f1)
 go_end0
 exact q.done (by simp)
theorem ado {T:List (List UInt8)} (HP:Wq B w0 wb 113 (ah 8 pos n m name (.slice ko kl kc)) T):Wq B w0 wb 48 (ah 8 pos n m name (.slice ko kl kc)) T:=by
 intro w aT h hf
 have q:=((Sp.start h hf).as (rest':=T++[]) (by simp)).box (ah 8 pos n m name (.slice ko kl kc))
 have H:=@aG _ @HP
 clear h hf HP
 have F:=q.f1
 go_enter Tryz.func48,Tryz.ntmps48
 go_wp2_with (go_at_call 113;refine q.go (fun a1 a2=>H.out a1 a2) ?_;clear q F;intro w2 q;have F:=q.f1)
 go_end0
 exact q.done (by simp)
end
end Go.Proofs.YtdplogkmkgekdaaGreatDoor
