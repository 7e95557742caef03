/- The project's writer: expressions. -/
import Derived.Test.YtdplogkmkgekdaaGreatDoorPsf
import Derived.Test.YtdplogkmkgekdaaGreatDoorTypes
import Derived.Test.YtdplogkmkgekdaaGreatDoorHdb
set_option linter.all false
set_option maxRecDepth 100000
set_option maxHeartbeats 4000000
namespace Go.Proofs.YtdplogkmkgekdaaGreatDoor
open Go.RowKit
section
variable {B:Nat} {w0 w:World} {wb f:Nat} {aT:List (List UInt8)} {kind pos n m:Int} {name:ByteArray} {ko:Option Addr} {kl kc:Nat}
theorem ZQ (hR:RP B w0 wb f) (hm:Mx B w0) (ht:Tab B w0):PW B w0 wb f 50 (ah 20 pos n m name (.slice ko kl kc)):=by
 refine PW.of fun w aT vs h hf hcap hkl hr hg hs hc=>?_
 obtain⟨S,hS⟩:∃S:ByteArray,S=⟨(Lib.itoa n).toArray⟩:=⟨_,rfl⟩
 have OV:Hid (∀{W:World},Below B w0 W→Calls Tryz.prog 119 #[.int .i64 n] W (fun e w'=>e=.returned (.string S)∧Below W.heap.size W w')):=fun hb=>by rw[hS];exact IC ht (by have:=(hg.Ng rfl).1;omega) (hg.Ng rfl).2 hb
 have e:asm 20 n m (name:ByteArray).data.toList (vs.map (aB f w0))=tl S::[]:=by
  show [Lib.itoa n]=_;rw[hS];rfl
 rw[e] at hf⊢
 clear e
 have q:=(Sp.start h hf).box (ah 20 pos n m name (.slice ko kl kc))
 clear h hf hr hg hc hkl hcap hS
 have F:=q.f1
 go_enter Tryz.func50,Tryz.ntmps50
 go_wp2_with (first
  |(go_at_call 106;refine q.put ?_;clear q F;intro w2 q;have F:=q.f1)
  |(go_at_call 119;refine(OV.out q.wr.uZ).mono ?_;rintro e w1 ⟨rfl,hb1⟩;replace q:=q.below hb1;clear hb1 F;have F:=q.f1))
 all_goals(go_end0;exact q.done (by simp<;>rfl))
theorem ZR (hR:RP B w0 wb f) (hm:Mx B w0) (ht:Tab B w0):PW B w0 wb f 50 (ah 21 pos n m name (.slice ko kl kc)):=by
 refine PW.of fun w aT vs h hf hcap hkl hr hg hs hc=>?_
 have IG:=hg.Uf (.inl rfl)
 have e:asm 21 n m (name:ByteArray).data.toList (vs.map (aB f w0))=vS n++[]:=by
  rw[List.append_nil];rfl
 rw[e] at hf⊢
 clear e
 have q:=(Sp.start h hf).box (ah 21 pos n m name (.slice ko kl kc))
 have HB:=@aG _ @IG
 clear h hf hr hg hc hkl hcap IG
 have F:=q.f1
 go_enter Tryz.func50,Tryz.ntmps50
 go_wp2_with (first
  |(go_at_call 120;refine q.go (fun a1 a2=>F4 n HB.out a1 a2) ?_;clear q F;intro w2 q;have F:=q.f1))
 all_goals(go_end0;exact q.done (by simp<;>rfl))
theorem ZT (hR:RP B w0 wb f) (hm:Mx B w0) (ht:Tab B w0):PW B w0 wb f 50 (ah 22 pos n m name (.slice ko kl kc)):=by
 refine PW.of fun w aT vs h hf hcap hkl hr hg hs hc=>?_
 have hn:=hr.nk hg
 have e:asm 22 n m (name:ByteArray).data.toList (vs.map (aB f w0))=bF [40] [41] (vs.map (aB f w0))++[]:=by
  rw[List.append_nil];rfl
 rw[e] at hf⊢
 clear e
 have q:=(Sp.start h hf).box (ah 22 pos n m name (.slice ko kl kc))
 have HL:Hid (NK B w0 f ko vs∧vs.length=kl):=⟨hn,hkl⟩
 clear h hf hr hg hc hkl hcap hn
 have F:=q.f1
 go_enter Tryz.func50,Tryz.ntmps50
 go_wp2_with (first
  |(go_at_call 117;refine q.go (fun a1 a2=>jg hR ⟨#[40]⟩ ⟨#[41]⟩ HL.out.1 HL.out.2 a1 a2) ?_;clear q F;intro w2 q;have F:=q.f1))
 all_goals(go_end0;exact q.done (by simp<;>rfl))
theorem ZU (hR:RP B w0 wb f) (hm:Mx B w0) (ht:Tab B w0):PW B w0 wb f 50 (ah 23 pos n m name (.slice ko kl kc)):=by
 refine PW.of fun w aT vs h hf hcap hkl hr hg hs hc=>?_
 have hn:=hr.nk hg
 have e:asm 23 n m (name:ByteArray).data.toList (vs.map (aB f w0))=jQ (tl name)::(qm (vs.map (aB f w0))++[]):=by
  rw[List.append_nil];rfl
 rw[e] at hf⊢
 clear e
 have q:=(Sp.start h hf).box (ah 23 pos n m name (.slice ko kl kc))
 have HL:Hid (NK B w0 f ko vs∧vs.length=kl):=⟨hn,hkl⟩
 clear h hf hr hg hc hkl hcap hn
 have F:=q.f1
 go_enter Tryz.func50,Tryz.ntmps50
 go_wp2_with (first
  |(go_at_call 121;refine q.go (fun a1 a2=>vK hR HL.out.1 HL.out.2 a1 a2) ?_;clear q F;intro w2 q;have F:=q.f1)
  |(go_at_call 107;refine q.go (fun a1 a2=>u6 hm hs a1 a2) ?_;clear q F;intro w2 q;have F:=q.f1))
 all_goals(go_end0;exact q.done (by simp<;>rfl))
theorem ZV (hR:RP B w0 wb f) (hm:Mx B w0) (ht:Tab B w0):PW B w0 wb f 50 (ah 24 pos n m name (.slice ko kl kc)):=by
 refine PW.of fun w aT vs h hf hcap hkl hr hg hs hc=>?_
 have hn:=hr.nk hg
 have:kl≠0:=by
  have:=(hg.call rfl).1
  intro h0
  rw[h0] at hkl
  rw[List.eq_nil_of_length_eq_zero hkl] at this
  exact this rfl
 obtain⟨l1,rfl⟩:∃l1,kl=l1+1:=⟨kl - 1,by omega⟩
 obtain⟨c1,rfl⟩:∃c1,kc=c1+1:=⟨kc - 1,by omega⟩
 obtain⟨k0,p0,a0,b0,s0,o0,l0,c0,g,X0,Y0,Z0,e0,y0,z0,rfl,W0,fI,iF,C0⟩:=fP hR hn hc (i:=0) (by omega)
 obtain⟨us,dS⟩:∃us,us=vs.drop 1:=⟨_,rfl⟩
 have jW:us.length=l1:=by rw[dS,List.length_drop];omega
 have em:(vs.map (aB f w0)).drop 1=us.map (aB f w0):=by rw[dS,List.map_drop]
 have hb:=hn.row.few
 rw[hkl] at hb
 have e:asm 24 n m (name:ByteArray).data.toList (vs.map (aB f w0))=Y0++(bF [40] [41] (us.map (aB f w0))++[]):=by
  show gQ (kd (vs.map (aB f w0)) 0)++bF [40] [41] ((vs.map (aB f w0)).drop 1)=_;rw[e0,y0,em,List.append_nil]
 rw[e] at hf⊢
 clear e
 have q:=(Sp.start h hf).box (ah 24 pos n m name (.slice (some ⟨g,0,none⟩) (l1+1) (c1+1)))
 have kR:=@aG _ @fI
 have aW:=@aG _ @C0
 have HL:Hid (NK B w0 f (some ⟨g,11,none⟩) us∧us.length=l1):=⟨by have:=hn.drop 1;rw[←dS] at this;simpa using this,jW⟩
 have HZ:Hid (∀a,c1=0→NK B w0 f a us):=fun a hz=>by
  obtain rfl:us=[]:=List.eq_nil_of_length_eq_zero (by omega)
  exact NK.nil
 have Ck:(l1:Int)+1≤20000:=by omega
 have hcI:(l1:Int)≤(c1:Int):=by omega
 clear e0 y0 z0 W0 fI iF C0
 clear h hf hr hg hc hkl hcap hn dS jW em hb
 have F:=q.f1
 have⟨lg,G0⟩:=q.k0 aW
 go_enter Tryz.func50,Tryz.ntmps50
 go_wp2_with (first
  |(go_at_call 117;refine q.go (fun a1 a2=>jg hR ⟨#[40]⟩ ⟨#[41]⟩ (HZ.out _ (by first|rfl|assumption|omega)) HL.out.2 a1 a2) ?_;clear q F lg G0;intro w2 q;have F:=q.f1;have⟨lg,G0⟩:=q.k0 aW)
  |(go_at_call 117;refine q.go (fun a1 a2=>jg hR ⟨#[40]⟩ ⟨#[41]⟩ HL.out.1 HL.out.2 a1 a2) ?_;clear q F lg G0;intro w2 q;have F:=q.f1;have⟨lg,G0⟩:=q.k0 aW)
  |(go_at_call 122;refine q.go (fun a1 a2=>kR.out a1 a2) ?_;clear q F lg G0;intro w2 q;have F:=q.f1;have⟨lg,G0⟩:=q.k0 aW))
 all_goals(go_end0;exact q.done (by simp<;>rfl))
theorem WT (hR:RP B w0 wb f) (hm:Mx B w0) (ht:Tab B w0) (hnm:(name.data.toList.length !=0)=false):PW B w0 wb f 123 (ah 25 pos n m name (.slice ko kl kc)):=by
 refine PW.of fun w aT vs h hf hcap hkl hr hg hs hc=>?_
 have hn:=hr.nk hg
 obtain rfl:kl=1:=by
  obtain⟨y,ji,-⟩:=(hg.part rfl).2
  have:=congrArg List.length ji
  simp at this;omega
 replace hnm:(name.data.toList.length !=0)=false:=hnm
 obtain rfl:=qG hnm
 obtain⟨k0,p0,a0,b0,s0,o0,l0,c0,g,X0,Y0,Z0,e0,y0,z0,rfl,W0,fI,iF,C0⟩:=fP hR hn hc (i:=0) (by omega)
 obtain⟨S,hS⟩:∃S:ByteArray,S=⟨(Lib.itoa n).toArray⟩:=⟨_,rfl⟩
 have OV:Hid (∀{W:World},Below B w0 W→Calls Tryz.prog 119 #[.int .i64 n] W (fun e w'=>e=.returned (.string S)∧Below W.heap.size W w')):=fun hb=>by rw[hS];exact IC ht (by have:=(hg.part rfl).1.1;omega) (hg.part rfl).1.2 hb
 have e:asm 25 n m (⟨#[]⟩:ByteArray).data.toList (vs.map (aB f w0))=Y0++([46]::tl S::[]):=by
  show gQ (kd (vs.map (aB f w0)) 0)++[[46],Lib.itoa n]=_;rw[e0,y0,hS];rfl
 rw[e] at hf⊢
 clear e
 have q:=(Sp.start h hf).box (ah 25 pos n m ⟨#[]⟩ (.slice (some ⟨g,0,none⟩) 1 kc))
 have kR:=@aG _ @fI
 have aW:=@aG _ @C0
 clear e0 y0 z0 W0 fI iF C0
 clear h hf hr hg hc hkl hcap hn hnm hS
 have F:=q.f1
 have⟨lg,G0⟩:=q.k0 aW
 go_enter Tryz.func123,Tryz.ntmps123
 go_wp2_with (first
  |(go_at_call 106;refine q.put ?_;clear q F lg G0;intro w2 q;have F:=q.f1;have⟨lg,G0⟩:=q.k0 aW)
  |(go_at_call 122;refine q.go (fun a1 a2=>kR.out a1 a2) ?_;clear q F lg G0;intro w2 q;have F:=q.f1;have⟨lg,G0⟩:=q.k0 aW)
  |(go_at_call 119;refine(OV.out q.wr.uZ).mono ?_;rintro e w1 ⟨rfl,hb1⟩;replace q:=q.below hb1;clear hb1 F lg G0;have F:=q.f1;have⟨lg,G0⟩:=q.k0 aW))
 all_goals(go_end0;exact q.done (by simp<;>rfl))
theorem WU (hR:RP B w0 wb f) (hm:Mx B w0) (ht:Tab B w0) (hnm:(name.data.toList.length !=0)=true):PW B w0 wb f 123 (ah 25 pos n m name (.slice ko kl kc)):=by
 refine PW.of fun w aT vs h hf hcap hkl hr hg hs hc=>?_
 have hn:=hr.nk hg
 obtain rfl:kl=1:=by
  obtain⟨y,ji,-⟩:=(hg.part rfl).2
  have:=congrArg List.length ji
  simp at this;omega
 replace hnm:(name.data.toList.length !=0)=true:=hnm
 have hne:=qU hnm
 obtain⟨k0,p0,a0,b0,s0,o0,l0,c0,g,X0,Y0,Z0,e0,y0,z0,rfl,W0,fI,iF,C0⟩:=fP hR hn hc (i:=0) (by omega)
 have e:asm 25 n m (name:ByteArray).data.toList (vs.map (aB f w0))=Y0++([46]::tl name::[]):=by
  show gQ (kd (vs.map (aB f w0)) 0)++[[46],if(tl name).length=0 then Lib.itoa n else tl name]=_;rw[e0,y0,if_neg (by simpa[tl] using hnm)]
 rw[e] at hf⊢
 clear e
 have q:=(Sp.start h hf).box (ah 25 pos n m name (.slice (some ⟨g,0,none⟩) 1 kc))
 have kR:=@aG _ @fI
 have aW:=@aG _ @C0
 clear e0 y0 z0 W0 fI iF C0
 clear h hf hr hg hc hkl hcap hn hnm
 have F:=q.f1
 have⟨lg,G0⟩:=q.k0 aW
 go_enter Tryz.func123,Tryz.ntmps123
 go_wp2_with (first
  |(go_at_call 106;refine q.put ?_;clear q F lg G0;intro w2 q;have F:=q.f1;have⟨lg,G0⟩:=q.k0 aW)
  |(go_at_call 122;refine q.go (fun a1 a2=>kR.out a1 a2) ?_;clear q F lg G0;intro w2 q;have F:=q.f1;have⟨lg,G0⟩:=q.k0 aW))
 all_goals(go_end0;exact q.done (by simp<;>rfl))
theorem OX {T:List (List UInt8)} (HP:Wq B w0 wb 123 (ah 25 pos n m name (.slice ko kl kc)) T):Wq B w0 wb 50 (ah 25 pos n m name (.slice ko kl kc)) T:=by
 intro w aT h hf
 have q:=((Sp.start h hf).as (rest':=T++[]) (by simp)).box (ah 25 pos n m name (.slice ko kl kc))
 have H:=@aG _ @HP
 clear h hf HP
 have F:=q.f1
 go_enter Tryz.func50,Tryz.ntmps50
 go_wp2_with (go_at_call 123;refine q.go (fun a1 a2=>H.out a1 a2) ?_;clear q F;intro w2 q;have F:=q.f1)
 go_end0
 exact q.done (by simp)
theorem ZW (hR:RP B w0 wb f) (hm:Mx B w0) (ht:Tab B w0):PW B w0 wb f 124 (ah 26 pos n m name (.slice ko kl kc)):=by
 refine PW.of fun w aT vs h hf hcap hkl hr hg hs hc=>?_
 have hn:=hr.nk hg
 obtain rfl:kl=1:=by
  obtain⟨y,ji,-⟩:=hg.one (by decide)
  have:=congrArg List.length ji
  simp at this;omega
 obtain⟨k0,p0,a0,b0,s0,o0,l0,c0,g,X0,Y0,Z0,e0,y0,z0,rfl,W0,fI,iF,C0⟩:=fP hR hn hc (i:=0) (by omega)
 have e:asm 26 n m (name:ByteArray).data.toList (vs.map (aB f w0))=[42]::(Y0++[]):=by
  show [42]::gQ (kd (vs.map (aB f w0)) 0)=_;rw[e0,y0,List.append_nil]
 rw[e] at hf⊢
 clear e
 have q:=(Sp.start h hf).box (ah 26 pos n m name (.slice (some ⟨g,0,none⟩) 1 kc))
 have kR:=@aG _ @fI
 have aW:=@aG _ @C0
 clear e0 y0 z0 W0 fI iF C0
 clear h hf hr hg hc hkl hcap hn
 have F:=q.f1
 have⟨lg,G0⟩:=q.k0 aW
 go_enter Tryz.func124,Tryz.ntmps124
 go_wp2_with (first
  |(go_at_call 106;refine q.put ?_;clear q F lg G0;intro w2 q;have F:=q.f1;have⟨lg,G0⟩:=q.k0 aW)
  |(go_at_call 122;refine q.go (fun a1 a2=>kR.out a1 a2) ?_;clear q F lg G0;intro w2 q;have F:=q.f1;have⟨lg,G0⟩:=q.k0 aW))
 all_goals(go_end0;exact q.done (by simp<;>rfl))
theorem ZX (hR:RP B w0 wb f) (hm:Mx B w0) (ht:Tab B w0):PW B w0 wb f 124 (ah 27 pos n m name (.slice ko kl kc)):=by
 refine PW.of fun w aT vs h hf hcap hkl hr hg hs hc=>?_
 have hn:=hr.nk hg
 obtain rfl:kl=1:=by
  obtain⟨y,ji,-⟩:=(hg.lend rfl).2
  have:=congrArg List.length ji
  simp at this;omega
 obtain⟨k0,p0,a0,b0,s0,o0,l0,c0,g,X0,Y0,Z0,e0,y0,z0,rfl,W0,fI,iF,C0⟩:=fP hR hn hc (i:=0) (by omega)
 have e:asm 27 n m (name:ByteArray).data.toList (vs.map (aB f w0))=[38]::(aC (n==1) [[109,117,116]]++(Y0++[])):=by
  show [38]::(aC (n==1) [[109,117,116]]++gQ (kd (vs.map (aB f w0)) 0))=_;rw[e0,y0,List.append_nil]
 rw[e] at hf⊢
 clear e
 have q:=(Sp.start h hf).box (ah 27 pos n m name (.slice (some ⟨g,0,none⟩) 1 kc))
 have kR:=@aG _ @fI
 have aW:=@aG _ @C0
 clear e0 y0 z0 W0 fI iF C0
 clear h hf hr hg hc hkl hcap hn
 have F:=q.f1
 have⟨lg,G0⟩:=q.k0 aW
 go_enter Tryz.func124,Tryz.ntmps124
 go_wp2_with (first
  |(go_at_call 106;refine q.put ?_;clear q F lg G0;intro w2 q;have F:=q.f1;have⟨lg,G0⟩:=q.k0 aW)
  |(go_at_call 115;refine q.when (ss:=[⟨#[109,117,116]⟩]) ?_;clear q F lg G0;intro w2 q;have F:=q.f1;have⟨lg,G0⟩:=q.k0 aW)
  |(go_at_call 122;refine q.go (fun a1 a2=>kR.out a1 a2) ?_;clear q F lg G0;intro w2 q;have F:=q.f1;have⟨lg,G0⟩:=q.k0 aW))
 all_goals(go_end0;exact q.done (by simp<;>rfl))
theorem ZY (hR:RP B w0 wb f) (hm:Mx B w0) (ht:Tab B w0):PW B w0 wb f 124 (ah 28 pos n m name (.slice ko kl kc)):=by
 refine PW.of fun w aT vs h hf hcap hkl hr hg hs hc=>?_
 have hn:=hr.nk hg
 obtain rfl:kl=1:=by
  obtain⟨y,ji,-⟩:=hg.one (by decide)
  have:=congrArg List.length ji
  simp at this;omega
 obtain⟨k0,p0,a0,b0,s0,o0,l0,c0,g,X0,Y0,Z0,e0,y0,z0,rfl,W0,fI,iF,C0⟩:=fP hR hn hc (i:=0) (by omega)
 have e:asm 28 n m (name:ByteArray).data.toList (vs.map (aB f w0))=tl name::(Y0++[]):=by
  show tl name::gQ (kd (vs.map (aB f w0)) 0)=_;rw[e0,y0,List.append_nil]
 rw[e] at hf⊢
 clear e
 have q:=(Sp.start h hf).box (ah 28 pos n m name (.slice (some ⟨g,0,none⟩) 1 kc))
 have kR:=@aG _ @fI
 have aW:=@aG _ @C0
 clear e0 y0 z0 W0 fI iF C0
 clear h hf hr hg hc hkl hcap hn
 have F:=q.f1
 have⟨lg,G0⟩:=q.k0 aW
 go_enter Tryz.func124,Tryz.ntmps124
 go_wp2_with (first
  |(go_at_call 106;refine q.put ?_;clear q F lg G0;intro w2 q;have F:=q.f1;have⟨lg,G0⟩:=q.k0 aW)
  |(go_at_call 122;refine q.go (fun a1 a2=>kR.out a1 a2) ?_;clear q F lg G0;intro w2 q;have F:=q.f1;have⟨lg,G0⟩:=q.k0 aW))
 all_goals(go_end0;exact q.done (by simp<;>rfl))
theorem Z4 {T:List (List UInt8)} (HP:Wq B w0 wb 124 (ah 26 pos n m name (.slice ko kl kc)) T):Wq B w0 wb 50 (ah 26 pos n m name (.slice ko kl kc)) T:=by
 intro w aT h hf
 have q:=((Sp.start h hf).as (rest':=T++[]) (by simp)).box (ah 26 pos n m name (.slice ko kl kc))
 have H:=@aG _ @HP
 clear h hf HP
 have F:=q.f1
 go_enter Tryz.func50,Tryz.ntmps50
 go_wp2_with (go_at_call 124;refine q.go (fun a1 a2=>H.out a1 a2) ?_;clear q F;intro w2 q;have F:=q.f1)
 go_end0
 exact q.done (by simp)
theorem Z5 {T:List (List UInt8)} (HP:Wq B w0 wb 124 (ah 27 pos n m name (.slice ko kl kc)) T):Wq B w0 wb 50 (ah 27 pos n m name (.slice ko kl kc)) T:=by
 intro w aT h hf
 have q:=((Sp.start h hf).as (rest':=T++[]) (by simp)).box (ah 27 pos n m name (.slice ko kl kc))
 have H:=@aG _ @HP
 clear h hf HP
 have F:=q.f1
 go_enter Tryz.func50,Tryz.ntmps50
 go_wp2_with (go_at_call 124;refine q.go (fun a1 a2=>H.out a1 a2) ?_;clear q F;intro w2 q;have F:=q.f1)
 go_end0
 exact q.done (by simp)
theorem Z6 {T:List (List UInt8)} (HP:Wq B w0 wb 124 (ah 28 pos n m name (.slice ko kl kc)) T):Wq B w0 wb 50 (ah 28 pos n m name (.slice ko kl kc)) T:=by
 intro w aT h hf
 have q:=((Sp.start h hf).as (rest':=T++[]) (by simp)).box (ah 28 pos n m name (.slice ko kl kc))
 have H:=@aG _ @HP
 clear h hf HP
 have F:=q.f1
 go_enter Tryz.func50,Tryz.ntmps50
 go_wp2_with (go_at_call 124;refine q.go (fun a1 a2=>H.out a1 a2) ?_;clear q F;intro w2 q;have F:=q.f1)
 go_end0
 exact q.done (by simp)
theorem OY:Calls Tryz.prog 125 #[.agg (ah 29 pos n m name (.slice ko kl kc))] w (fun e w'=>e=.returned (.string name)∧Below w.heap.size w w'):=by
 have F:Hid (Below w.heap.size w w):=Below.refl _ _
 go_enter Tryz.func125,Tryz.ntmps125
 go_wp2_with fail
 exact bodyPost_ret (v:=.string name) (by simp[results,Tryz.results125,go_sem]) rfl ⟨rfl,(F.out.alloc (Nat.le_refl _) _)⟩
theorem Z7 (hR:RP B w0 wb f) (hm:Mx B w0) (ht:Tab B w0):PW B w0 wb f 50 (ah 29 pos n m name (.slice ko kl kc)):=by
 refine PW.of fun w aT vs h hf hcap hkl hr hg hs hc=>?_
 have hn:=hr.nk hg
 obtain rfl:kl=2:=by
  obtain⟨y,z,ji,-,-⟩:=hg.two (by decide)
  have:=congrArg List.length ji
  simp at this;omega
 obtain⟨k0,p0,a0,b0,s0,o0,l0,c0,g,X0,Y0,Z0,e0,y0,z0,rfl,W0,fI,iF,C0⟩:=fP hR hn hc (i:=0) (by omega)
 obtain⟨k1,p1,a1,b1,s1,o1,l1,c1,g1,X1,Y1,Z1,e1,y1,z1,lu,W1,oV,qy,C1⟩:=fP hR hn hc (i:=1) (by omega)
 obtain rfl:g=g1:=by simpa using lu
 have e:asm 29 n m (name:ByteArray).data.toList (vs.map (aB f w0))=Y0++(tl name::(Y1++[])):=by
  show gQ (kd (vs.map (aB f w0)) 0)++(tl name::gQ (kd (vs.map (aB f w0)) 1))=_;rw[e0,e1,y0,y1,List.append_nil]
 rw[e] at hf⊢
 clear e
 have q:=(Sp.start h hf).box (ah 29 pos n m name (.slice (some ⟨g,0,none⟩) 2 kc))
 have kR:=@aG _ @fI
 have aW:=@aG _ @C0
 have Da:=@aG _ @oV
 have dP:=@aG _ @C1
 clear e0 y0 z0 W0 fI iF C0
 clear e1 y1 z1 W1 oV qy C1 lu
 clear h hf hr hg hc hkl hcap hn
 have F:=q.f1
 have⟨lg,G0⟩:=q.k0 aW
 have G1:=fH (q.o dP).2
 go_enter Tryz.func50,Tryz.ntmps50
 go_wp2_with (first
  |(go_at_call 122;refine q.go (fun a1 a2=>Da.out a1 a2) ?_;clear q F lg G0 G1;intro w2 q;have F:=q.f1;have⟨lg,G0⟩:=q.k0 aW;have G1:=fH (q.o dP).2)
  |(go_at_call 106;refine q.put (s:=name) ?_;clear q F lg G0 G1;intro w2 q;have F:=q.f1;have⟨lg,G0⟩:=q.k0 aW;have G1:=fH (q.o dP).2)
  |(go_at_call 122;refine q.go (fun a1 a2=>kR.out a1 a2) ?_;clear q F lg G0 G1;intro w2 q;have F:=q.f1;have⟨lg,G0⟩:=q.k0 aW;have G1:=fH (q.o dP).2)
  |(go_at_call 125;refine OY.mono ?_;rintro e w1 ⟨rfl,hb1⟩;replace q:=q.below hb1;clear hb1 F lg G0 G1;have F:=q.f1;have⟨lg,G0⟩:=q.k0 aW;have G1:=fH (q.o dP).2))
 all_goals(go_end0;exact q.done (by simp<;>rfl))
theorem OZ:Calls Tryz.prog 125 #[.agg (ah 30 pos n m name (.slice ko kl kc))] w (fun e w'=>e=.returned (.string ⟨#[38,38]⟩)∧Below w.heap.size w w'):=by
 have F:Hid (Below w.heap.size w w):=Below.refl _ _
 go_enter Tryz.func125,Tryz.ntmps125
 go_wp2_with fail
 exact bodyPost_ret (v:=.string ⟨#[38,38]⟩) (by simp[results,Tryz.results125,go_sem]) rfl ⟨rfl,(F.out.alloc (Nat.le_refl _) _)⟩
theorem Z8 (hR:RP B w0 wb f) (hm:Mx B w0) (ht:Tab B w0):PW B w0 wb f 50 (ah 30 pos n m name (.slice ko kl kc)):=by
 refine PW.of fun w aT vs h hf hcap hkl hr hg hs hc=>?_
 have hn:=hr.nk hg
 obtain rfl:kl=2:=by
  obtain⟨y,z,ji,-,-⟩:=hg.two (by decide)
  have:=congrArg List.length ji
  simp at this;omega
 obtain⟨k0,p0,a0,b0,s0,o0,l0,c0,g,X0,Y0,Z0,e0,y0,z0,rfl,W0,fI,iF,C0⟩:=fP hR hn hc (i:=0) (by omega)
 obtain⟨k1,p1,a1,b1,s1,o1,l1,c1,g1,X1,Y1,Z1,e1,y1,z1,lu,W1,oV,qy,C1⟩:=fP hR hn hc (i:=1) (by omega)
 obtain rfl:g=g1:=by simpa using lu
 have e:asm 30 n m (name:ByteArray).data.toList (vs.map (aB f w0))=Y0++(tl ⟨#[38,38]⟩::(Y1++[])):=by
  show gQ (kd (vs.map (aB f w0)) 0)++(tl ⟨#[38,38]⟩::gQ (kd (vs.map (aB f w0)) 1))=_;rw[e0,e1,y0,y1,List.append_nil]
 rw[e] at hf⊢
 clear e
 have q:=(Sp.start h hf).box (ah 30 pos n m name (.slice (some ⟨g,0,none⟩) 2 kc))
 have kR:=@aG _ @fI
 have aW:=@aG _ @C0
 have Da:=@aG _ @oV
 have dP:=@aG _ @C1
 clear e0 y0 z0 W0 fI iF C0
 clear e1 y1 z1 W1 oV qy C1 lu
 clear h hf hr hg hc hkl hcap hn
 have F:=q.f1
 have⟨lg,G0⟩:=q.k0 aW
 have G1:=fH (q.o dP).2
 go_enter Tryz.func50,Tryz.ntmps50
 go_wp2_with (first
  |(go_at_call 122;refine q.go (fun a1 a2=>Da.out a1 a2) ?_;clear q F lg G0 G1;intro w2 q;have F:=q.f1;have⟨lg,G0⟩:=q.k0 aW;have G1:=fH (q.o dP).2)
  |(go_at_call 106;refine q.put (s:=⟨#[38,38]⟩) ?_;clear q F lg G0 G1;intro w2 q;have F:=q.f1;have⟨lg,G0⟩:=q.k0 aW;have G1:=fH (q.o dP).2)
  |(go_at_call 122;refine q.go (fun a1 a2=>kR.out a1 a2) ?_;clear q F lg G0 G1;intro w2 q;have F:=q.f1;have⟨lg,G0⟩:=q.k0 aW;have G1:=fH (q.o dP).2)
  |(go_at_call 125;refine OZ.mono ?_;rintro e w1 ⟨rfl,hb1⟩;replace q:=q.below hb1;clear hb1 F lg G0 G1;have F:=q.f1;have⟨lg,G0⟩:=q.k0 aW;have G1:=fH (q.o dP).2))
 all_goals(go_end0;exact q.done (by simp<;>rfl))
theorem O1:Calls Tryz.prog 125 #[.agg (ah 31 pos n m name (.slice ko kl kc))] w (fun e w'=>e=.returned (.string ⟨#[124,124]⟩)∧Below w.heap.size w w'):=by
 have F:Hid (Below w.heap.size w w):=Below.refl _ _
 go_enter Tryz.func125,Tryz.ntmps125
 go_wp2_with fail
 exact bodyPost_ret (v:=.string ⟨#[124,124]⟩) (by simp[results,Tryz.results125,go_sem]) rfl ⟨rfl,(F.out.alloc (Nat.le_refl _) _)⟩
theorem Z9 (hR:RP B w0 wb f) (hm:Mx B w0) (ht:Tab B w0):PW B w0 wb f 50 (ah 31 pos n m name (.slice ko kl kc)):=by
 refine PW.of fun w aT vs h hf hcap hkl hr hg hs hc=>?_
 have hn:=hr.nk hg
 obtain rfl:kl=2:=by
  obtain⟨y,z,ji,-,-⟩:=hg.two (by decide)
  have:=congrArg List.length ji
  simp at this;omega
 obtain⟨k0,p0,a0,b0,s0,o0,l0,c0,g,X0,Y0,Z0,e0,y0,z0,rfl,W0,fI,iF,C0⟩:=fP hR hn hc (i:=0) (by omega)
 obtain⟨k1,p1,a1,b1,s1,o1,l1,c1,g1,X1,Y1,Z1,e1,y1,z1,lu,W1,oV,qy,C1⟩:=fP hR hn hc (i:=1) (by omega)
 obtain rfl:g=g1:=by simpa using lu
 have e:asm 31 n m (name:ByteArray).data.toList (vs.map (aB f w0))=Y0++(tl ⟨#[124,124]⟩::(Y1++[])):=by
  show gQ (kd (vs.map (aB f w0)) 0)++(tl ⟨#[124,124]⟩::gQ (kd (vs.map (aB f w0)) 1))=_;rw[e0,e1,y0,y1,List.append_nil]
 rw[e] at hf⊢
 clear e
 have q:=(Sp.start h hf).box (ah 31 pos n m name (.slice (some ⟨g,0,none⟩) 2 kc))
 have kR:=@aG _ @fI
 have aW:=@aG _ @C0
 have Da:=@aG _ @oV
 have dP:=@aG _ @C1
 clear e0 y0 z0 W0 fI iF C0
 clear e1 y1 z1 W1 oV qy C1 lu
 clear h hf hr hg hc hkl hcap hn
 have F:=q.f1
 have⟨lg,G0⟩:=q.k0 aW
 have G1:=fH (q.o dP).2
 go_enter Tryz.func50,Tryz.ntmps50
 go_wp2_with (first
  |(go_at_call 122;refine q.go (fun a1 a2=>Da.out a1 a2) ?_;clear q F lg G0 G1;intro w2 q;have F:=q.f1;have⟨lg,G0⟩:=q.k0 aW;have G1:=fH (q.o dP).2)
  |(go_at_call 106;refine q.put (s:=⟨#[124,124]⟩) ?_;clear q F lg G0 G1;intro w2 q;have F:=q.f1;have⟨lg,G0⟩:=q.k0 aW;have G1:=fH (q.o dP).2)
  |(go_at_call 122;refine q.go (fun a1 a2=>kR.out a1 a2) ?_;clear q F lg G0 G1;intro w2 q;have F:=q.f1;have⟨lg,G0⟩:=q.k0 aW;have G1:=fH (q.o dP).2)
  |(go_at_call 125;refine O1.mono ?_;rintro e w1 ⟨rfl,hb1⟩;replace q:=q.below hb1;clear hb1 F lg G0 G1;have F:=q.f1;have⟨lg,G0⟩:=q.k0 aW;have G1:=fH (q.o dP).2))
 all_goals(go_end0;exact q.done (by simp<;>rfl))
theorem O4:Calls Tryz.prog 125 #[.agg (ah 32 pos n m name (.slice ko kl kc))] w (fun e w'=>e=.returned (.string ⟨#[61]⟩)∧Below w.heap.size w w'):=by
 have F:Hid (Below w.heap.size w w):=Below.refl _ _
 go_enter Tryz.func125,Tryz.ntmps125
 go_wp2_with fail
 exact bodyPost_ret (v:=.string ⟨#[61]⟩) (by simp[results,Tryz.results125,go_sem]) rfl ⟨rfl,(F.out.alloc (Nat.le_refl _) _)⟩
theorem aac (hR:RP B w0 wb f) (hm:Mx B w0) (ht:Tab B w0):PW B w0 wb f 50 (ah 32 pos n m name (.slice ko kl kc)):=by
 refine PW.of fun w aT vs h hf hcap hkl hr hg hs hc=>?_
 have hn:=hr.nk hg
 obtain rfl:kl=2:=by
  obtain⟨y,z,ji,-,-⟩:=hg.two (by decide)
  have:=congrArg List.length ji
  simp at this;omega
 obtain⟨k0,p0,a0,b0,s0,o0,l0,c0,g,X0,Y0,Z0,e0,y0,z0,rfl,W0,fI,iF,C0⟩:=fP hR hn hc (i:=0) (by omega)
 obtain⟨k1,p1,a1,b1,s1,o1,l1,c1,g1,X1,Y1,Z1,e1,y1,z1,lu,W1,oV,qy,C1⟩:=fP hR hn hc (i:=1) (by omega)
 obtain rfl:g=g1:=by simpa using lu
 have e:asm 32 n m (name:ByteArray).data.toList (vs.map (aB f w0))=Y0++(tl ⟨#[61]⟩::(Y1++[])):=by
  show gQ (kd (vs.map (aB f w0)) 0)++(tl ⟨#[61]⟩::gQ (kd (vs.map (aB f w0)) 1))=_;rw[e0,e1,y0,y1,List.append_nil]
 rw[e] at hf⊢
 clear e
 have q:=(Sp.start h hf).box (ah 32 pos n m name (.slice (some ⟨g,0,none⟩) 2 kc))
 have kR:=@aG _ @fI
 have aW:=@aG _ @C0
 have Da:=@aG _ @oV
 have dP:=@aG _ @C1
 clear e0 y0 z0 W0 fI iF C0
 clear e1 y1 z1 W1 oV qy C1 lu
 clear h hf hr hg hc hkl hcap hn
 have F:=q.f1
 have⟨lg,G0⟩:=q.k0 aW
 have G1:=fH (q.o dP).2
 go_enter Tryz.func50,Tryz.ntmps50
 go_wp2_with (first
  |(go_at_call 122;refine q.go (fun a1 a2=>Da.out a1 a2) ?_;clear q F lg G0 G1;intro w2 q;have F:=q.f1;have⟨lg,G0⟩:=q.k0 aW;have G1:=fH (q.o dP).2)
  |(go_at_call 106;refine q.put (s:=⟨#[61]⟩) ?_;clear q F lg G0 G1;intro w2 q;have F:=q.f1;have⟨lg,G0⟩:=q.k0 aW;have G1:=fH (q.o dP).2)
  |(go_at_call 122;refine q.go (fun a1 a2=>kR.out a1 a2) ?_;clear q F lg G0 G1;intro w2 q;have F:=q.f1;have⟨lg,G0⟩:=q.k0 aW;have G1:=fH (q.o dP).2)
  |(go_at_call 125;refine O4.mono ?_;rintro e w1 ⟨rfl,hb1⟩;replace q:=q.below hb1;clear hb1 F lg G0 G1;have F:=q.f1;have⟨lg,G0⟩:=q.k0 aW;have G1:=fH (q.o dP).2))
 all_goals(go_end0;exact q.done (by simp<;>rfl))
end
end Go.Proofs.YtdplogkmkgekdaaGreatDoor
