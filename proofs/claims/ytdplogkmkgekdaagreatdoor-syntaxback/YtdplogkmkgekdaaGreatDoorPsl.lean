/- The project's writer: impls, functions, traits. -/
import Derived.Test.YtdplogkmkgekdaaGreatDoorPsf
import Derived.Test.YtdplogkmkgekdaaGreatDoorTypes
import Derived.Test.YtdplogkmkgekdaaGreatDoorHdb
set_option linter.all false
set_option maxRecDepth 100000
set_option maxHeartbeats 4000000
namespace Go.Proofs.YtdplogkmkgekdaaGreatDoor
open Go.RowKit
section
variable {B:Nat} {w0 w:World} {wb f:Nat} {aT:List (List UInt8)} {kind pos n m:Int} {name:ByteArray} {ko:Option Addr} {kl kc:Nat}
theorem ZE (hR:RP B w0 wb f) (hm:Mx B w0) (ht:Tab B w0):PW B w0 wb f 51 (ah 49 pos n m name (.slice ko kl kc)):=by
 refine PW.of fun w aT vs h hf hcap hkl hr hg hs hc=>?_
 have e:asm 49 n m (name:ByteArray).data.toList (vs.map (aB f w0))=[95]::[]:=by
  rfl
 rw[e] at hf⊢
 clear e
 have q:=(Sp.start h hf).box (ah 49 pos n m name (.slice ko kl kc))
 clear h hf hr hg hc hkl hcap
 have F:=q.f1
 go_enter Tryz.func51,Tryz.ntmps51
 go_wp2_with (first
  |(go_at_call 106;refine q.put ?_;clear q F;intro w2 q;have F:=q.f1))
 all_goals(go_end0;exact q.done (rfl))
theorem ZF (hR:RP B w0 wb f) (hm:Mx B w0) (ht:Tab B w0):PW B w0 wb f 51 (ah 51 pos n m name (.slice ko kl kc)):=by
 refine PW.of fun w aT vs h hf hcap hkl hr hg hs hc=>?_
 obtain⟨S,hS⟩:∃S:ByteArray,S=⟨(Lib.itoa n).toArray⟩:=⟨_,rfl⟩
 have OV:Hid (∀{W:World},Below B w0 W→Calls Tryz.prog 119 #[.int .i64 n] W (fun e w'=>e=.returned (.string S)∧Below W.heap.size W w')):=fun hb=>by rw[hS];exact IC ht (hg.Nh rfl).1 (hg.Nh rfl).2 hb
 obtain⟨V,hV⟩:∃V:ByteArray,V=⟨(Lib.trimPrefix S.data.toList [45]).toArray⟩:=⟨_,rfl⟩
 have T69:Hid (∀{W:World},Calls Tryz.prog 128 #[.string S,.string ⟨#[45]⟩] W (fun e w'=>e=.returned (.string V)∧w'=W)):=fun{W}=>by rw[hV];exact Tryz.strings_TrimPrefix S ⟨#[45]⟩ W
 have e:asm 51 n m (name:ByteArray).data.toList (vs.map (aB f w0))=aC (decide (n<0)) [[45]]++(tl V::[]):=by
  show aC (decide (n<0)) [[45]]++[Lib.trimPrefix (Lib.itoa n) [45]]=_;rw[hV,hS];rfl
 rw[e] at hf⊢
 clear e
 have q:=(Sp.start h hf).box (ah 51 pos n m name (.slice ko kl kc))
 clear h hf hr hg hc hkl hcap hS hV
 have F:=q.f1
 go_enter Tryz.func51,Tryz.ntmps51
 go_wp2_with (first
  |(go_at_call 115;refine q.when (ss:=[⟨#[45]⟩]) ?_;clear q F;intro w2 q;have F:=q.f1)
  |(go_at_call 119;refine(OV.out q.wr.uZ).mono ?_;rintro e w1 ⟨rfl,hb1⟩;replace q:=q.below hb1;clear hb1 F;have F:=q.f1)
  |(go_at_call 128;refine T69.out.mono ?_;rintro e w1 ⟨rfl,hw⟩;replace hw:=hw.symm;subst hw)
  |(go_at_call 106;refine q.put ?_;clear q F;intro w2 q;have F:=q.f1))
 all_goals(go_end0;exact q.done (by simp<;>rfl))
theorem ZG (hR:RP B w0 wb f) (hm:Mx B w0) (ht:Tab B w0):PW B w0 wb f 51 (ah 52 pos n m name (.slice ko kl kc)):=by
 refine PW.of fun w aT vs h hf hcap hkl hr hg hs hc=>?_
 have IG:=hg.Uf (.inr rfl)
 have e:asm 52 n m (name:ByteArray).data.toList (vs.map (aB f w0))=vS n++[]:=by
  rw[List.append_nil];rfl
 rw[e] at hf⊢
 clear e
 have q:=(Sp.start h hf).box (ah 52 pos n m name (.slice ko kl kc))
 have HB:=@aG _ @IG
 clear h hf hr hg hc hkl hcap IG
 have F:=q.f1
 go_enter Tryz.func51,Tryz.ntmps51
 go_wp2_with (first
  |(go_at_call 120;refine q.go (fun a1 a2=>F4 n HB.out a1 a2) ?_;clear q F;intro w2 q;have F:=q.f1))
 all_goals(go_end0;exact q.done (by simp<;>rfl))
theorem ZH (hR:RP B w0 wb f) (hm:Mx B w0) (ht:Tab B w0):PW B w0 wb f 51 (ah 53 pos n m name (.slice ko kl kc)):=by
 refine PW.of fun w aT vs h hf hcap hkl hr hg hs hc=>?_
 have hn:=hr.nk hg
 have e:asm 53 n m (name:ByteArray).data.toList (vs.map (aB f w0))=bF [40] [41] (vs.map (aB f w0))++[]:=by
  rw[List.append_nil];rfl
 rw[e] at hf⊢
 clear e
 have q:=(Sp.start h hf).box (ah 53 pos n m name (.slice ko kl kc))
 have HL:Hid (NK B w0 f ko vs∧vs.length=kl):=⟨hn,hkl⟩
 clear h hf hr hg hc hkl hcap hn
 have F:=q.f1
 go_enter Tryz.func51,Tryz.ntmps51
 go_wp2_with (first
  |(go_at_call 117;refine q.go (fun a1 a2=>jg hR ⟨#[40]⟩ ⟨#[41]⟩ HL.out.1 HL.out.2 a1 a2) ?_;clear q F;intro w2 q;have F:=q.f1))
 all_goals(go_end0;exact q.done (by simp<;>rfl))
theorem WM (hR:RP B w0 wb f) (hm:Mx B w0) (ht:Tab B w0) (hz0:kl=0):PW B w0 wb f 51 (ah 54 pos n m name (.slice ko kl kc)):=by
 refine PW.of fun w aT vs h hf hcap hkl hr hg hs hc=>?_
 have hn:=hr.nk hg
 obtain rfl:kl=0:=hz0
 have e:asm 54 n m (name:ByteArray).data.toList (vs.map (aB f w0))=jQ (tl name)::[]:=by
  show jQ (tl name)::ql (vs.map (aB f w0))=_;rw[ql,if_pos (by rw[List.length_map];exact hkl)]
 rw[e] at hf⊢
 clear e
 have q:=(Sp.start h hf).box (ah 54 pos n m name (.slice ko 0 kc))
 clear h hf hr hg hc hkl hcap hn
 have F:=q.f1
 go_enter Tryz.func51,Tryz.ntmps51
 go_wp2_with (first
  |(go_at_call 107;refine q.go (fun a1 a2=>u6 hm hs a1 a2) ?_;clear q F;intro w2 q;have F:=q.f1))
 all_goals(go_end0;exact q.done (by simp<;>rfl))
theorem WO (hR:RP B w0 wb f) (hm:Mx B w0) (ht:Tab B w0) (hz0:0<kl):PW B w0 wb f 51 (ah 54 pos n m name (.slice ko kl kc)):=by
 refine PW.of fun w aT vs h hf hcap hkl hr hg hs hc=>?_
 have hn:=hr.nk hg
 have hI:(0:Int)<(kl:Int):=by omega
 have e:asm 54 n m (name:ByteArray).data.toList (vs.map (aB f w0))=jQ (tl name)::(bF [40] [41] (vs.map (aB f w0))++[]):=by
  show jQ (tl name)::ql (vs.map (aB f w0))=_;rw[ql,if_neg (by rw[List.length_map];omega),List.append_nil]
 rw[e] at hf⊢
 clear e
 have q:=(Sp.start h hf).box (ah 54 pos n m name (.slice ko kl kc))
 have HL:Hid (NK B w0 f ko vs∧vs.length=kl):=⟨hn,hkl⟩
 clear h hf hr hg hc hkl hcap hn hz0
 have F:=q.f1
 go_enter Tryz.func51,Tryz.ntmps51
 go_wp2_with (first
  |(go_at_call 107;refine q.go (fun a1 a2=>u6 hm hs a1 a2) ?_;clear q F;intro w2 q;have F:=q.f1)
  |(go_at_call 117;refine q.go (fun a1 a2=>jg hR ⟨#[40]⟩ ⟨#[41]⟩ HL.out.1 HL.out.2 a1 a2) ?_;clear q F;intro w2 q;have F:=q.f1))
 all_goals(go_end0;exact q.done (by simp<;>rfl))
theorem RD (hR:RP B w0 wb f) (hm:Mx B w0) (ht:Tab B w0) (hn2:(n==2)=false) (hm1:(m==1)=false):PW B w0 wb f 51 (ah 50 pos n m name (.slice ko kl kc)):=by
 refine PW.of fun w aT vs h hf hcap hkl hr hg hs hc=>?_
 have h2:(n==2)=false:=hn2
 have h1:(m==1)=false:=hm1
 have e:asm 50 n m (name:ByteArray).data.toList (vs.map (aB f w0))=aC (decide ((0:Int)<n)) [[114,101,102]]++(aC false [[109,117,116]]++(tl name::[])):=by
  show aC (decide (0<n)) [[114,101,102]]++(aC (n==2||m==1) [[109,117,116]]++[tl name])=_;rw[h2,h1];rfl
 rw[e] at hf⊢
 clear e
 have q:=(Sp.start h hf).box (ah 50 pos n m name (.slice ko kl kc))
 clear h hf hr hg hc hkl hcap hn2 hm1
 have F:=q.f1
 go_enter Tryz.func51,Tryz.ntmps51
 go_wp2_with (first
  |(go_at_call 106;refine q.put ?_;clear q F;intro w2 q;have F:=q.f1)
  |(go_at_call 115;refine q.when (ss:=[⟨#[109,117,116]⟩]) ?_;clear q F;intro w2 q;have F:=q.f1)
  |(go_at_call 115;refine q.when (ss:=[⟨#[114,101,102]⟩]) ?_;clear q F;intro w2 q;have F:=q.f1))
 all_goals(go_end0;exact q.done (by simp<;>rfl))
theorem RF (hR:RP B w0 wb f) (hm:Mx B w0) (ht:Tab B w0) (hn2:(n==2)=false) (hm1:(m==1)=true):PW B w0 wb f 51 (ah 50 pos n m name (.slice ko kl kc)):=by
 refine PW.of fun w aT vs h hf hcap hkl hr hg hs hc=>?_
 have h2:(n==2)=false:=hn2
 have h1:(m==1)=true:=hm1
 have e:asm 50 n m (name:ByteArray).data.toList (vs.map (aB f w0))=aC (decide ((0:Int)<n)) [[114,101,102]]++(aC true [[109,117,116]]++(tl name::[])):=by
  show aC (decide (0<n)) [[114,101,102]]++(aC (n==2||m==1) [[109,117,116]]++[tl name])=_;rw[h2,h1];rfl
 rw[e] at hf⊢
 clear e
 have q:=(Sp.start h hf).box (ah 50 pos n m name (.slice ko kl kc))
 clear h hf hr hg hc hkl hcap hn2 hm1
 have F:=q.f1
 go_enter Tryz.func51,Tryz.ntmps51
 go_wp2_with (first
  |(go_at_call 106;refine q.put ?_;clear q F;intro w2 q;have F:=q.f1)
  |(go_at_call 115;refine q.when (ss:=[⟨#[109,117,116]⟩]) ?_;clear q F;intro w2 q;have F:=q.f1)
  |(go_at_call 115;refine q.when (ss:=[⟨#[114,101,102]⟩]) ?_;clear q F;intro w2 q;have F:=q.f1))
 all_goals(go_end0;exact q.done (by simp<;>rfl))
theorem RG (hR:RP B w0 wb f) (hm:Mx B w0) (ht:Tab B w0) (hn2:(n==2)=true):PW B w0 wb f 51 (ah 50 pos n m name (.slice ko kl kc)):=by
 refine PW.of fun w aT vs h hf hcap hkl hr hg hs hc=>?_
 obtain rfl:n=2:=by simpa using hn2
 have e:asm 50 2 m (name:ByteArray).data.toList (vs.map (aB f w0))=aC (decide ((0:Int)<2)) [[114,101,102]]++(aC true [[109,117,116]]++(tl name::[])):=by
  show aC (decide (0<2)) [[114,101,102]]++(aC (2==2||m==1) [[109,117,116]]++[tl name])=_;rfl
 rw[e] at hf⊢
 clear e
 have q:=(Sp.start h hf).box (ah 50 pos 2 m name (.slice ko kl kc))
 clear h hf hr hg hc hkl hcap hn2
 have F:=q.f1
 go_enter Tryz.func51,Tryz.ntmps51
 go_wp2_with (first
  |(go_at_call 106;refine q.put ?_;clear q F;intro w2 q;have F:=q.f1)
  |(go_at_call 115;refine q.when (ss:=[⟨#[109,117,116]⟩]) ?_;clear q F;intro w2 q;have F:=q.f1)
  |(go_at_call 115;refine q.when (ss:=[⟨#[114,101,102]⟩]) ?_;clear q F;intro w2 q;have F:=q.f1))
 all_goals(go_end0;exact q.done (by simp<;>rfl))
end
section
variable {B:Nat} {w0 w:World} {wb f:Nat} {aT:List (List UInt8)} {kind pos n m:Int} {name:ByteArray} {ko:Option Addr} {kl kc:Nat}
theorem ade (hR:RP B w0 wb f) (hm:Mx B w0) (ht:Tab B w0):PW B w0 wb f 112 (ah 7 pos n m name (.slice ko kl kc)):=by
 refine PW.of fun w aT vs h hf hcap hkl hr hg hs hc=>?_
 have hn:=hr.nk hg
 have:2≤kl:=by
  obtain⟨-,y,zs,ji,-,-⟩:=hg.impl rfl
  have:=congrArg List.length ji
  simp at this;omega
 obtain⟨l2,rfl⟩:∃l2,kl=2+l2:=⟨kl - 2,by omega⟩
 obtain⟨cz,rfl⟩:∃cz,kc=2+cz:=⟨kc - 2,by omega⟩
 obtain⟨k0,p0,a0,b0,s0,o0,l0,c0,g,X0,Y0,Z0,e0,y0,z0,rfl,W0,fI,iF,C0⟩:=fP hR hn hc (i:=0) (by omega)
 obtain⟨k1,p1,a1,b1,s1,o1,l1,c1,g1,X1,Y1,Z1,e1,y1,z1,lu,W1,oV,qy,C1⟩:=fP hR hn hc (i:=1) (by omega)
 obtain rfl:g=g1:=by simpa using lu
 obtain⟨us,dS⟩:∃us,us=vs.drop 2:=⟨_,rfl⟩
 have jW:us.length=l2:=by rw[dS,List.length_drop];omega
 have em:(vs.map (aB f w0)).drop 2=us.map (aB f w0):=by rw[dS,List.map_drop]
 have hb:=hn.row.few
 rw[hkl] at hb
 have e:asm 7 n m (name:ByteArray).data.toList (vs.map (aB f w0))=[105,109,112,108]::(X0++(jQ (tl name)::([102,111,114]::(X1++([123]::(bB (us.map (aB f w0))++[[125]])))))):=by
  show [105,109,112,108]::((kd (vs.map (aB f w0)) 0).t++(jQ (tl name)::([102,111,114]::((kd (vs.map (aB f w0)) 1).t++([123]::(bB ((vs.map (aB f w0)).drop 2)++[[125]]))))))=_;rw[e0,e1,em]
 rw[e] at hf⊢
 clear e
 have q:=(Sp.start h hf).box (ah 7 pos n m name (.slice (some ⟨g,0,none⟩) (2+l2) (2+cz)))
 have HW0:=@aG _ @W0
 have aW:=@aG _ @C0
 have HW1:=@aG _ @W1
 have dP:=@aG _ @C1
 have HL:Hid (NK B w0 f (some ⟨g,22,none⟩) us∧us.length=l2):=⟨by have:=hn.drop 2;rw[←dS] at this;simpa using this,jW⟩
 have HZ:Hid (∀a,cz=0→NK B w0 f a us):=fun a hz=>by
  obtain rfl:us=[]:=List.eq_nil_of_length_eq_zero (by omega)
  exact NK.nil
 have Ck:2+(l2:Int)≤20000:=by omega
 have hcI:(l2:Int)≤(cz:Int):=by omega
 clear e0 y0 z0 W0 fI iF C0
 clear e1 y1 z1 W1 oV qy C1 lu
 clear h hf hr hg hc hkl hcap hn dS jW em hb
 have F:=q.f1
 have⟨lg,G0⟩:=q.k0 aW
 have G1:=fH (q.o dP).2
 go_enter Tryz.func112,Tryz.ntmps112
 go_wp2_with (first
  |(go_at_call 106;refine q.put ?_;clear q F lg G0 G1;intro w2 q;have F:=q.f1;have⟨lg,G0⟩:=q.k0 aW;have G1:=fH (q.o dP).2)
  |(go_at_call 107;refine q.go (fun a1 a2=>u6 hm hs a1 a2) ?_;clear q F lg G0 G1;intro w2 q;have F:=q.f1;have⟨lg,G0⟩:=q.k0 aW;have G1:=fH (q.o dP).2)
  |(go_at_call 105;refine q.go (fun a1 a2=>gq hR (HZ.out _ (by first|rfl|assumption|omega)) HL.out.2 a1 a2) ?_;clear q F lg G0 G1;intro w2 q;have F:=q.f1;have⟨lg,G0⟩:=q.k0 aW;have G1:=fH (q.o dP).2)
  |(go_at_call 105;refine q.go (fun a1 a2=>gq hR HL.out.1 HL.out.2 a1 a2) ?_;clear q F lg G0 G1;intro w2 q;have F:=q.f1;have⟨lg,G0⟩:=q.k0 aW;have G1:=fH (q.o dP).2)
  |(go_at_call 25;refine q.go (fun a1 a2=>HW1.out a1 a2) ?_;clear q F lg G0 G1;intro w2 q;have F:=q.f1;have⟨lg,G0⟩:=q.k0 aW;have G1:=fH (q.o dP).2)
  |(go_at_call 25;refine q.go (fun a1 a2=>HW0.out a1 a2) ?_;clear q F lg G0 G1;intro w2 q;have F:=q.f1;have⟨lg,G0⟩:=q.k0 aW;have G1:=fH (q.o dP).2))
 all_goals(go_end0;exact q.done (by simp<;>rfl))
theorem adf (hR:RP B w0 wb f) (hm:Mx B w0) (ht:Tab B w0):PW B w0 wb f 113 (ah 8 pos n m name (.slice ko kl kc)):=by
 refine PW.of fun w aT vs h hf hcap hkl hr hg hs hc=>?_
 have hn:=hr.nk hg
 obtain⟨nn,rfl,hkn⟩:∃nn:Nat,n=(nn:Int)∧2+nn≤kl:=by
  obtain⟨-,ps,y,rest,ji,hpl,-,-,-,-⟩:=hg.fn rfl
  have:=congrArg List.length ji
  simp at this
  exact⟨ps.length,hpl.symm,by omega⟩
 obtain⟨l2,rfl⟩:∃l2,kl=2+nn+l2:=⟨kl - (2+nn),by omega⟩
 obtain⟨cz,rfl⟩:∃cz,kc=2+nn+cz:=⟨kc - (2+nn),by omega⟩
 obtain⟨k0,p0,a0,b0,s0,o0,l0,c0,g,X0,Y0,Z0,e0,y0,z0,rfl,W0,fI,iF,C0⟩:=fP hR hn hc (i:=0) (by omega)
 obtain⟨k1,p1,a1,b1,s1,o1,l1,c1,g1,X1,Y1,Z1,e1,y1,z1,lu,W1,oV,qy,C1⟩:=fP hR hn hc (i:=(1+nn)) (by omega)
 obtain rfl:g=g1:=by simpa using lu
 obtain⟨vt,tH⟩:∃vt,vt=(vs.drop 1).take nn:=⟨_,rfl⟩
 have hvl:vt.length=nn:=by rw[tH,List.length_take,List.length_drop];omega
 have Ao:((vs.map (aB f w0)).drop 1).take nn=vt.map (aB f w0):=by rw[tH,List.map_take,List.map_drop]
 obtain⟨us,dS⟩:∃us,us=vs.drop (2+nn):=⟨_,rfl⟩
 have jW:us.length=l2:=by rw[dS,List.length_drop];omega
 have em:(vs.map (aB f w0)).drop (2+nn)=us.map (aB f w0):=by rw[dS,List.map_drop]
 have hb:=hn.row.few
 rw[hkl] at hb
 have e:asm 8 nn m (name:ByteArray).data.toList (vs.map (aB f w0))=aC (m==1) [[112,117,98]]++([[102,110],tl name]++(X0++(bF [40] [41] (vt.map (aB f w0))++(Z1++(bB (us.map (aB f w0))++[]))))):=by
  show aC (m==1) [[112,117,98]]++([102,110]::tl name::((kd (vs.map (aB f w0)) 0).t++(bF [40] [41] (((vs.map (aB f w0)).drop 1).take (nn:Int).toNat)++(kN (kd (vs.map (aB f w0)) (1+(nn:Int).toNat))++bB ((vs.map (aB f w0)).drop (2+(nn:Int).toNat))))))=_;rw[Int.toNat_natCast,em,Ao,e0,e1,z1,List.append_nil];rfl
 rw[e] at hf⊢
 clear e
 have q:=(Sp.start h hf).box (ah 8 pos nn m name (.slice (some ⟨g,0,none⟩) (2+nn+l2) (2+nn+cz)))
 have HW0:=@aG _ @W0
 have aW:=@aG _ @C0
 have aeN:=@aG _ @qy
 have dP:=@aG _ @C1
 have HL:Hid (NK B w0 f (some ⟨g,(1+nn+1)*11,none⟩) us∧us.length=2+nn+l2 - (1+nn+1)):=⟨by have:=hn.drop (2+nn);rw[←dS,Nat.zero_add,show 2+nn=1+nn+1 by omega] at this;exact this,by omega⟩
 have HZ:Hid (∀a,cz=0→NK B w0 f a us):=fun a hz=>by
  obtain rfl:us=[]:=List.eq_nil_of_length_eq_zero (by omega)
  exact NK.nil
 have HT:Hid (NK B w0 f (some ⟨g,11,none⟩) vt∧vt.length=nn):=⟨by have:=(hn.drop 1).take nn;rw[←tH] at this;simpa using this,hvl⟩
 have Ck:2+(nn:Int)+(l2:Int)≤20000:=by omega
 have hcI:(l2:Int)≤(cz:Int):=by omega
 clear e0 y0 z0 W0 fI iF C0
 clear e1 y1 z1 W1 oV qy C1 lu
 clear h hf hr hg hc hkl hcap hn dS jW em hb tH hvl Ao
 have F:=q.f1
 have⟨lg,G0⟩:=q.k0 aW
 have G1:=gW (q.o dP).2
 go_enter Tryz.func113,Tryz.ntmps113
 go_wp2_with (first
  |(go_at_call 115;refine q.when (ss:=[⟨#[112,117,98]⟩]) ?_;clear q F lg G0 G1;intro w2 q;have F:=q.f1;have⟨lg,G0⟩:=q.k0 aW;have G1:=gW (q.o dP).2)
  |(go_at_call 106;refine q.puts (ss:=[⟨#[102,110]⟩,name]) (hg:=by first|rfl|simp) (ho:=rfl) (hX:=rfl) (hn:=rfl) (hl:=by decide) ?_;clear q F lg G0 G1;intro w2 q;have F:=q.f1;have⟨lg,G0⟩:=q.k0 aW;have G1:=gW (q.o dP).2)
  |(go_at_call 105;refine q.go (fun a1 a2=>gq hR (HZ.out _ (by first|rfl|assumption|omega)) HL.out.2 a1 a2) ?_;clear q F lg G0 G1;intro w2 q;have F:=q.f1;have⟨lg,G0⟩:=q.k0 aW;have G1:=gW (q.o dP).2)
  |(go_at_call 105;refine q.go (fun a1 a2=>gq hR HL.out.1 HL.out.2 a1 a2) ?_;clear q F lg G0 G1;intro w2 q;have F:=q.f1;have⟨lg,G0⟩:=q.k0 aW;have G1:=gW (q.o dP).2)
  |(go_at_call 117;refine q.go (fun a1 a2=>jg hR ⟨#[40]⟩ ⟨#[41]⟩ HT.out.1 HT.out.2 a1 a2) ?_;clear q F lg G0 G1;intro w2 q;have F:=q.f1;have⟨lg,G0⟩:=q.k0 aW;have G1:=gW (q.o dP).2)
  |(go_at_call 25;refine q.go (fun a1 a2=>HW0.out a1 a2) ?_;clear q F lg G0 G1;intro w2 q;have F:=q.f1;have⟨lg,G0⟩:=q.k0 aW;have G1:=gW (q.o dP).2)
  |(go_at_call 178;refine q.go (fun a1 a2=>aeN.out a1 a2) ?_;clear q F lg G0 G1;intro w2 q;have F:=q.f1;have⟨lg,G0⟩:=q.k0 aW;have G1:=gW (q.o dP).2))
 all_goals(go_end0;exact q.done (by simp<;>rfl))
theorem WQ (hR:RP B w0 wb f) {ks:List (List Value)} (r:NK B w0 f ko ks) (h:Pw B w0 w wb aT) (hf:(aT++(aC (m==1) [[112,117,98]]++([[116,114,97,105,116],tl name,[123]]++(((ks.map (aB f w0)).map (fun k:Kd=>k.t++[[59]])).flatten++[[125]])))).length≤1099511627776):Calls Tryz.prog 111 #[.pointer (some ⟨wb,0,none⟩),.agg (ah 6 pos n m name (.slice ko ks.length kc))] w (PP B w0 w wb aT (aC (m==1) [[112,117,98]]++([[116,114,97,105,116],tl name,[123]]++(((ks.map (aB f w0)).map (fun k:Kd=>k.t++[[59]])).flatten++[[125]])))):=by
 have H:=@aG _ @r
 have q:=(Sp.start h hf).box (ah 6 pos n m name (.slice ko ks.length kc))
 have oC:=r.row.few
 have F:=q.f1
 obtain⟨nb,hnb⟩:∃nb,nb=w.heap.size:=⟨_,rfl⟩
 clear r h hf
 go_enter Tryz.func111,Tryz.ntmps111
 go_wp2_with (first|(go_at_call 106;refine q.puts (ss:=[⟨#[116,114,97,105,116]⟩,name,⟨#[123]⟩]) (hg:=by first|rfl|simp) (ho:=rfl) (hX:=rfl) (hn:=rfl) (hl:=by decide) ?_;clear q F;intro w1 q;have F:=q.f1)|(go_at_call 115;refine q.when (ss:=[⟨#[112,117,98]⟩]) ?_;clear q F;intro w1 q;have F:=q.f1))
 rw[←hnb] at q F⊢
 clear hnb
 go_loopg [20] ks.length (fun gg u wr=>∃(idx:Nat) (ts:List (List UInt8)),gg=ks.length - idx∧u=.int .i64 idx∧idx≤ks.length∧Hid (ts++((((ks.map (aB f w0))).drop idx).map (fun k:Kd=>k.t++[[59]])).flatten=aC (m==1) [[112,117,98]]++[[116,114,97,105,116],tl name,[123]]++((ks.map (aB f w0)).map (fun k:Kd=>k.t++[[59]])).flatten)∧Hid (Sp B w0 w wb aT ts (((((ks.map (aB f w0))).drop idx).map (fun k:Kd=>k.t++[[59]])).flatten++[[125]]) wr [(nb,(ah 6 pos n m name (.slice ko ks.length kc)))]))
 case atStart=>exact⟨0,[]++aC (m==1) [[112,117,98]]++[[116,114,97,105,116],tl name,[123]],rfl,rfl,Nat.zero_le _,(by show _=_;simp),q⟩
 case round=>
  clear q F
  obtain⟨idx,ts,eD,rfl,hidx,HT,Q⟩:=hrel
  have HG:=@aG _ @eD
  clear eD
  have F:=Q.out.f1
  by_cases hlt:idx<ks.length
  ·have uI:(idx:Int)<(ks.length:Int):=by omega
   obtain⟨x,hx⟩:∃x,ks[idx]? =some x:=⟨_,List.getElem?_eq_getElem hlt⟩
   obtain⟨g,o,rfl,hgB,hcell⟩:=H.out.row.cell idx x hx
   have hmem:=List.mem_of_getElem? hx
   obtain⟨dJ,pos2,n2,m2,name2,iC,iK,iD,rfl,-,-⟩:=(H.out.row.all x hmem).fields
   have HX:Hid (Nw B w0 f (ah dJ pos2 n2 m2 name2 (.slice iC iK iD)).toList∧qF (nM (ah dJ pos2 n2 m2 name2 (.slice iC iK iD)).toList)∧(ks.map (aB f w0))[idx]? =some (aB f w0 (ah dJ pos2 n2 m2 name2 (.slice iC iK iD)).toList)):=⟨H.out.row.all _ hmem,H.out.ok _ hmem,by rw[List.getElem?_map,hx];rfl⟩
   have lift:∀j,j<11→wr.cell? ⟨g,o+idx*11+j,none⟩=(ah dJ pos2 n2 m2 name2 (.slice iC iK iD)).toList[j]? :=fun j hj=>(Q.out.wr.uZ.cell (p:=⟨g,o+idx*11+j,none⟩) hgB).trans (hcell j hj)
   have lg:g<wr.heap.size:=Nat.lt_of_lt_of_le hgB Q.out.wr.base
   have e0:=lift 0 (by decide)
   have e1:=lift 1 (by decide)
   have e2:=lift 2 (by decide)
   have e3:=lift 3 (by decide)
   have e4:=lift 4 (by decide)
   have e5:=lift 5 (by decide)
   have e6:=lift 6 (by decide)
   have e7:=lift 7 (by decide)
   have e8:=lift 8 (by decide)
   have e9:=lift 9 (by decide)
   have e10:=lift 10 (by decide)
   simp only[Nat.add_zero] at e0
   clear lift hcell hx hmem
   have st:((((ks.map (aB f w0))).drop idx).map (fun k:Kd=>k.t++[[59]])).flatten=(aB f w0 (ah dJ pos2 n2 m2 name2 (.slice iC iK iD)).toList).t++([59]::((((ks.map (aB f w0))).drop (idx+1)).map (fun k:Kd=>k.t++[[59]])).flatten):=by
    have e:(ks.map (aB f w0)).drop idx=aB f w0 (ah dJ pos2 n2 m2 name2 (.slice iC iK iD)).toList::(ks.map (aB f w0)).drop (idx+1):=by
     rw[List.drop_eq_getElem_cons (List.getElem?_eq_some_iff.1 HX.out.2.2).1,(List.getElem?_eq_some_iff.1 HX.out.2.2).2]
    rw[e]
    simp
   have st2:((((ks.map (aB f w0))).drop idx).map (fun k:Kd=>k.t++[[59]])).flatten++[[125]]=(aB f w0 (ah dJ pos2 n2 m2 name2 (.slice iC iK iD)).toList).t++([59]::(((((ks.map (aB f w0))).drop (idx+1)).map (fun k:Kd=>k.t++[[59]])).flatten++[[125]])):=by rw[st];simp
   have HE:Hid (ts++(aB f w0 (ah dJ pos2 n2 m2 name2 (.slice iC iK iD)).toList).t++[[59]]++((((ks.map (aB f w0))).drop (idx+1)).map (fun k:Kd=>k.t++[[59]])).flatten=aC (m==1) [[112,117,98]]++[[116,114,97,105,116],tl name,[123]]++((ks.map (aB f w0)).map (fun k:Kd=>k.t++[[59]])).flatten):=by show _=_;rw[←HT.out,st];simp
   have q:=((Q.out.as st2).box (ah dJ pos2 n2 m2 name2 (.slice iC iK iD)))
   clear st st2 F
   have F:=q.f2
   go_wp2_with (first|(go_at_call 106;refine q.put ?_;clear q F;intro w3 q;have F:=q.f2)|(go_at_call 25;refine q.go (fun a1 a2=>hR HX.out.1 HX.out.2.1 a1 a2) ?_;clear q F;intro w2 q;have F:=q.f2))
   go_roundg (ks.length - (idx+1))
   case measure=>rw[HG.out];omega
   case rel=>exact⟨idx+1,_,rfl,by go_num,hlt,HE.out,q.pop⟩
  ·have uI:¬(idx:Int)<(ks.length:Int):=by omega
   obtain rfl:idx=ks.length:=by omega
   have e:((((ks.map (aB f w0))).drop ks.length).map (fun k:Kd=>k.t++[[59]])).flatten=[]:=by rw[List.drop_of_length_le (by rw[List.length_map];exact Nat.le_refl _)];rfl
   have q:=Q.out.as (rest':=[125]::[]) (by rw[e];rfl)
   have HE:Hid (ts=aC (m==1) [[112,117,98]]++[[116,114,97,105,116],tl name,[123]]++((ks.map (aB f w0)).map (fun k:Kd=>k.t++[[59]])).flatten):=by show _=_;rw[←HT.out,e,List.append_nil]
   clear e
   go_wp2_with (go_at_call 106;refine q.put ?_;clear q;intro w3 q)
   go_end0
   exact q.done (by rw[HE.out];simp)
theorem adg (hR:RP B w0 wb f) (hx:Nw B w0 (f+1) (ah 6 pos n m name (.slice ko kl kc)).toList):Wq B w0 wb 111 (ah 6 pos n m name (.slice ko kl kc)) (tok (f+1) w0 (ah 6 pos n m name (.slice ko kl kc)).toList):=by
 intro w aT h hf
 obtain⟨vs,hkl,hr,hg,IE,hs,hc⟩:=hx.opened
 rw[IE] at hf⊢
 subst hkl
 exact WQ hR (NK.of hr hg (by unfold C9 xV;omega)) h hf
end
end Go.Proofs.YtdplogkmkgekdaaGreatDoor
