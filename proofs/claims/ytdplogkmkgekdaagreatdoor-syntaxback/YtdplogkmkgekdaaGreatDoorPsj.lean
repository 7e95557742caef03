/- The project's writer: expressions that say where to go on. -/
import Derived.Test.YtdplogkmkgekdaaGreatDoorPsf
import Derived.Test.YtdplogkmkgekdaaGreatDoorTypes
import Derived.Test.YtdplogkmkgekdaaGreatDoorHdb
set_option linter.all false
set_option maxRecDepth 100000
set_option maxHeartbeats 4000000
namespace Go.Proofs.YtdplogkmkgekdaaGreatDoor
open Go.RowKit
section
variable {B:Nat} {w0 w:World} {wb f:Nat} {aT:List (List UInt8)} {kind pos n m:Int} {name:ByteArray} {ko:Option Addr} {kl kc:Nat}
theorem aad (hR:RP B w0 wb f) (hm:Mx B w0) (ht:Tab B w0):PW B w0 wb f 127 (ah 38 pos n m name (.slice ko kl kc)):=by
 refine PW.of fun w aT vs h hf hcap hkl hr hg hs hc=>?_
 have e:asm 38 n m (name:ByteArray).data.toList (vs.map (aB f w0))=[98,114,101,97,107]::[]:=by
  rfl
 rw[e] at hf⊢
 clear e
 have q:=(Sp.start h hf).box (ah 38 pos n m name (.slice ko kl kc))
 clear h hf hr hg hc hkl hcap
 have F:=q.f1
 go_enter Tryz.func127,Tryz.ntmps127
 go_wp2_with (first
  |(go_at_call 106;refine q.put ?_;clear q F;intro w2 q;have F:=q.f1))
 all_goals(go_end0;exact q.done (rfl))
theorem aae (hR:RP B w0 wb f) (hm:Mx B w0) (ht:Tab B w0):PW B w0 wb f 127 (ah 39 pos n m name (.slice ko kl kc)):=by
 refine PW.of fun w aT vs h hf hcap hkl hr hg hs hc=>?_
 have e:asm 39 n m (name:ByteArray).data.toList (vs.map (aB f w0))=[110,101,120,116]::[]:=by
  rfl
 rw[e] at hf⊢
 clear e
 have q:=(Sp.start h hf).box (ah 39 pos n m name (.slice ko kl kc))
 clear h hf hr hg hc hkl hcap
 have F:=q.f1
 go_enter Tryz.func127,Tryz.ntmps127
 go_wp2_with (first
  |(go_at_call 106;refine q.put ?_;clear q F;intro w2 q;have F:=q.f1))
 all_goals(go_end0;exact q.done (rfl))
theorem aaf (hR:RP B w0 wb f) (hm:Mx B w0) (ht:Tab B w0):PW B w0 wb f 127 (ah 41 pos n m name (.slice ko kl kc)):=by
 refine PW.of fun w aT vs h hf hcap hkl hr hg hs hc=>?_
 have e:asm 41 n m (name:ByteArray).data.toList (vs.map (aB f w0))=[112,97,110,105,99]::[]:=by
  rfl
 rw[e] at hf⊢
 clear e
 have q:=(Sp.start h hf).box (ah 41 pos n m name (.slice ko kl kc))
 clear h hf hr hg hc hkl hcap
 have F:=q.f1
 go_enter Tryz.func127,Tryz.ntmps127
 go_wp2_with (first
  |(go_at_call 106;refine q.put ?_;clear q F;intro w2 q;have F:=q.f1))
 all_goals(go_end0;exact q.done (rfl))
theorem aag (hR:RP B w0 wb f) (hm:Mx B w0) (ht:Tab B w0):PW B w0 wb f 127 (ah 36 pos n m name (.slice ko kl kc)):=by
 refine PW.of fun w aT vs h hf hcap hkl hr hg hs hc=>?_
 have hn:=hr.nk hg
 obtain rfl:kl=2:=by
  obtain⟨y,z,ji,-,-⟩:=hg.two (by decide)
  have:=congrArg List.length ji
  simp at this;omega
 obtain⟨k0,p0,a0,b0,s0,o0,l0,c0,g,X0,Y0,Z0,e0,y0,z0,rfl,W0,fI,iF,C0⟩:=fP hR hn hc (i:=0) (by omega)
 obtain⟨k1,p1,a1,b1,s1,o1,l1,c1,g1,X1,Y1,Z1,e1,y1,z1,lu,W1,oV,qy,C1⟩:=fP hR hn hc (i:=1) (by omega)
 obtain rfl:g=g1:=by simpa using lu
 have e:asm 36 n m (name:ByteArray).data.toList (vs.map (aB f w0))=[119,104,105,108,101]::(Y0++(X1++[])):=by
  show [119,104,105,108,101]::(gQ (kd (vs.map (aB f w0)) 0)++(kd (vs.map (aB f w0)) 1).t)=_;rw[e0,e1,y0,List.append_nil]
 rw[e] at hf⊢
 clear e
 have q:=(Sp.start h hf).box (ah 36 pos n m name (.slice (some ⟨g,0,none⟩) 2 kc))
 have kR:=@aG _ @fI
 have aW:=@aG _ @C0
 have HW1:=@aG _ @W1
 have dP:=@aG _ @C1
 clear e0 y0 z0 W0 fI iF C0
 clear e1 y1 z1 W1 oV qy C1 lu
 clear h hf hr hg hc hkl hcap hn
 have F:=q.f1
 have⟨lg,G0⟩:=q.k0 aW
 have G1:=fH (q.o dP).2
 go_enter Tryz.func127,Tryz.ntmps127
 go_wp2_with (first
  |(go_at_call 106;refine q.put ?_;clear q F lg G0 G1;intro w2 q;have F:=q.f1;have⟨lg,G0⟩:=q.k0 aW;have G1:=fH (q.o dP).2)
  |(go_at_call 25;refine q.go (fun a1 a2=>HW1.out a1 a2) ?_;clear q F lg G0 G1;intro w2 q;have F:=q.f1;have⟨lg,G0⟩:=q.k0 aW;have G1:=fH (q.o dP).2)
  |(go_at_call 122;refine q.go (fun a1 a2=>kR.out a1 a2) ?_;clear q F lg G0 G1;intro w2 q;have F:=q.f1;have⟨lg,G0⟩:=q.k0 aW;have G1:=fH (q.o dP).2))
 all_goals(go_end0;exact q.done (by simp<;>rfl))
theorem aah (hR:RP B w0 wb f) (hm:Mx B w0) (ht:Tab B w0):PW B w0 wb f 127 (ah 35 pos n m name (.slice ko kl kc)):=by
 refine PW.of fun w aT vs h hf hcap hkl hr hg hs hc=>?_
 have hn:=hr.nk hg
 have e:asm 35 n m (name:ByteArray).data.toList (vs.map (aB f w0))=pSep (tl ⟨#[61,62]⟩) (vs.map (aB f w0))++[]:=by
  rw[List.append_nil];rfl
 rw[e] at hf⊢
 clear e
 have q:=(Sp.start h hf).box (ah 35 pos n m name (.slice ko kl kc))
 have HL:Hid (NK B w0 f ko vs∧vs.length=kl):=⟨hn,hkl⟩
 clear h hf hr hg hc hkl hcap hn
 have F:=q.f1
 go_enter Tryz.func127,Tryz.ntmps127
 go_wp2_with (first
  |(go_at_call 116;refine q.go (fun a1 a2=>xk hR ⟨#[61,62]⟩ HL.out.1 HL.out.2 a1 a2) ?_;clear q F;intro w2 q;have F:=q.f1))
 all_goals(go_end0;exact q.done (by simp<;>rfl))
theorem aai (hR:RP B w0 wb f) (hm:Mx B w0) (ht:Tab B w0):PW B w0 wb f 127 (ah 37 pos n m name (.slice ko kl kc)):=by
 refine PW.of fun w aT vs h hf hcap hkl hr hg hs hc=>?_
 have hn:=hr.nk hg
 have e:asm 37 n m (name:ByteArray).data.toList (vs.map (aB f w0))=[108,111,111,112]::(bB (vs.map (aB f w0))++[]):=by
  rw[List.append_nil];rfl
 rw[e] at hf⊢
 clear e
 have q:=(Sp.start h hf).box (ah 37 pos n m name (.slice ko kl kc))
 have HL:Hid (NK B w0 f ko vs∧vs.length=kl):=⟨hn,hkl⟩
 clear h hf hr hg hc hkl hcap hn
 have F:=q.f1
 go_enter Tryz.func127,Tryz.ntmps127
 go_wp2_with (first
  |(go_at_call 106;refine q.put ?_;clear q F;intro w2 q;have F:=q.f1)
  |(go_at_call 105;refine q.go (fun a1 a2=>gq hR HL.out.1 HL.out.2 a1 a2) ?_;clear q F;intro w2 q;have F:=q.f1))
 all_goals(go_end0;exact q.done (by simp<;>rfl))
theorem aaj (hR:RP B w0 wb f) (hm:Mx B w0) (ht:Tab B w0):PW B w0 wb f 127 (ah 40 pos n m name (.slice ko kl kc)):=by
 refine PW.of fun w aT vs h hf hcap hkl hr hg hs hc=>?_
 have hn:=hr.nk hg
 have e:asm 40 n m (name:ByteArray).data.toList (vs.map (aB f w0))=[114,101,116,117,114,110]::(bB (vs.map (aB f w0))++[]):=by
  rw[List.append_nil];rfl
 rw[e] at hf⊢
 clear e
 have q:=(Sp.start h hf).box (ah 40 pos n m name (.slice ko kl kc))
 have HL:Hid (NK B w0 f ko vs∧vs.length=kl):=⟨hn,hkl⟩
 clear h hf hr hg hc hkl hcap hn
 have F:=q.f1
 go_enter Tryz.func127,Tryz.ntmps127
 go_wp2_with (first
  |(go_at_call 106;refine q.put ?_;clear q F;intro w2 q;have F:=q.f1)
  |(go_at_call 105;refine q.go (fun a1 a2=>gq hR HL.out.1 HL.out.2 a1 a2) ?_;clear q F;intro w2 q;have F:=q.f1))
 all_goals(go_end0;exact q.done (by simp<;>rfl))
theorem WV (hR:RP B w0 wb f) (hm:Mx B w0) (ht:Tab B w0) (hkn:kl=2):PW B w0 wb f 127 (ah 33 pos n m name (.slice ko kl kc)):=by
 refine PW.of fun w aT vs h hf hcap hkl hr hg hs hc=>?_
 have hn:=hr.nk hg
 obtain rfl:kl=2:=hkn
 obtain⟨cz,rfl⟩:∃cz,kc=2+cz:=⟨kc - 2,by omega⟩
 obtain⟨k0,p0,a0,b0,s0,o0,l0,c0,g,X0,Y0,Z0,e0,y0,z0,rfl,W0,fI,iF,C0⟩:=fP hR hn hc (i:=0) (by omega)
 obtain⟨k1,p1,a1,b1,s1,o1,l1,c1,g1,X1,Y1,Z1,e1,y1,z1,lu,W1,oV,qy,C1⟩:=fP hR hn hc (i:=1) (by omega)
 obtain rfl:g=g1:=by simpa using lu
 obtain⟨us,dS⟩:∃us,us=vs.drop 2:=⟨_,rfl⟩
 have jW:us.length=0:=by rw[dS,List.length_drop];omega
 have em:(vs.map (aB f w0)).drop 2=us.map (aB f w0):=by rw[dS,List.map_drop]
 have e:asm 33 n m (name:ByteArray).data.toList (vs.map (aB f w0))=[105,102]::(Y0++(X1++(aC false [[101,108,115,101]]++(bB (us.map (aB f w0))++[])))):=by
  show [105,102]::(gQ (kd (vs.map (aB f w0)) 0)++((kd (vs.map (aB f w0)) 1).t++(aC (decide (2<(vs.map (aB f w0)).length)) [[101,108,115,101]]++bB ((vs.map (aB f w0)).drop 2))))=_;rw[e0,e1,y0,em,show(vs.map (aB f w0)).length=2 from by rw[List.length_map];exact hkl,List.append_nil];rfl
 rw[e] at hf⊢
 clear e
 have q:=(Sp.start h hf).box (ah 33 pos n m name (.slice (some ⟨g,0,none⟩) 2 (2+cz)))
 have kR:=@aG _ @fI
 have aW:=@aG _ @C0
 have HW1:=@aG _ @W1
 have dP:=@aG _ @C1
 have HL:Hid (NK B w0 f (some ⟨g,22,none⟩) us∧us.length=0):=⟨by have:=hn.drop 2;rw[←dS] at this;simpa using this,jW⟩
 have HZ:Hid (∀a,cz=0→NK B w0 f a us):=fun a hz=>by
  obtain rfl:us=[]:=List.eq_nil_of_length_eq_zero (by omega)
  exact NK.nil
 clear e0 y0 z0 W0 fI iF C0
 clear e1 y1 z1 W1 oV qy C1 lu
 clear h hf hr hg hc hkl hcap hn dS jW em
 have F:=q.f1
 have⟨lg,G0⟩:=q.k0 aW
 have G1:=fH (q.o dP).2
 go_enter Tryz.func127,Tryz.ntmps127
 go_wp2_with (first
  |(go_at_call 106;refine q.put ?_;clear q F lg G0 G1;intro w2 q;have F:=q.f1;have⟨lg,G0⟩:=q.k0 aW;have G1:=fH (q.o dP).2)
  |(go_at_call 115;refine q.when (ss:=[⟨#[101,108,115,101]⟩]) ?_;clear q F lg G0 G1;intro w2 q;have F:=q.f1;have⟨lg,G0⟩:=q.k0 aW;have G1:=fH (q.o dP).2)
  |(go_at_call 105;refine q.go (fun a1 a2=>gq hR (HZ.out _ (by first|rfl|assumption|omega)) HL.out.2 a1 a2) ?_;clear q F lg G0 G1;intro w2 q;have F:=q.f1;have⟨lg,G0⟩:=q.k0 aW;have G1:=fH (q.o dP).2)
  |(go_at_call 105;refine q.go (fun a1 a2=>gq hR HL.out.1 HL.out.2 a1 a2) ?_;clear q F lg G0 G1;intro w2 q;have F:=q.f1;have⟨lg,G0⟩:=q.k0 aW;have G1:=fH (q.o dP).2)
  |(go_at_call 25;refine q.go (fun a1 a2=>HW1.out a1 a2) ?_;clear q F lg G0 G1;intro w2 q;have F:=q.f1;have⟨lg,G0⟩:=q.k0 aW;have G1:=fH (q.o dP).2)
  |(go_at_call 122;refine q.go (fun a1 a2=>kR.out a1 a2) ?_;clear q F lg G0 G1;intro w2 q;have F:=q.f1;have⟨lg,G0⟩:=q.k0 aW;have G1:=fH (q.o dP).2))
 all_goals(go_end0;exact q.done (by simp<;>rfl))
theorem WW (hR:RP B w0 wb f) (hm:Mx B w0) (ht:Tab B w0) (hkn:kl=3):PW B w0 wb f 127 (ah 33 pos n m name (.slice ko kl kc)):=by
 refine PW.of fun w aT vs h hf hcap hkl hr hg hs hc=>?_
 have hn:=hr.nk hg
 obtain rfl:kl=3:=hkn
 obtain⟨cz,rfl⟩:∃cz,kc=2+cz:=⟨kc - 2,by omega⟩
 obtain⟨k0,p0,a0,b0,s0,o0,l0,c0,g,X0,Y0,Z0,e0,y0,z0,rfl,W0,fI,iF,C0⟩:=fP hR hn hc (i:=0) (by omega)
 obtain⟨k1,p1,a1,b1,s1,o1,l1,c1,g1,X1,Y1,Z1,e1,y1,z1,lu,W1,oV,qy,C1⟩:=fP hR hn hc (i:=1) (by omega)
 obtain rfl:g=g1:=by simpa using lu
 obtain⟨us,dS⟩:∃us,us=vs.drop 2:=⟨_,rfl⟩
 have jW:us.length=1:=by rw[dS,List.length_drop];omega
 have em:(vs.map (aB f w0)).drop 2=us.map (aB f w0):=by rw[dS,List.map_drop]
 have e:asm 33 n m (name:ByteArray).data.toList (vs.map (aB f w0))=[105,102]::(Y0++(X1++(aC true [[101,108,115,101]]++(bB (us.map (aB f w0))++[])))):=by
  show [105,102]::(gQ (kd (vs.map (aB f w0)) 0)++((kd (vs.map (aB f w0)) 1).t++(aC (decide (2<(vs.map (aB f w0)).length)) [[101,108,115,101]]++bB ((vs.map (aB f w0)).drop 2))))=_;rw[e0,e1,y0,em,show(vs.map (aB f w0)).length=3 from by rw[List.length_map];exact hkl,List.append_nil];rfl
 rw[e] at hf⊢
 clear e
 have q:=(Sp.start h hf).box (ah 33 pos n m name (.slice (some ⟨g,0,none⟩) 3 (2+cz)))
 have kR:=@aG _ @fI
 have aW:=@aG _ @C0
 have HW1:=@aG _ @W1
 have dP:=@aG _ @C1
 have HL:Hid (NK B w0 f (some ⟨g,22,none⟩) us∧us.length=1):=⟨by have:=hn.drop 2;rw[←dS] at this;simpa using this,jW⟩
 have HZ:Hid (∀a,cz=0→NK B w0 f a us):=fun a hz=>by
  obtain rfl:us=[]:=List.eq_nil_of_length_eq_zero (by omega)
  exact NK.nil
 have hcz:(1:Int)≤(cz:Int):=by omega
 clear e0 y0 z0 W0 fI iF C0
 clear e1 y1 z1 W1 oV qy C1 lu
 clear h hf hr hg hc hkl hcap hn dS jW em
 have F:=q.f1
 have⟨lg,G0⟩:=q.k0 aW
 have G1:=fH (q.o dP).2
 go_enter Tryz.func127,Tryz.ntmps127
 go_wp2_with (first
  |(go_at_call 106;refine q.put ?_;clear q F lg G0 G1;intro w2 q;have F:=q.f1;have⟨lg,G0⟩:=q.k0 aW;have G1:=fH (q.o dP).2)
  |(go_at_call 115;refine q.when (ss:=[⟨#[101,108,115,101]⟩]) ?_;clear q F lg G0 G1;intro w2 q;have F:=q.f1;have⟨lg,G0⟩:=q.k0 aW;have G1:=fH (q.o dP).2)
  |(go_at_call 105;refine q.go (fun a1 a2=>gq hR (HZ.out _ (by first|rfl|assumption|omega)) HL.out.2 a1 a2) ?_;clear q F lg G0 G1;intro w2 q;have F:=q.f1;have⟨lg,G0⟩:=q.k0 aW;have G1:=fH (q.o dP).2)
  |(go_at_call 105;refine q.go (fun a1 a2=>gq hR HL.out.1 HL.out.2 a1 a2) ?_;clear q F lg G0 G1;intro w2 q;have F:=q.f1;have⟨lg,G0⟩:=q.k0 aW;have G1:=fH (q.o dP).2)
  |(go_at_call 25;refine q.go (fun a1 a2=>HW1.out a1 a2) ?_;clear q F lg G0 G1;intro w2 q;have F:=q.f1;have⟨lg,G0⟩:=q.k0 aW;have G1:=fH (q.o dP).2)
  |(go_at_call 122;refine q.go (fun a1 a2=>kR.out a1 a2) ?_;clear q F lg G0 G1;intro w2 q;have F:=q.f1;have⟨lg,G0⟩:=q.k0 aW;have G1:=fH (q.o dP).2))
 all_goals(go_end0;exact q.done (by simp<;>rfl))
theorem aak (hR:RP B w0 wb f) (hm:Mx B w0) (ht:Tab B w0):PW B w0 wb f 127 (ah 34 pos n m name (.slice ko kl kc)):=by
 refine PW.of fun w aT vs h hf hcap hkl hr hg hs hc=>?_
 have hn:=hr.nk hg
 have:kl≠0:=by
  obtain⟨y,zs,ji,-,-⟩:=hg.ematch rfl
  have:=congrArg List.length ji
  simp at this;omega
 obtain⟨l1,rfl⟩:∃l1,kl=l1+1:=⟨kl - 1,by omega⟩
 obtain⟨c1,rfl⟩:∃c1,kc=c1+1:=⟨kc - 1,by omega⟩
 obtain⟨k0,p0,a0,b0,s0,o0,l0,c0,g,X0,Y0,Z0,e0,y0,z0,rfl,W0,fI,iF,C0⟩:=fP hR hn hc (i:=0) (by omega)
 obtain⟨us,dS⟩:∃us,us=vs.drop 1:=⟨_,rfl⟩
 have jW:us.length=l1:=by rw[dS,List.length_drop];omega
 have em:(vs.map (aB f w0)).drop 1=us.map (aB f w0):=by rw[dS,List.map_drop]
 have hb:=hn.row.few
 rw[hkl] at hb
 have e:asm 34 n m (name:ByteArray).data.toList (vs.map (aB f w0))=[109,97,116,99,104]::(Y0++(bF [123] [125] (us.map (aB f w0))++[])):=by
  show [109,97,116,99,104]::(gQ (kd (vs.map (aB f w0)) 0)++bF [123] [125] ((vs.map (aB f w0)).drop 1))=_;rw[e0,y0,em,List.append_nil]
 rw[e] at hf⊢
 clear e
 have q:=(Sp.start h hf).box (ah 34 pos n m name (.slice (some ⟨g,0,none⟩) (l1+1) (c1+1)))
 have kR:=@aG _ @fI
 have aW:=@aG _ @C0
 have HL:Hid (NK B w0 f (some ⟨g,11,none⟩) us∧us.length=l1):=⟨by have:=hn.drop 1;rw[←dS] at this;simpa using this,jW⟩
 have HZ:Hid (∀a,c1=0→NK B w0 f a us):=fun a hz=>by
  obtain rfl:us=[]:=List.eq_nil_of_length_eq_zero (by omega)
  exact NK.nil
 have Ck:(l1:Int)+1≤20000:=by omega
 have hcI:(l1:Int)≤(c1:Int):=by omega
 clear e0 y0 z0 W0 fI iF C0
 clear h hf hr hg hc hkl hcap hn dS jW em hb
 have F:=q.f1
 have⟨lg,G0⟩:=q.k0 aW
 go_enter Tryz.func127,Tryz.ntmps127
 go_wp2_with (first
  |(go_at_call 106;refine q.put ?_;clear q F lg G0;intro w2 q;have F:=q.f1;have⟨lg,G0⟩:=q.k0 aW)
  |(go_at_call 117;refine q.go (fun a1 a2=>jg hR ⟨#[123]⟩ ⟨#[125]⟩ (HZ.out _ (by first|rfl|assumption|omega)) HL.out.2 a1 a2) ?_;clear q F lg G0;intro w2 q;have F:=q.f1;have⟨lg,G0⟩:=q.k0 aW)
  |(go_at_call 117;refine q.go (fun a1 a2=>jg hR ⟨#[123]⟩ ⟨#[125]⟩ HL.out.1 HL.out.2 a1 a2) ?_;clear q F lg G0;intro w2 q;have F:=q.f1;have⟨lg,G0⟩:=q.k0 aW)
  |(go_at_call 122;refine q.go (fun a1 a2=>kR.out a1 a2) ?_;clear q F lg G0;intro w2 q;have F:=q.f1;have⟨lg,G0⟩:=q.k0 aW))
 all_goals(go_end0;exact q.done (by simp<;>rfl))
theorem WX (hR:RP B w0 wb f) (hm:Mx B w0) (ht:Tab B w0) (hnn:n=0):PW B w0 wb f 181 (ah 43 pos n m name (.slice ko kl kc)):=by
 refine PW.of fun w aT vs h hf hcap hkl hr hg hs hc=>?_
 have hn:=hr.nk hg
 obtain rfl:n=0:=hnn
 obtain rfl:kl=0:=by
  have:=(hg.ET rfl).2
  simp[hkl] at this
  omega
 have e:asm 43 0 m (name:ByteArray).data.toList (vs.map (aB f w0))=[108,101,116]::(aC (m==1) [[109,117,116]]++(tl name::([]))):=by
  rfl
 rw[e] at hf⊢
 clear e
 have q:=(Sp.start h hf).box (ah 43 pos 0 m name (.slice ko 0 kc))
 clear h hf hr hg hc hkl hcap hn
 have F:=q.f1
 go_enter Tryz.func181,Tryz.ntmps181
 go_wp2_with (first
  |(go_at_call 106;refine q.put ?_;clear q F;intro w2 q;have F:=q.f1)
  |(go_at_call 115;refine q.when (ss:=[⟨#[109,117,116]⟩]) ?_;clear q F;intro w2 q;have F:=q.f1))
 all_goals(go_end0;exact q.done (by simp<;>rfl))
theorem WY (hR:RP B w0 wb f) (hm:Mx B w0) (ht:Tab B w0) (hnn:n=1):PW B w0 wb f 181 (ah 43 pos n m name (.slice ko kl kc)):=by
 refine PW.of fun w aT vs h hf hcap hkl hr hg hs hc=>?_
 have hn:=hr.nk hg
 obtain rfl:n=1:=hnn
 obtain rfl:kl=1:=by
  have:=(hg.ET rfl).2
  simp[hkl] at this
  omega
 obtain⟨cz,rfl⟩:∃cz,kc=1+cz:=⟨kc - 1,by omega⟩
 obtain⟨k0,p0,a0,b0,s0,o0,l0,c0,g,X0,Y0,Z0,e0,y0,z0,rfl,W0,fI,iF,C0⟩:=fP hR hn hc (i:=0) (by omega)
 have e:asm 43 1 m (name:ByteArray).data.toList (vs.map (aB f w0))=[108,101,116]::(aC (m==1) [[109,117,116]]++(tl name::([58]::(X0++[])))):=by
  show [108,101,116]::(aC (m==1) [[109,117,116]]++(tl name::(aC ((1:Int)%2==1) ([58]::(kd (vs.map (aB f w0)) 0).t)++aC (decide (2≤(1:Int))) ([61]::(kd (vs.map (aB f w0)) ((1:Int)%2).toNat).t))))=_;rw[e0,List.append_nil];show _=_;simp[aC]
 rw[e] at hf⊢
 clear e
 have q:=(Sp.start h hf).box (ah 43 pos 1 m name (.slice (some ⟨g,0,none⟩) 1 (1+cz)))
 have HW0:=@aG _ @W0
 have aW:=@aG _ @C0
 clear e0 y0 z0 W0 fI iF C0
 clear h hf hr hg hc hkl hcap hn
 have F:=q.f1
 have⟨lg,G0⟩:=q.k0 aW
 go_enter Tryz.func181,Tryz.ntmps181
 go_wp2_with (first
  |(go_at_call 106;refine q.put ?_;clear q F lg G0;intro w2 q;have F:=q.f1;have⟨lg,G0⟩:=q.k0 aW)
  |(go_at_call 115;refine q.when (ss:=[⟨#[109,117,116]⟩]) ?_;clear q F lg G0;intro w2 q;have F:=q.f1;have⟨lg,G0⟩:=q.k0 aW)
  |(go_at_call 25;refine q.go (fun a1 a2=>HW0.out a1 a2) ?_;clear q F lg G0;intro w2 q;have F:=q.f1;have⟨lg,G0⟩:=q.k0 aW))
 all_goals(go_end0;exact q.done (by simp<;>rfl))
theorem WZ (hR:RP B w0 wb f) (hm:Mx B w0) (ht:Tab B w0) (hnn:n=2):PW B w0 wb f 181 (ah 43 pos n m name (.slice ko kl kc)):=by
 refine PW.of fun w aT vs h hf hcap hkl hr hg hs hc=>?_
 have hn:=hr.nk hg
 obtain rfl:n=2:=hnn
 obtain rfl:kl=1:=by
  have:=(hg.ET rfl).2
  simp[hkl] at this
  omega
 obtain⟨k0,p0,a0,b0,s0,o0,l0,c0,g,X0,Y0,Z0,e0,y0,z0,rfl,W0,fI,iF,C0⟩:=fP hR hn hc (i:=0) (by omega)
 have e:asm 43 2 m (name:ByteArray).data.toList (vs.map (aB f w0))=[108,101,116]::(aC (m==1) [[109,117,116]]++(tl name::([61]::(X0++[])))):=by
  show [108,101,116]::(aC (m==1) [[109,117,116]]++(tl name::(aC ((2:Int)%2==1) ([58]::(kd (vs.map (aB f w0)) 0).t)++aC (decide (2≤(2:Int))) ([61]::(kd (vs.map (aB f w0)) ((2:Int)%2).toNat).t))))=_;rw[show((2:Int)%2).toNat=0 from rfl,e0,List.append_nil];rfl
 rw[e] at hf⊢
 clear e
 have q:=(Sp.start h hf).box (ah 43 pos 2 m name (.slice (some ⟨g,0,none⟩) 1 kc))
 have HW0:=@aG _ @W0
 have aW:=@aG _ @C0
 clear e0 y0 z0 W0 fI iF C0
 clear h hf hr hg hc hkl hcap hn
 have F:=q.f1
 have⟨lg,G0⟩:=q.k0 aW
 go_enter Tryz.func181,Tryz.ntmps181
 go_wp2_with (first
  |(go_at_call 106;refine q.put ?_;clear q F lg G0;intro w2 q;have F:=q.f1;have⟨lg,G0⟩:=q.k0 aW)
  |(go_at_call 115;refine q.when (ss:=[⟨#[109,117,116]⟩]) ?_;clear q F lg G0;intro w2 q;have F:=q.f1;have⟨lg,G0⟩:=q.k0 aW)
  |(go_at_call 25;refine q.go (fun a1 a2=>HW0.out a1 a2) ?_;clear q F lg G0;intro w2 q;have F:=q.f1;have⟨lg,G0⟩:=q.k0 aW))
 all_goals(go_end0;exact q.done (by simp<;>rfl))
theorem W9 (hR:RP B w0 wb f) (hm:Mx B w0) (ht:Tab B w0) (hnn:n=3):PW B w0 wb f 181 (ah 43 pos n m name (.slice ko kl kc)):=by
 refine PW.of fun w aT vs h hf hcap hkl hr hg hs hc=>?_
 have hn:=hr.nk hg
 obtain rfl:n=3:=hnn
 obtain rfl:kl=2:=by
  have:=(hg.ET rfl).2
  simp[hkl] at this
  omega
 obtain⟨cz,rfl⟩:∃cz,kc=2+cz:=⟨kc - 2,by omega⟩
 obtain⟨k0,p0,a0,b0,s0,o0,l0,c0,g,X0,Y0,Z0,e0,y0,z0,rfl,W0,fI,iF,C0⟩:=fP hR hn hc (i:=0) (by omega)
 obtain⟨k1,p1,a1,b1,s1,o1,l1,c1,g1,X1,Y1,Z1,e1,y1,z1,lu,W1,oV,qy,C1⟩:=fP hR hn hc (i:=1) (by omega)
 obtain rfl:g=g1:=by simpa using lu
 have e:asm 43 3 m (name:ByteArray).data.toList (vs.map (aB f w0))=[108,101,116]::(aC (m==1) [[109,117,116]]++(tl name::([58]::(X0++([61]::(X1++[])))))):=by
  show [108,101,116]::(aC (m==1) [[109,117,116]]++(tl name::(aC ((3:Int)%2==1) ([58]::(kd (vs.map (aB f w0)) 0).t)++aC (decide (2≤(3:Int))) ([61]::(kd (vs.map (aB f w0)) ((3:Int)%2).toNat).t))))=_;rw[show((3:Int)%2).toNat=1 from rfl,e0,e1,List.append_nil];simp[aC]
 rw[e] at hf⊢
 clear e
 have q:=(Sp.start h hf).box (ah 43 pos 3 m name (.slice (some ⟨g,0,none⟩) 2 (2+cz)))
 have HW0:=@aG _ @W0
 have aW:=@aG _ @C0
 have HW1:=@aG _ @W1
 have dP:=@aG _ @C1
 clear e0 y0 z0 W0 fI iF C0
 clear e1 y1 z1 W1 oV qy C1 lu
 clear h hf hr hg hc hkl hcap hn
 have F:=q.f1
 have⟨lg,G0⟩:=q.k0 aW
 have G1:=fH (q.o dP).2
 go_enter Tryz.func181,Tryz.ntmps181
 go_wp2_with (first
  |(go_at_call 106;refine q.put ?_;clear q F lg G0 G1;intro w2 q;have F:=q.f1;have⟨lg,G0⟩:=q.k0 aW;have G1:=fH (q.o dP).2)
  |(go_at_call 115;refine q.when (ss:=[⟨#[109,117,116]⟩]) ?_;clear q F lg G0 G1;intro w2 q;have F:=q.f1;have⟨lg,G0⟩:=q.k0 aW;have G1:=fH (q.o dP).2)
  |(go_at_call 25;refine q.go (fun a1 a2=>HW1.out a1 a2) ?_;clear q F lg G0 G1;intro w2 q;have F:=q.f1;have⟨lg,G0⟩:=q.k0 aW;have G1:=fH (q.o dP).2)
  |(go_at_call 25;refine q.go (fun a1 a2=>HW0.out a1 a2) ?_;clear q F lg G0 G1;intro w2 q;have F:=q.f1;have⟨lg,G0⟩:=q.k0 aW;have G1:=fH (q.o dP).2))
 all_goals(go_end0;exact q.done (by simp<;>rfl))
theorem Xa (hR:RP B w0 wb f) {ks:List (List Value)} (r:NK B w0 f ko ks) (h:Pw B w0 w wb aT) (hf:(aT++([123]::(nO n (ks.map (aB f w0))++[[125]]))).length≤1099511627776):Calls Tryz.prog 180 #[.pointer (some ⟨wb,0,none⟩),.agg (ah 42 pos n m name (.slice ko ks.length kc))] w (PP B w0 w wb aT ([123]::(nO n (ks.map (aB f w0))++[[125]]))):=by
 have H:=@aG _ @r
 have q:=(Sp.start h hf).box (ah 42 pos n m name (.slice ko ks.length kc))
 have oC:=r.row.few
 have F:=q.f1
 obtain⟨nb,hnb⟩:∃nb,nb=w.heap.size:=⟨_,rfl⟩
 clear r h hf
 go_enter Tryz.func180,Tryz.ntmps180
 go_wp2_with (go_at_call 106;refine q.put ?_;clear q F;intro w1 q;have F:=q.f1)
 rw[←hnb] at q F⊢
 clear hnb
 go_loopg [12] ks.length (fun gg u wr=>∃(idx:Nat) (ts:List (List UInt8)),gg=ks.length - idx∧u=.int .i64 idx∧idx≤ks.length∧Hid (ts++nO n ((ks.map (aB f w0)).drop idx)=[123]::nO n (ks.map (aB f w0)))∧Hid (Sp B w0 w wb aT ts (nO n ((ks.map (aB f w0)).drop idx)++[[125]]) wr [(nb,(ah 42 pos n m name (.slice ko ks.length kc)))]))
 case atStart=>exact⟨0,[]++[[123]],rfl,rfl,Nat.zero_le _,(by show _=_;simp),q⟩
 case round=>
  clear q F
  obtain⟨idx,ts,eD,rfl,hidx,HT,Q⟩:=hrel
  have HG:=@aG _ @eD
  clear eD
  have F:=Q.out.f1
  by_cases hlt:idx<ks.length
  ·have uI:(idx:Int)<(ks.length:Int):=by omega
   obtain⟨x,hx⟩:∃x,ks[idx]? =some x:=⟨_,List.getElem?_eq_getElem hlt⟩
   obtain⟨g,o,rfl,hgB,hcell⟩:=H.out.row.cell idx x hx
   have hmem:=List.mem_of_getElem? hx
   obtain⟨dJ,pos2,n2,m2,name2,iC,iK,iD,rfl,-,-⟩:=(H.out.row.all x hmem).fields
   have HX:Hid (Nw B w0 f (ah dJ pos2 n2 m2 name2 (.slice iC iK iD)).toList∧qF (nM (ah dJ pos2 n2 m2 name2 (.slice iC iK iD)).toList)∧(ks.map (aB f w0))[idx]? =some (aB f w0 (ah dJ pos2 n2 m2 name2 (.slice iC iK iD)).toList)):=⟨H.out.row.all _ hmem,H.out.ok _ hmem,by rw[List.getElem?_map,hx];rfl⟩
   have lift:∀j,j<11→wr.cell? ⟨g,o+idx*11+j,none⟩=(ah dJ pos2 n2 m2 name2 (.slice iC iK iD)).toList[j]? :=fun j hj=>(Q.out.wr.uZ.cell (p:=⟨g,o+idx*11+j,none⟩) hgB).trans (hcell j hj)
   have lg:g<wr.heap.size:=Nat.lt_of_lt_of_le hgB Q.out.wr.base
   have e0:=lift 0 (by decide)
   have e1:=lift 1 (by decide)
   have e2:=lift 2 (by decide)
   have e3:=lift 3 (by decide)
   have e4:=lift 4 (by decide)
   have e5:=lift 5 (by decide)
   have e6:=lift 6 (by decide)
   have e7:=lift 7 (by decide)
   have e8:=lift 8 (by decide)
   have e9:=lift 9 (by decide)
   have e10:=lift 10 (by decide)
   simp only[Nat.add_zero] at e0
   clear lift hcell hx hmem
   have st:=OT (n:=n) HX.out.2.2
   rw[List.length_map] at st
   obtain⟨d,hd⟩:∃d,d=(n==0||decide (idx+1<ks.length)):=⟨_,rfl⟩
   rw[←hd] at st
   have st2:nO n ((ks.map (aB f w0)).drop idx)++[[125]]=(aB f w0 (ah dJ pos2 n2 m2 name2 (.slice iC iK iD)).toList).t++(aC d [[59]]++(nO n ((ks.map (aB f w0)).drop (idx+1))++[[125]])):=by rw[st];simp
   have HE:Hid (ts++(aB f w0 (ah dJ pos2 n2 m2 name2 (.slice iC iK iD)).toList).t++aC d [[59]]++nO n ((ks.map (aB f w0)).drop (idx+1))=[123]::nO n (ks.map (aB f w0))):=by show _=_;rw[←HT.out,st];simp
   have q:=((Q.out.as st2).box (ah dJ pos2 n2 m2 name2 (.slice iC iK iD)))
   clear st st2 F
   have F:=q.f2
   by_cases hn0:n=0
   ·subst hn0
    obtain rfl:d=true:=by rw[hd];rfl
    clear hd
    go_wp2_with (first|(go_at_call 115;refine q.when (ss:=[⟨#[59]⟩]) ?_;clear q F;intro w3 q;have F:=q.f2)|(go_at_call 25;refine q.go (fun a1 a2=>hR HX.out.1 HX.out.2.1 a1 a2) ?_;clear q F;intro w2 q;have F:=q.f2))
    go_roundg (ks.length - (idx+1))
    case measure=>rw[HG.out];omega
    case rel=>exact⟨idx+1,_,rfl,by go_num,hlt,HE.out,q.pop⟩
   ·have hn1:(n==0)=false:=by simpa using hn0
    rw[hn1,Bool.false_or] at hd
    clear hn0
    obtain rfl:d=decide ((idx:Int)<(ks.length:Int) - 1):=by rw[hd];exact decide_eq_decide.2 (by omega)
    clear hd
    go_wp2_with (first|(go_at_call 115;refine q.when (ss:=[⟨#[59]⟩]) ?_;clear q F;intro w3 q;have F:=q.f2)|(go_at_call 25;refine q.go (fun a1 a2=>hR HX.out.1 HX.out.2.1 a1 a2) ?_;clear q F;intro w2 q;have F:=q.f2))
    go_roundg (ks.length - (idx+1))
    case measure=>rw[HG.out];omega
    case rel=>exact⟨idx+1,_,rfl,by go_num,hlt,HE.out,q.pop⟩
  ·have uI:¬(idx:Int)<(ks.length:Int):=by omega
   obtain rfl:idx=ks.length:=by omega
   have e:nO n ((ks.map (aB f w0)).drop ks.length)=[]:=by rw[List.drop_of_length_le (by rw[List.length_map];exact Nat.le_refl _)];rfl
   have q:=Q.out.as (rest':=[125]::[]) (by rw[e];rfl)
   have HE:Hid (ts=[123]::nO n (ks.map (aB f w0))):=by show _=_;rw[←HT.out,e,List.append_nil]
   clear e
   go_wp2_with (go_at_call 106;refine q.put ?_;clear q;intro w3 q)
   go_end0
   exact q.done (by rw[HE.out];rfl)
theorem aal (hR:RP B w0 wb f) (hx:Nw B w0 (f+1) (ah 42 pos n m name (.slice ko kl kc)).toList):Wq B w0 wb 180 (ah 42 pos n m name (.slice ko kl kc)) (tok (f+1) w0 (ah 42 pos n m name (.slice ko kl kc)).toList):=by
 intro w aT h hf
 obtain⟨vs,hkl,hr,hg,IE,hs,hc⟩:=hx.opened
 rw[IE] at hf⊢
 subst hkl
 exact Xa hR (NK.of hr hg (by unfold C9 xV;omega)) h hf
theorem O5 {T:List (List UInt8)} (HP:Wq B w0 wb 127 (ah 33 pos n m name (.slice ko kl kc)) T):Wq B w0 wb 50 (ah 33 pos n m name (.slice ko kl kc)) T:=by
 intro w aT h hf
 have q:=((Sp.start h hf).as (rest':=T++[]) (by simp)).box (ah 33 pos n m name (.slice ko kl kc))
 have H:=@aG _ @HP
 clear h hf HP
 have F:=q.f1
 go_enter Tryz.func50,Tryz.ntmps50
 go_wp2_with (go_at_call 127;refine q.go (fun a1 a2=>H.out a1 a2) ?_;clear q F;intro w2 q;have F:=q.f1)
 go_end0
 exact q.done (by simp)
theorem aam {T:List (List UInt8)} (HP:Wq B w0 wb 127 (ah 34 pos n m name (.slice ko kl kc)) T):Wq B w0 wb 50 (ah 34 pos n m name (.slice ko kl kc)) T:=by
 intro w aT h hf
 have q:=((Sp.start h hf).as (rest':=T++[]) (by simp)).box (ah 34 pos n m name (.slice ko kl kc))
 have H:=@aG _ @HP
 clear h hf HP
 have F:=q.f1
 go_enter Tryz.func50,Tryz.ntmps50
 go_wp2_with (go_at_call 127;refine q.go (fun a1 a2=>H.out a1 a2) ?_;clear q F;intro w2 q;have F:=q.f1)
 go_end0
 exact q.done (by simp)
theorem aan {T:List (List UInt8)} (HP:Wq B w0 wb 127 (ah 35 pos n m name (.slice ko kl kc)) T):Wq B w0 wb 50 (ah 35 pos n m name (.slice ko kl kc)) T:=by
 intro w aT h hf
 have q:=((Sp.start h hf).as (rest':=T++[]) (by simp)).box (ah 35 pos n m name (.slice ko kl kc))
 have H:=@aG _ @HP
 clear h hf HP
 have F:=q.f1
 go_enter Tryz.func50,Tryz.ntmps50
 go_wp2_with (go_at_call 127;refine q.go (fun a1 a2=>H.out a1 a2) ?_;clear q F;intro w2 q;have F:=q.f1)
 go_end0
 exact q.done (by simp)
theorem aao {T:List (List UInt8)} (HP:Wq B w0 wb 127 (ah 36 pos n m name (.slice ko kl kc)) T):Wq B w0 wb 50 (ah 36 pos n m name (.slice ko kl kc)) T:=by
 intro w aT h hf
 have q:=((Sp.start h hf).as (rest':=T++[]) (by simp)).box (ah 36 pos n m name (.slice ko kl kc))
 have H:=@aG _ @HP
 clear h hf HP
 have F:=q.f1
 go_enter Tryz.func50,Tryz.ntmps50
 go_wp2_with (go_at_call 127;refine q.go (fun a1 a2=>H.out a1 a2) ?_;clear q F;intro w2 q;have F:=q.f1)
 go_end0
 exact q.done (by simp)
theorem aap {T:List (List UInt8)} (HP:Wq B w0 wb 127 (ah 37 pos n m name (.slice ko kl kc)) T):Wq B w0 wb 50 (ah 37 pos n m name (.slice ko kl kc)) T:=by
 intro w aT h hf
 have q:=((Sp.start h hf).as (rest':=T++[]) (by simp)).box (ah 37 pos n m name (.slice ko kl kc))
 have H:=@aG _ @HP
 clear h hf HP
 have F:=q.f1
 go_enter Tryz.func50,Tryz.ntmps50
 go_wp2_with (go_at_call 127;refine q.go (fun a1 a2=>H.out a1 a2) ?_;clear q F;intro w2 q;have F:=q.f1)
 go_end0
 exact q.done (by simp)
theorem aaq {T:List (List UInt8)} (HP:Wq B w0 wb 127 (ah 38 pos n m name (.slice ko kl kc)) T):Wq B w0 wb 50 (ah 38 pos n m name (.slice ko kl kc)) T:=by
 intro w aT h hf
 have q:=((Sp.start h hf).as (rest':=T++[]) (by simp)).box (ah 38 pos n m name (.slice ko kl kc))
 have H:=@aG _ @HP
 clear h hf HP
 have F:=q.f1
 go_enter Tryz.func50,Tryz.ntmps50
 go_wp2_with (go_at_call 127;refine q.go (fun a1 a2=>H.out a1 a2) ?_;clear q F;intro w2 q;have F:=q.f1)
 go_end0
 exact q.done (by simp)
theorem aar {T:List (List UInt8)} (HP:Wq B w0 wb 127 (ah 39 pos n m name (.slice ko kl kc)) T):Wq B w0 wb 50 (ah 39 pos n m name (.slice ko kl kc)) T:=by
 intro w aT h hf
 have q:=((Sp.start h hf).as (rest':=T++[]) (by simp)).box (ah 39 pos n m name (.slice ko kl kc))
 have H:=@aG _ @HP
 clear h hf HP
 have F:=q.f1
 go_enter Tryz.func50,Tryz.ntmps50
 go_wp2_with (go_at_call 127;refine q.go (fun a1 a2=>H.out a1 a2) ?_;clear q F;intro w2 q;have F:=q.f1)
 go_end0
 exact q.done (by simp)
theorem aas {T:List (List UInt8)} (HP:Wq B w0 wb 127 (ah 40 pos n m name (.slice ko kl kc)) T):Wq B w0 wb 50 (ah 40 pos n m name (.slice ko kl kc)) T:=by
 intro w aT h hf
 have q:=((Sp.start h hf).as (rest':=T++[]) (by simp)).box (ah 40 pos n m name (.slice ko kl kc))
 have H:=@aG _ @HP
 clear h hf HP
 have F:=q.f1
 go_enter Tryz.func50,Tryz.ntmps50
 go_wp2_with (go_at_call 127;refine q.go (fun a1 a2=>H.out a1 a2) ?_;clear q F;intro w2 q;have F:=q.f1)
 go_end0
 exact q.done (by simp)
theorem aat {T:List (List UInt8)} (HP:Wq B w0 wb 127 (ah 41 pos n m name (.slice ko kl kc)) T):Wq B w0 wb 50 (ah 41 pos n m name (.slice ko kl kc)) T:=by
 intro w aT h hf
 have q:=((Sp.start h hf).as (rest':=T++[]) (by simp)).box (ah 41 pos n m name (.slice ko kl kc))
 have H:=@aG _ @HP
 clear h hf HP
 have F:=q.f1
 go_enter Tryz.func50,Tryz.ntmps50
 go_wp2_with (go_at_call 127;refine q.go (fun a1 a2=>H.out a1 a2) ?_;clear q F;intro w2 q;have F:=q.f1)
 go_end0
 exact q.done (by simp)
theorem aau {T:List (List UInt8)} (HP:Wq B w0 wb 127 (ah 42 pos n m name (.slice ko kl kc)) T):Wq B w0 wb 50 (ah 42 pos n m name (.slice ko kl kc)) T:=by
 intro w aT h hf
 have q:=((Sp.start h hf).as (rest':=T++[]) (by simp)).box (ah 42 pos n m name (.slice ko kl kc))
 have H:=@aG _ @HP
 clear h hf HP
 have F:=q.f1
 go_enter Tryz.func50,Tryz.ntmps50
 go_wp2_with (go_at_call 127;refine q.go (fun a1 a2=>H.out a1 a2) ?_;clear q F;intro w2 q;have F:=q.f1)
 go_end0
 exact q.done (by simp)
theorem DX {T:List (List UInt8)} (HP:Wq B w0 wb 127 (ah 43 pos n m name (.slice ko kl kc)) T):Wq B w0 wb 50 (ah 43 pos n m name (.slice ko kl kc)) T:=by
 intro w aT h hf
 have q:=((Sp.start h hf).as (rest':=T++[]) (by simp)).box (ah 43 pos n m name (.slice ko kl kc))
 have H:=@aG _ @HP
 clear h hf HP
 have F:=q.f1
 go_enter Tryz.func50,Tryz.ntmps50
 go_wp2_with (go_at_call 127;refine q.go (fun a1 a2=>H.out a1 a2) ?_;clear q F;intro w2 q;have F:=q.f1)
 go_end0
 exact q.done (by simp)
theorem aav {T:List (List UInt8)} (HP:Wq B w0 wb 180 (ah 42 pos n m name (.slice ko kl kc)) T):Wq B w0 wb 127 (ah 42 pos n m name (.slice ko kl kc)) T:=by
 intro w aT h hf
 have q:=((Sp.start h hf).as (rest':=T++[]) (by simp)).box (ah 42 pos n m name (.slice ko kl kc))
 have H:=@aG _ @HP
 clear h hf HP
 have F:=q.f1
 go_enter Tryz.func127,Tryz.ntmps127
 go_wp2_with (go_at_call 180;refine q.go (fun a1 a2=>H.out a1 a2) ?_;clear q F;intro w2 q;have F:=q.f1)
 go_end0
 exact q.done (by simp)
theorem DY {T:List (List UInt8)} (HP:Wq B w0 wb 181 (ah 43 pos n m name (.slice ko kl kc)) T):Wq B w0 wb 127 (ah 43 pos n m name (.slice ko kl kc)) T:=by
 intro w aT h hf
 have q:=((Sp.start h hf).as (rest':=T++[]) (by simp)).box (ah 43 pos n m name (.slice ko kl kc))
 have H:=@aG _ @HP
 clear h hf HP
 have F:=q.f1
 go_enter Tryz.func127,Tryz.ntmps127
 go_wp2_with (go_at_call 181;refine q.go (fun a1 a2=>H.out a1 a2) ?_;clear q F;intro w2 q;have F:=q.f1)
 go_end0
 exact q.done (by simp)
end
end Go.Proofs.YtdplogkmkgekdaaGreatDoor
