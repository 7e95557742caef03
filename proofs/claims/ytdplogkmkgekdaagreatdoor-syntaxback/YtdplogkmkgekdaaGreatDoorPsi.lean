/- The project's writer: what is made. -/
import Derived.Test.YtdplogkmkgekdaaGreatDoorPsf
import Derived.Test.YtdplogkmkgekdaaGreatDoorTypes
import Derived.Test.YtdplogkmkgekdaaGreatDoorHdb
set_option linter.all false
set_option maxRecDepth 100000
set_option maxHeartbeats 4000000
namespace Go.Proofs.YtdplogkmkgekdaaGreatDoor
open Go.RowKit
section
variable {B:Nat} {w0 w:World} {wb f:Nat} {aT:List (List UInt8)} {kind pos n m:Int} {name:ByteArray} {ko:Option Addr} {kl kc:Nat}
theorem Nw.shape (h:Nw B w0 (f+1) (ah kind pos n m name (.slice ko kl kc)).toList):(ko=none∧kl=0∧kc=0)∨∃g,ko=some ⟨g,0,none⟩:=by
 obtain⟨kind',pos',n',m',name',kv,vs,h1,h2,h3,h3',h4,h5,h6,h7⟩:=h
 have e:kind=kind'∧pos=pos'∧n=n'∧m=m'∧name=name'∧Value.slice ko kl kc=kv:=by simpa[ah] using h1
 obtain⟨rfl,rfl,rfl,rfl,rfl,rfl⟩:=e
 rcases h4.2 with⟨x1,x2⟩|⟨g,cap,cur,x1,hb,hg,hnc,-⟩
 ·left;simpa using x1
 ·right
  obtain⟨rfl,-,-⟩:ko=some ⟨g,0,none⟩∧kl=vs.length∧kc=cap:=by simpa using x1
  exact⟨g,rfl⟩
theorem ZI (hR:RP B w0 wb f) (hm:Mx B w0) (ht:Tab B w0):PW B w0 wb f 126 (ah 45 pos n m name (.slice ko kl kc)):=by
 refine PW.of fun w aT vs h hf hcap hkl hr hg hs hc=>?_
 have hn:=hr.nk hg
 obtain rfl:kl=1:=by
  obtain⟨y,ji,-⟩:=hg.one (by decide)
  have:=congrArg List.length ji
  simp at this;omega
 have e:asm 45 n m (name:ByteArray).data.toList (vs.map (aB f w0))=[tl name,[58]]++(bB (vs.map (aB f w0))++[]):=by
  rw[List.append_nil];rfl
 rw[e] at hf⊢
 clear e
 have q:=(Sp.start h hf).box (ah 45 pos n m name (.slice ko 1 kc))
 have HL:Hid (NK B w0 f ko vs∧vs.length=1):=⟨hn,hkl⟩
 clear h hf hr hg hc hkl hcap hn
 have F:=q.f1
 go_enter Tryz.func126,Tryz.ntmps126
 go_wp2_with (first
  |(go_at_call 106;refine q.puts (ss:=[name,⟨#[58]⟩]) (hg:=by first|rfl|simp) (ho:=rfl) (hX:=rfl) (hn:=rfl) (hl:=by decide) ?_;clear q F;intro w2 q;have F:=q.f1)
  |(go_at_call 105;refine q.go (fun a1 a2=>gq hR HL.out.1 HL.out.2 a1 a2) ?_;clear q F;intro w2 q;have F:=q.f1))
 all_goals(go_end0;exact q.done (by simp<;>rfl))
theorem ZJ (hR:RP B w0 wb f) (hm:Mx B w0) (ht:Tab B w0):PW B w0 wb f 126 (ah 47 pos n m name (.slice ko kl kc)):=by
 refine PW.of fun w aT vs h hf hcap hkl hr hg hs hc=>?_
 have e:asm 47 n m (name:ByteArray).data.toList (vs.map (aB f w0))=aC (decide (0<n)) [[38]]++(aC (n==2) [[109,117,116]]++(tl name::[])):=by
  rfl
 rw[e] at hf⊢
 clear e
 have q:=(Sp.start h hf).box (ah 47 pos n m name (.slice ko kl kc))
 clear h hf hr hg hc hkl hcap
 have F:=q.f1
 go_enter Tryz.func126,Tryz.ntmps126
 go_wp2_with (first
  |(go_at_call 106;refine q.put ?_;clear q F;intro w2 q;have F:=q.f1)
  |(go_at_call 115;refine q.when (ss:=[⟨#[109,117,116]⟩]) ?_;clear q F;intro w2 q;have F:=q.f1)
  |(go_at_call 115;refine q.when (ss:=[⟨#[38]⟩]) ?_;clear q F;intro w2 q;have F:=q.f1))
 all_goals(go_end0;exact q.done (by simp<;>rfl))
theorem WR (hR:RP B w0 wb f) (hm:Mx B w0) (ht:Tab B w0) (hko:∃g,ko=some ⟨g,0,none⟩):PW B w0 wb f 126 (ah 44 pos n m name (.slice ko kl kc)):=by
 refine PW.of fun w aT vs h hf hcap hkl hr hg hs hc=>?_
 have hn:=hr.nk hg
 obtain⟨g,rfl⟩:=hko
 obtain⟨mm,rfl,hmm⟩:∃mm:Nat,m=(mm:Int)∧mm≤kl:=by
  obtain⟨-,ts,zs,ji,hml,-,-⟩:=hg.make rfl
  have:=congrArg List.length ji
  simp at this
  exact⟨ts.length,hml.symm,by omega⟩
 obtain⟨l1,rfl⟩:∃l1,kl=mm+l1:=⟨kl - mm,by omega⟩
 obtain⟨c1,rfl⟩:∃c1,kc=mm+c1:=⟨kc - mm,by omega⟩
 obtain⟨us,dS⟩:∃us,us=vs.drop mm:=⟨_,rfl⟩
 have jW:us.length=l1:=by rw[dS,List.length_drop];omega
 have em:(vs.map (aB f w0)).drop mm=us.map (aB f w0):=by rw[dS,List.map_drop]
 obtain⟨vt,tH⟩:∃vt,vt=vs.take mm:=⟨_,rfl⟩
 have hvl:vt.length=mm:=by rw[tH,List.length_take];omega
 have Ao:(vs.map (aB f w0)).take mm=vt.map (aB f w0):=by rw[tH,List.map_take]
 have hb:=hn.row.few
 rw[hkl] at hb
 have e:asm 44 n mm (name:ByteArray).data.toList (vs.map (aB f w0))=[109,97,107,101]::(jQ (tl name)::(qm (vt.map (aB f w0))++(bF [123] [125] (us.map (aB f w0))++[]))):=by
  show [109,97,107,101]::jQ (tl name)::(qm ((vs.map (aB f w0)).take (mm:Int).toNat)++bF [123] [125] ((vs.map (aB f w0)).drop (mm:Int).toNat))=_;rw[Int.toNat_natCast,em,Ao,List.append_nil]
 rw[e] at hf⊢
 clear e
 have q:=(Sp.start h hf).box (ah 44 pos n mm name (.slice (some ⟨g,0,none⟩) (mm+l1) (mm+c1)))
 have HL:Hid (NK B w0 f (some ⟨g,mm*11,none⟩) us∧us.length=l1):=⟨by have:=hn.drop mm;rw[←dS] at this;simpa using this,jW⟩
 have HZ:Hid (∀a,c1=0→NK B w0 f a us):=fun a hz=>by
  obtain rfl:us=[]:=List.eq_nil_of_length_eq_zero (by omega)
  exact NK.nil
 have HT:Hid (NK B w0 f (some ⟨g,0,none⟩) vt∧vt.length=mm):=⟨by have:=hn.take mm;rwa [←tH] at this,hvl⟩
 have Ck:(mm:Int)+(l1:Int)≤20000:=by omega
 have hcI:(l1:Int)≤(c1:Int):=by omega
 clear h hf hr hg hc hkl hcap hn dS jW em tH hvl Ao hb hmm
 have F:=q.f1
 go_enter Tryz.func126,Tryz.ntmps126
 go_wp2_with (first
  |(go_at_call 106;refine q.put ?_;clear q F;intro w2 q;have F:=q.f1)
  |(go_at_call 117;refine q.go (fun a1 a2=>jg hR ⟨#[123]⟩ ⟨#[125]⟩ (HZ.out _ (by first|rfl|assumption|omega)) HL.out.2 a1 a2) ?_;clear q F;intro w2 q;have F:=q.f1)
  |(go_at_call 117;refine q.go (fun a1 a2=>jg hR ⟨#[123]⟩ ⟨#[125]⟩ HL.out.1 HL.out.2 a1 a2) ?_;clear q F;intro w2 q;have F:=q.f1)
  |(go_at_call 121;refine q.go (fun a1 a2=>vK hR HT.out.1 HT.out.2 a1 a2) ?_;clear q F;intro w2 q;have F:=q.f1)
  |(go_at_call 107;refine q.go (fun a1 a2=>u6 hm hs a1 a2) ?_;clear q F;intro w2 q;have F:=q.f1))
 all_goals(go_end0;exact q.done (by simp<;>rfl))
theorem WS (hR:RP B w0 wb f) (hm:Mx B w0) (ht:Tab B w0) (hko:ko=none∧kl=0∧kc=0):PW B w0 wb f 126 (ah 44 pos n m name (.slice ko kl kc)):=by
 refine PW.of fun w aT vs h hf hcap hkl hr hg hs hc=>?_
 have hn:=hr.nk hg
 obtain⟨rfl,rfl,rfl⟩:=hko
 obtain rfl:m=0:=by
  obtain⟨-,ts,zs,ji,hml,-,-⟩:=hg.make rfl
  have:=congrArg List.length ji
  simp[hkl] at this
  have h0:ts.length=0:=by omega
  rw[←hml,h0];rfl
 have e:asm 44 n 0 (name:ByteArray).data.toList (vs.map (aB f w0))=[109,97,107,101]::(jQ (tl name)::(qm (vs.map (aB f w0))++(bF [123] [125] (vs.map (aB f w0))++[]))):=by
  obtain rfl:vs=[]:=List.eq_nil_of_length_eq_zero hkl
  rfl
 rw[e] at hf⊢
 clear e
 have q:=(Sp.start h hf).box (ah 44 pos n 0 name (.slice none 0 0))
 have HL:Hid ((∀a,NK B w0 f a vs)∧vs.length=0):=⟨fun a=>by obtain rfl:vs=[]:=List.eq_nil_of_length_eq_zero hkl;exact NK.nil,hkl⟩
 clear h hf hr hg hc hkl hcap hn
 have F:=q.f1
 go_enter Tryz.func126,Tryz.ntmps126
 go_wp2_with (first
  |(go_at_call 106;refine q.put ?_;clear q F;intro w2 q;have F:=q.f1)
  |(go_at_call 117;refine q.go (fun a1 a2=>jg hR ⟨#[123]⟩ ⟨#[125]⟩ (HL.out.1 _) HL.out.2 a1 a2) ?_;clear q F;intro w2 q;have F:=q.f1)
  |(go_at_call 121;refine q.go (fun a1 a2=>vK hR (HL.out.1 _) HL.out.2 a1 a2) ?_;clear q F;intro w2 q;have F:=q.f1)
  |(go_at_call 107;refine q.go (fun a1 a2=>u6 hm hs a1 a2) ?_;clear q F;intro w2 q;have F:=q.f1))
 all_goals(go_end0;exact q.done (by simp<;>rfl))
theorem ZK (hR:RP B w0 wb f) (hm:Mx B w0) (ht:Tab B w0):PW B w0 wb f 126 (ah 46 pos n m name (.slice ko kl kc)):=by
 refine PW.of fun w aT vs h hf hcap hkl hr hg hs hc=>?_
 have hn:=hr.nk hg
 obtain⟨mm,pp,rfl,RH⟩:∃mm pp:Nat,m=(mm:Int)∧kl=mm+pp+2:=by
  obtain⟨cs,ps,x,y,ji,hml,-,-,-,-⟩:=hg.Rq rfl
  have:=congrArg List.length ji
  simp at this
  exact⟨cs.length,ps.length,hml.symm,by omega⟩
 subst RH
 obtain⟨cz,rfl⟩:∃cz,kc=mm+pp+2+cz:=⟨kc - (mm+pp+2),by omega⟩
 obtain⟨k0,p0,a0,b0,s0,o0,l0,c0,g,X0,Y0,Z0,e0,y0,z0,rfl,W0,fI,iF,C0⟩:=fP hR hn hc (i:=(mm+pp)) (by omega)
 obtain⟨k1,p1,a1,b1,s1,o1,l1,c1,g1,X1,Y1,Z1,e1,y1,z1,lu,W1,oV,qy,C1⟩:=fP hR hn hc (i:=(mm+pp+1)) (by omega)
 obtain rfl:g=g1:=by simpa using lu
 obtain⟨vt,tH⟩:∃vt,vt=vs.take mm:=⟨_,rfl⟩
 have hvl:vt.length=mm:=by rw[tH,List.length_take];omega
 have Ao:(vs.map (aB f w0)).take mm=vt.map (aB f w0):=by rw[tH,List.map_take]
 obtain⟨us,dS⟩:∃us,us=(vs.take (mm+pp)).drop mm:=⟨_,rfl⟩
 have jW:us.length=pp:=by rw[dS,List.length_drop,List.length_take];omega
 have em:((vs.map (aB f w0)).take (mm+pp)).drop mm=us.map (aB f w0):=by rw[dS,List.map_drop,List.map_take]
 have hb:=hn.row.few
 rw[hkl] at hb
 have e:asm 46 n mm (name:ByteArray).data.toList (vs.map (aB f w0))=[102,110]::(pFn n++(bF [91] [93] (vt.map (aB f w0))++(bF [40] [41] (us.map (aB f w0))++(Z0++(X1++[]))))):=by
  show [102,110]::(pFn n++(bF [91] [93] ((vs.map (aB f w0)).take (mm:Int).toNat)++(bF [40] [41] (((vs.map (aB f w0)).take ((vs.map (aB f w0)).length - 2)).drop (mm:Int).toNat)++(kN (kd (vs.map (aB f w0)) ((vs.map (aB f w0)).length - 2))++(kd (vs.map (aB f w0)) ((vs.map (aB f w0)).length - 1)).t))))=_;rw[show(vs.map (aB f w0)).length - 2=mm+pp from by rw[List.length_map];omega,show(vs.map (aB f w0)).length - 1=mm+pp+1 from by rw[List.length_map];omega,Int.toNat_natCast,em,Ao,e0,e1,z0,List.append_nil]
 rw[e] at hf⊢
 clear e
 have q:=(Sp.start h hf).box (ah 46 pos n mm name (.slice (some ⟨g,0,none⟩) (mm+pp+2) (mm+pp+2+cz)))
 have RI:=@aG _ @iF
 have aW:=@aG _ @C0
 have HW1:=@aG _ @W1
 have dP:=@aG _ @C1
 have HL:Hid (NK B w0 f (some ⟨g,mm*11,none⟩) us∧us.length=pp):=⟨by have:=(hn.take (mm+pp)).drop mm;rw[←dS] at this;simpa using this,jW⟩
 have HT:Hid (NK B w0 f (some ⟨g,0,none⟩) vt∧vt.length=mm):=⟨by have:=hn.take mm;rwa [←tH] at this,hvl⟩
 have Ck:(mm:Int)+(pp:Int)+2≤20000:=by omega
 clear e0 y0 z0 W0 fI iF C0
 clear e1 y1 z1 W1 oV qy C1 lu
 clear h hf hr hg hc hkl hcap hn dS jW em tH hvl Ao hb
 have F:=q.f1
 have lg:=(q.o aW).1
 have G0:=gW (q.o aW).2
 have G1:=gW (q.o dP).2
 go_enter Tryz.func126,Tryz.ntmps126
 go_wp2_with (first
  |(go_at_call 106;refine q.put ?_;clear q F lg G0 G1;intro w2 q;have F:=q.f1;have lg:=(q.o aW).1;have G0:=gW (q.o aW).2;have G1:=gW (q.o dP).2)
  |(go_at_call 117;refine q.go (fun a1 a2=>jg hR ⟨#[40]⟩ ⟨#[41]⟩ HL.out.1 HL.out.2 a1 a2) ?_;clear q F lg G0 G1;intro w2 q;have F:=q.f1;have lg:=(q.o aW).1;have G0:=gW (q.o aW).2;have G1:=gW (q.o dP).2)
  |(go_at_call 117;refine q.go (fun a1 a2=>jg hR ⟨#[91]⟩ ⟨#[93]⟩ HT.out.1 HT.out.2 a1 a2) ?_;clear q F lg G0 G1;intro w2 q;have F:=q.f1;have lg:=(q.o aW).1;have G0:=gW (q.o aW).2;have G1:=gW (q.o dP).2)
  |(go_at_call 118;refine q.go (fun a1 a2=>C8 n a1 a2) ?_;clear q F lg G0 G1;intro w2 q;have F:=q.f1;have lg:=(q.o aW).1;have G0:=gW (q.o aW).2;have G1:=gW (q.o dP).2)
  |(go_at_call 178;refine q.go (fun a1 a2=>RI.out a1 a2) ?_;clear q F lg G0 G1;intro w2 q;have F:=q.f1;have lg:=(q.o aW).1;have G0:=gW (q.o aW).2;have G1:=gW (q.o dP).2)
  |(go_at_call 25;refine q.go (fun a1 a2=>HW1.out a1 a2) ?_;clear q F lg G0 G1;intro w2 q;have F:=q.f1;have lg:=(q.o aW).1;have G0:=gW (q.o aW).2;have G1:=gW (q.o dP).2))
 all_goals(go_end0;exact q.done (by simp<;>rfl))
theorem ZL (hR:RP B w0 wb f) (hm:Mx B w0) (ht:Tab B w0):PW B w0 wb f 126 (ah 48 pos n m name (.slice ko kl kc)):=by
 refine PW.of fun w aT vs h hf hcap hkl hr hg hs hc=>?_
 have hn:=hr.nk hg
 obtain⟨mm,rfl,RH⟩:∃mm:Nat,m=(mm:Int)∧kl=mm+2:=by
  obtain⟨cs,x,y,ji,hml,-,-,-⟩:=hg.spawn rfl
  have:=congrArg List.length ji
  simp at this
  exact⟨cs.length,hml.symm,by omega⟩
 subst RH
 obtain⟨k0,p0,a0,b0,s0,o0,l0,c0,g,X0,Y0,Z0,e0,y0,z0,rfl,W0,fI,iF,C0⟩:=fP hR hn hc (i:=mm) (by omega)
 obtain⟨k1,p1,a1,b1,s1,o1,l1,c1,g1,X1,Y1,Z1,e1,y1,z1,lu,W1,oV,qy,C1⟩:=fP hR hn hc (i:=(mm+1)) (by omega)
 obtain rfl:g=g1:=by simpa using lu
 obtain⟨vt,tH⟩:∃vt,vt=vs.take mm:=⟨_,rfl⟩
 have hvl:vt.length=mm:=by rw[tH,List.length_take];omega
 have Ao:(vs.map (aB f w0)).take mm=vt.map (aB f w0):=by rw[tH,List.map_take]
 have hb:=hn.row.few
 rw[hkl] at hb
 have e:asm 48 n mm (name:ByteArray).data.toList (vs.map (aB f w0))=[115,112,97,119,110]::(bF [91] [93] (vt.map (aB f w0))++(Z0++(X1++[]))):=by
  show [115,112,97,119,110]::(bF [91] [93] ((vs.map (aB f w0)).take (mm:Int).toNat)++(kN (kd (vs.map (aB f w0)) (mm:Int).toNat)++(kd (vs.map (aB f w0)) ((mm:Int).toNat+1)).t))=_;rw[Int.toNat_natCast,Ao,e0,e1,z0,List.append_nil]
 rw[e] at hf⊢
 clear e
 have q:=(Sp.start h hf).box (ah 48 pos n mm name (.slice (some ⟨g,0,none⟩) (mm+2) kc))
 have RI:=@aG _ @iF
 have aW:=@aG _ @C0
 have HW1:=@aG _ @W1
 have dP:=@aG _ @C1
 have HT:Hid (NK B w0 f (some ⟨g,0,none⟩) vt∧vt.length=mm):=⟨by have:=hn.take mm;rwa [←tH] at this,hvl⟩
 have Ck:(mm:Int)+2≤20000:=by omega
 have hcI:(mm:Int)+2≤(kc:Int):=by omega
 have hcI2:(mm:Int)≤(kc:Int):=by omega
 clear e0 y0 z0 W0 fI iF C0
 clear e1 y1 z1 W1 oV qy C1 lu
 clear h hf hr hg hc hkl hcap hn tH hvl Ao hb
 have F:=q.f1
 have lg:=(q.o aW).1
 have G0:=gW (q.o aW).2
 have G1:=gW (q.o dP).2
 go_enter Tryz.func126,Tryz.ntmps126
 go_wp2_with (first
  |(go_at_call 106;refine q.put ?_;clear q F lg G0 G1;intro w2 q;have F:=q.f1;have lg:=(q.o aW).1;have G0:=gW (q.o aW).2;have G1:=gW (q.o dP).2)
  |(go_at_call 117;refine q.go (fun a1 a2=>jg hR ⟨#[91]⟩ ⟨#[93]⟩ HT.out.1 HT.out.2 a1 a2) ?_;clear q F lg G0 G1;intro w2 q;have F:=q.f1;have lg:=(q.o aW).1;have G0:=gW (q.o aW).2;have G1:=gW (q.o dP).2)
  |(go_at_call 178;refine q.go (fun a1 a2=>RI.out a1 a2) ?_;clear q F lg G0 G1;intro w2 q;have F:=q.f1;have lg:=(q.o aW).1;have G0:=gW (q.o aW).2;have G1:=gW (q.o dP).2)
  |(go_at_call 25;refine q.go (fun a1 a2=>HW1.out a1 a2) ?_;clear q F lg G0 G1;intro w2 q;have F:=q.f1;have lg:=(q.o aW).1;have G0:=gW (q.o aW).2;have G1:=gW (q.o dP).2))
 all_goals(go_end0;exact q.done (by simp<;>rfl))
theorem OW {T:List (List UInt8)} (HP:Wq B w0 wb 126 (ah 44 pos n m name (.slice ko kl kc)) T):Wq B w0 wb 50 (ah 44 pos n m name (.slice ko kl kc)) T:=by
 intro w aT h hf
 have q:=((Sp.start h hf).as (rest':=T++[]) (by simp)).box (ah 44 pos n m name (.slice ko kl kc))
 have H:=@aG _ @HP
 clear h hf HP
 have F:=q.f1
 go_enter Tryz.func50,Tryz.ntmps50
 go_wp2_with (go_at_call 126;refine q.go (fun a1 a2=>H.out a1 a2) ?_;clear q F;intro w2 q;have F:=q.f1)
 go_end0
 exact q.done (by simp)
theorem ZM {T:List (List UInt8)} (HP:Wq B w0 wb 126 (ah 45 pos n m name (.slice ko kl kc)) T):Wq B w0 wb 50 (ah 45 pos n m name (.slice ko kl kc)) T:=by
 intro w aT h hf
 have q:=((Sp.start h hf).as (rest':=T++[]) (by simp)).box (ah 45 pos n m name (.slice ko kl kc))
 have H:=@aG _ @HP
 clear h hf HP
 have F:=q.f1
 go_enter Tryz.func50,Tryz.ntmps50
 go_wp2_with (go_at_call 126;refine q.go (fun a1 a2=>H.out a1 a2) ?_;clear q F;intro w2 q;have F:=q.f1)
 go_end0
 exact q.done (by simp)
theorem ZN {T:List (List UInt8)} (HP:Wq B w0 wb 126 (ah 46 pos n m name (.slice ko kl kc)) T):Wq B w0 wb 50 (ah 46 pos n m name (.slice ko kl kc)) T:=by
 intro w aT h hf
 have q:=((Sp.start h hf).as (rest':=T++[]) (by simp)).box (ah 46 pos n m name (.slice ko kl kc))
 have H:=@aG _ @HP
 clear h hf HP
 have F:=q.f1
 go_enter Tryz.func50,Tryz.ntmps50
 go_wp2_with (go_at_call 126;refine q.go (fun a1 a2=>H.out a1 a2) ?_;clear q F;intro w2 q;have F:=q.f1)
 go_end0
 exact q.done (by simp)
theorem ZO {T:List (List UInt8)} (HP:Wq B w0 wb 126 (ah 47 pos n m name (.slice ko kl kc)) T):Wq B w0 wb 50 (ah 47 pos n m name (.slice ko kl kc)) T:=by
 intro w aT h hf
 have q:=((Sp.start h hf).as (rest':=T++[]) (by simp)).box (ah 47 pos n m name (.slice ko kl kc))
 have H:=@aG _ @HP
 clear h hf HP
 have F:=q.f1
 go_enter Tryz.func50,Tryz.ntmps50
 go_wp2_with (go_at_call 126;refine q.go (fun a1 a2=>H.out a1 a2) ?_;clear q F;intro w2 q;have F:=q.f1)
 go_end0
 exact q.done (by simp)
theorem ZP {T:List (List UInt8)} (HP:Wq B w0 wb 126 (ah 48 pos n m name (.slice ko kl kc)) T):Wq B w0 wb 50 (ah 48 pos n m name (.slice ko kl kc)) T:=by
 intro w aT h hf
 have q:=((Sp.start h hf).as (rest':=T++[]) (by simp)).box (ah 48 pos n m name (.slice ko kl kc))
 have H:=@aG _ @HP
 clear h hf HP
 have F:=q.f1
 go_enter Tryz.func50,Tryz.ntmps50
 go_wp2_with (go_at_call 126;refine q.go (fun a1 a2=>H.out a1 a2) ?_;clear q F;intro w2 q;have F:=q.f1)
 go_end0
 exact q.done (by simp)
end
end Go.Proofs.YtdplogkmkgekdaaGreatDoor
