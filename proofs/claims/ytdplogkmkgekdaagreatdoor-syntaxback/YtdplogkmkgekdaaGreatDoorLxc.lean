/- The project's lexer: what stands at a text's beginning, a sign aside. -/
import Derived.Test.YtdplogkmkgekdaaGreatDoorLxa
import Derived.Test.YtdplogkmkgekdaaGreatDoorTypes
set_option linter.all false
set_option maxRecDepth 100000
set_option maxHeartbeats 4000000
namespace Go.Proofs.YtdplogkmkgekdaaGreatDoor
open Go.RowKit
structure jo (w:World):Prop where
 words:∃tt fr,w.heap[1]? =some (.cells Bf tt fr)
 range:∃ev,w.cell? ⟨5,0,none⟩=some ev∧(ev=.nilIface∨∃te pe,ev=.iface te pe)
 room:6≤w.heap.size
theorem jo.below {w w':World} {B:Nat} (h:jo w) (hb:Below B w w') (hB:6≤B):jo w':=by
 obtain⟨⟨tt,fr,h1⟩,⟨ev,h2,h3⟩,h4⟩:=h
 exact⟨⟨tt,fr,by rw[hb.block 1 (by omega)];exact h1⟩,⟨ev,by rw[hb.cell (p:=⟨5,0,none⟩) (by simp;omega)];exact h2,h3⟩,by have:=hb.size;omega⟩
theorem jo.alloc {w:World} (h:jo w) (o:Obj):jo (w.alloc o):=h.below ((Below.refl _ _).alloc (Nat.le_refl _) o) h.room
theorem TK {t:ByteArray} (h:dL (aK t 0)=true):0<t.size:=by
 rcases Nat.eq_zero_or_pos t.size with e|e
 ·rw[qO (by omega)] at h;simp[dL] at h
 ·exact e
def iy (t:ByteArray):Nat:=if dL (aK t 0) then aH bq t 0 else 0
theorem uj (t:ByteArray) (w:World) (hs:t.size≤6000):Calls Tryz.prog 57 #[.string t] w fun e w'=>e=.returned (.int .i64 (iy t))∧Below w.heap.size w w':=by
 cases hl:dL (aK t 0)
 ·have e:aH dL t 0=0:=uX hl
  have HE:Hid (iy t=0):=by show iy t=0;rw[iy,hl];simp
  have hz:((aH dL t 0:Int)==0)=true:=by rw[e];rfl
  clear hl e
  go_enter Tryz.func57,Tryz.ntmps57
  go_wp2_with (go_at_call 28;refine(Kv t _ hs).mono ?_;rintro e w1 ⟨rfl,hb1⟩)
  go_ret
  exact⟨by rw[HE.out];rfl,hb1⟩
 ·have h1:0<aH dL t 0:=kW (TK hl) hl
  have HE:Hid (iy t=aH bq t 0):=by show iy t=_;rw[iy,hl];simp
  have hz:((aH dL t 0:Int)==0)=false:=by simp;omega
  clear hl
  go_enter Tryz.func57,Tryz.ntmps57
  go_wp2_with fail
  refine(Kv t _ hs).mono ?_
  rintro e w1 ⟨rfl,hb1⟩
  go_wp2_with fail
  refine(TI t _ hs).mono ?_
  rintro e w2 ⟨rfl,hb2⟩
  go_wp2_with fail
  go_ret
  exact⟨by rw[HE.out];rfl,hb1.trans (hb2.mono hb1.size)⟩
theorem oG {w w1:World} {c0 c1 c2 c3:Value} (h:Below (w.heap.size+1) (w.alloc (.cells #[c0,c1,c2,c3] 67)) w1):
 w1.cell? ⟨w.heap.size,0,none⟩=some c0∧w1.cell? ⟨w.heap.size,1,none⟩=some c1∧w1.cell? ⟨w.heap.size,2,none⟩=some c2∧w1.cell? ⟨w.heap.size,3,none⟩=some c3∧
  w1.frozen? ⟨w.heap.size,0,none⟩=false∧w1.frozen? ⟨w.heap.size,1,none⟩=false∧w1.frozen? ⟨w.heap.size,2,none⟩=false∧w1.frozen? ⟨w.heap.size,3,none⟩=false:=by
 refine⟨?_,?_,?_,?_,?_,?_,?_,?_⟩
 ·rw[h.cell (p:=⟨w.heap.size,0,none⟩) (by simp)];simp
 ·rw[h.cell (p:=⟨w.heap.size,1,none⟩) (by simp)];simp
 ·rw[h.cell (p:=⟨w.heap.size,2,none⟩) (by simp)];simp
 ·rw[h.cell (p:=⟨w.heap.size,3,none⟩) (by simp)];simp
 ·rw[h.frozen (p:=⟨w.heap.size,0,none⟩) (by simp)];simp
 ·rw[h.frozen (p:=⟨w.heap.size,1,none⟩) (by simp)];simp
 ·rw[h.frozen (p:=⟨w.heap.size,2,none⟩) (by simp)];simp
 ·rw[h.frozen (p:=⟨w.heap.size,3,none⟩) (by simp)];simp
theorem kH {w w1:World} {o:Obj} (h:Below (w.heap.size+1) (w.alloc o) w1) (a b c d:Value):
 Below w.heap.size w ((((w1.setCell ⟨w.heap.size,0,none⟩ a).setCell ⟨w.heap.size,1,none⟩ b).setCell ⟨w.heap.size,2,none⟩ c).setCell ⟨w.heap.size,3,none⟩ d):=
 ((((((Below.refl _ _).alloc (Nat.le_refl _) _).trans (h.mono (by simp))).setCell (by simp) _).setCell (by simp) _).setCell (by simp) _).setCell (by simp) _
def bX (err kind:Nat) (t:ByteArray) (n size:Nat):Value:=.tuple #[.agg #[.int .i64 kind,.int .i64 0,.string t,.int .i64 n],.int .i64 size,.int .i64 err]
theorem Lp (d:ByteArray) (w:World) (hs:d.size≤6000) (h0:0<d.size) (hd:∀j,j<d.size→bV (aK d j)=true) (hm:dV d 0 d.size≤9223372036854775807):
 Calls Tryz.prog 56 #[.string d] w fun e w'=>e=.returned (bX 0 1 ⟨#[]⟩ (dV d 0 d.size) d.size)∧Below w.heap.size w w':=by
 have ha:=CG d h0 hd
 clear hd
 rw[if_pos hm] at ha
 have HA:=@aG _ @ha
 clear ha hm
 go_enter Tryz.func56,Tryz.ntmps56
 go_wp2_with fail
 refine(Tryz.strconv_Atoi_ok d (by omega) _ HA.out _).mono ?_
 rintro e w1 ⟨rfl,hw1⟩
 have hb1:Below (w.heap.size+1) (w.alloc (.cells #[.int .i64 0,.int .i64 0,.string ⟨#[]⟩,.int .i64 0] 67)) w1:=by
  rcases hw1 with rfl|⟨t,rfl⟩
  ·exact Below.refl _ _
  ·exact(Lib.bytesWorld_below _ _ _).mono (by simp)
 clear hw1
 obtain⟨f0,f1,f2,f3,g0,g1,g2,g3⟩:=oG hb1
 go_wp2_with fail
 exact bodyPost_ret (v:=bX 0 1 ⟨#[]⟩ (dV d 0 d.size) d.size) (by simp[results,Tryz.results56,go_sem,bX,f0,f1,f2,f3]) rfl ⟨rfl,kH hb1 _ _ _ _⟩
theorem Kw (d:ByteArray) (w:World) (hs:d.size≤6000) (h0:0<d.size) (hd:∀j,j<d.size→bV (aK d j)=true) (hm:¬dV d 0 d.size≤9223372036854775807) (hG:jo w):
 Calls Tryz.prog 56 #[.string d] w fun e w'=>e=.returned (bX 3 0 ⟨#[]⟩ 0 0)∧Below w.heap.size w w':=by
 have ha:=CG d h0 hd
 clear hd
 rw[if_neg hm] at ha
 have HA:=@aG _ @ha
 clear ha hm
 obtain⟨ev,acG,acH⟩:=(hG.alloc (.cells #[.int .i64 0,.int .i64 0,.string ⟨#[]⟩,.int .i64 0] 67)).range
 go_enter Tryz.func56,Tryz.ntmps56
 go_wp2_with fail
 refine(Tryz.strconv_Atoi_range d (by omega) HA.out ev _ acG acH).mono ?_
 rintro e w1 ⟨n,rfl,hn1,hn2,hb⟩
 have hb1:Below (w.heap.size+1) (w.alloc (.cells #[.int .i64 0,.int .i64 0,.string ⟨#[]⟩,.int .i64 0] 67)) w1:=hb.mono (by simp)
 clear acG acH hn1 hn2 hb
 obtain⟨f0,f1,f2,f3,g0,g1,g2,g3⟩:=oG hb1
 go_wp2_with fail
 exact bodyPost_ret (v:=bX 3 0 ⟨#[]⟩ 0 0) (by simp[results,Tryz.results56,go_sem,bX,f0,f1,f2,f3]) rfl ⟨rfl,kH hb1 _ _ _ _⟩
theorem acI (t:ByteArray) (w:World) (hs:t.size≤6000) (h0:0<t.size):
 Calls Tryz.prog 59 #[.string t] w fun e w'=>e=.returned (if 21<t.size then bX 3 0 ⟨#[]⟩ 0 0 else bX 0 4 t 0 t.size)∧Below w.heap.size w w':=by
 by_cases h:21<t.size
 ·rw[if_pos h]
  have h':(20:Int)<(t.size:Int) - 1:=by omega
  go_enter Tryz.func59,Tryz.ntmps59
  go_wp2_with fail
  exact bodyPost_ret (v:=bX 3 0 ⟨#[]⟩ 0 0) (by simp[results,Tryz.results59,go_sem,bX]) rfl ⟨rfl,(Below.refl _ _).alloc (Nat.le_refl _) _⟩
 ·rw[if_neg h]
  have h':¬(20:Int)<(t.size:Int) - 1:=by omega
  go_enter Tryz.func59,Tryz.ntmps59
  go_wp2_with fail
  exact bodyPost_ret (v:=bX 0 4 t 0 t.size) (by simp[results,Tryz.results59,go_sem,bX]) rfl ⟨rfl,(Below.refl _ _).alloc (Nat.le_refl _) _⟩
theorem acJ (t:ByteArray) (w:World) (hs:t.size≤6000) (hG:jo w):
 Calls Tryz.prog 58 #[.string t] w fun e w'=>e=.returned (if isWord t.toList then bX 0 3 t 0 t.size else if 20<t.size then bX 3 0 ⟨#[]⟩ 0 0 else bX 0 2 t 0 t.size)∧Below w.heap.size w w':=by
 obtain⟨tt,fr,hg⟩:=(hG.alloc (.cells #[.int .i64 0,.int .i64 0,.string ⟨#[]⟩,.int .i64 0] 67)).words
 have HG:=@aG _ @hg
 clear hg
 cases hw:isWord t.toList
 ·rw[if_neg (by simp)]
  by_cases h:20<t.size
  ·rw[if_pos h]
   have h':(20:Int)<(t.size:Int):=by omega
   go_enter Tryz.func58,Tryz.ntmps58
   go_wp2_with (go_at_call 134;refine(Om t _ tt fr HG.out).mono ?_;rintro e w' ⟨rfl,rfl⟩)
   exact bodyPost_ret (v:=bX 3 0 ⟨#[]⟩ 0 0) (by simp[results,Tryz.results58,go_sem,bX]) rfl ⟨rfl,(Below.refl _ _).alloc (Nat.le_refl _) _⟩
  ·rw[if_neg h]
   have h':¬(20:Int)<(t.size:Int):=by omega
   go_enter Tryz.func58,Tryz.ntmps58
   go_wp2_with (go_at_call 134;refine(Om t _ tt fr HG.out).mono ?_;rintro e w' ⟨rfl,rfl⟩)
   exact bodyPost_ret (v:=bX 0 2 t 0 t.size) (by simp[results,Tryz.results58,go_sem,bX]) rfl ⟨rfl,(Below.refl _ _).alloc (Nat.le_refl _) _⟩
 ·rw[if_pos rfl]
  go_enter Tryz.func58,Tryz.ntmps58
  go_wp2_with (go_at_call 134;refine(Om t _ tt fr HG.out).mono ?_;rintro e w' ⟨rfl,rfl⟩)
  exact bodyPost_ret (v:=bX 0 3 t 0 t.size) (by simp[results,Tryz.results58,go_sem,bX]) rfl ⟨rfl,(Below.refl _ _).alloc (Nat.le_refl _) _⟩
def KD:List ByteArray:=[⟨#[58,58]⟩,⟨#[45,62]⟩,⟨#[61,62]⟩,⟨#[61,61]⟩,⟨#[33,61]⟩,⟨#[60,61]⟩,⟨#[62,61]⟩,⟨#[38,38]⟩,⟨#[124,124]⟩,⟨#[40]⟩,⟨#[41]⟩,⟨#[123]⟩,⟨#[125]⟩,⟨#[91]⟩,⟨#[93]⟩,⟨#[60]⟩,⟨#[62]⟩,⟨#[44]⟩,⟨#[59]⟩,⟨#[58]⟩,⟨#[46]⟩,⟨#[61]⟩,⟨#[43]⟩,⟨#[45]⟩,⟨#[42]⟩,⟨#[47]⟩,⟨#[37]⟩,⟨#[38]⟩,⟨#[33]⟩,⟨#[95]⟩]
def vD:Array Value:=(KD.map Value.string).toArray
def jM (k:Nat):ByteArray:=KD.getD k ByteArray.empty
theorem Lr (w:World):(k:Nat)→k<30→(Instr.index 70 (.agg vD) (.int .i64 k)).run Tryz.prog w=.ok (.string (jM k)) w
 |0,_=>by kernel_rfl
 |1,_=>by kernel_rfl
 |2,_=>by kernel_rfl
 |3,_=>by kernel_rfl
 |4,_=>by kernel_rfl
 |5,_=>by kernel_rfl
 |6,_=>by kernel_rfl
 |7,_=>by kernel_rfl
 |8,_=>by kernel_rfl
 |9,_=>by kernel_rfl
 |10,_=>by kernel_rfl
 |11,_=>by kernel_rfl
 |12,_=>by kernel_rfl
 |13,_=>by kernel_rfl
 |14,_=>by kernel_rfl
 |15,_=>by kernel_rfl
 |16,_=>by kernel_rfl
 |17,_=>by kernel_rfl
 |18,_=>by kernel_rfl
 |19,_=>by kernel_rfl
 |20,_=>by kernel_rfl
 |21,_=>by kernel_rfl
 |22,_=>by kernel_rfl
 |23,_=>by kernel_rfl
 |24,_=>by kernel_rfl
 |25,_=>by kernel_rfl
 |26,_=>by kernel_rfl
 |27,_=>by kernel_rfl
 |28,_=>by kernel_rfl
 |29,_=>by kernel_rfl
 |k+30,h=>absurd h (by omega)
def dH (s:ByteArray) (i k:Nat):Bool:=Lib.hasPrefix (s.extract i s.size).data.toList (jM k).data.toList
theorem Bl (s:ByteArray) (i:Nat):(s.extract i s.size).data.toList=s.data.toList.drop i:=by
 rw[Lib.extract_data,List.take_of_length_le (by simp)]
theorem iW (s:ByteArray) (i:Nat) (hi:i<s.size) (a:UInt8):Lib.hasPrefix (s.extract i s.size).data.toList [a]=(aK s i==a.toNat):=by
 rw[Bl,List.drop_eq_getElem_cons (by simpa using hi),mO hi,Bool.eq_iff_iff]
 have e:(s.data.toList)[i]'(by simpa using hi)=s[i]'hi:=rfl
 rw[e]
 simp only[Lib.hasPrefix,List.isPrefixOf,Bool.and_true,beq_iff_eq,UInt8.toNat_inj]
 exact eq_comm
theorem qZ (s:ByteArray) (i:Nat) (hi:i<s.size) (a b:UInt8) (hb:b≠0):Lib.hasPrefix (s.extract i s.size).data.toList [a,b]=((aK s i,aK s (i+1))==(a.toNat,b.toNat)):=by
 have hb':b.toNat≠0:=fun h=>hb (UInt8.toNat_inj.1 h)
 have e:(s.data.toList)[i]'(by simpa using hi)=s[i]'hi:=rfl
 rw[Bl,List.drop_eq_getElem_cons (by simpa using hi),mO hi,e]
 by_cases h:i+1<s.size
 ·have e2:(s.data.toList)[i+1]'(by simpa using h)=s[i+1]'h:=rfl
  rw[List.drop_eq_getElem_cons (by simpa using h),mO h,e2,Bool.eq_iff_iff]
  simp only[Lib.hasPrefix,List.isPrefixOf,Bool.and_true,Bool.and_eq_true,beq_iff_eq,Prod.mk.injEq,UInt8.toNat_inj]
  constructor<;>(rintro⟨h1,h2⟩;exact⟨h1.symm,h2.symm⟩)
 ·rw[List.drop_eq_nil_of_le (by simp;omega),qO h,Bool.eq_iff_iff]
  simp[Lib.hasPrefix]
  intro _;omega
theorem acK (s:ByteArray) (i:Nat) (hi:i<s.size):dH s i 0=((aK s i,aK s (i+1))==(58,58)):=qZ s i hi 58 58 (by decide)
theorem acL (s:ByteArray) (i:Nat) (hi:i<s.size):dH s i 1=((aK s i,aK s (i+1))==(45,62)):=qZ s i hi 45 62 (by decide)
theorem hit2 (s:ByteArray) (i:Nat) (hi:i<s.size):dH s i 2=((aK s i,aK s (i+1))==(61,62)):=qZ s i hi 61 62 (by decide)
theorem hit3 (s:ByteArray) (i:Nat) (hi:i<s.size):dH s i 3=((aK s i,aK s (i+1))==(61,61)):=qZ s i hi 61 61 (by decide)
theorem acM (s:ByteArray) (i:Nat) (hi:i<s.size):dH s i 4=((aK s i,aK s (i+1))==(33,61)):=qZ s i hi 33 61 (by decide)
theorem acN (s:ByteArray) (i:Nat) (hi:i<s.size):dH s i 5=((aK s i,aK s (i+1))==(60,61)):=qZ s i hi 60 61 (by decide)
theorem acO (s:ByteArray) (i:Nat) (hi:i<s.size):dH s i 6=((aK s i,aK s (i+1))==(62,61)):=qZ s i hi 62 61 (by decide)
theorem acP (s:ByteArray) (i:Nat) (hi:i<s.size):dH s i 7=((aK s i,aK s (i+1))==(38,38)):=qZ s i hi 38 38 (by decide)
theorem acQ (s:ByteArray) (i:Nat) (hi:i<s.size):dH s i 8=((aK s i,aK s (i+1))==(124,124)):=qZ s i hi 124 124 (by decide)
theorem acR (s:ByteArray) (i:Nat) (hi:i<s.size):dH s i 9=(aK s i==40):=iW s i hi 40
theorem VG (s:ByteArray) (i:Nat) (hi:i<s.size):dH s i 10=(aK s i==41):=iW s i hi 41
theorem VH (s:ByteArray) (i:Nat) (hi:i<s.size):dH s i 11=(aK s i==123):=iW s i hi 123
theorem VI (s:ByteArray) (i:Nat) (hi:i<s.size):dH s i 12=(aK s i==125):=iW s i hi 125
theorem VJ (s:ByteArray) (i:Nat) (hi:i<s.size):dH s i 13=(aK s i==91):=iW s i hi 91
theorem VK (s:ByteArray) (i:Nat) (hi:i<s.size):dH s i 14=(aK s i==93):=iW s i hi 93
theorem VL (s:ByteArray) (i:Nat) (hi:i<s.size):dH s i 15=(aK s i==60):=iW s i hi 60
theorem VN (s:ByteArray) (i:Nat) (hi:i<s.size):dH s i 16=(aK s i==62):=iW s i hi 62
theorem VO (s:ByteArray) (i:Nat) (hi:i<s.size):dH s i 17=(aK s i==44):=iW s i hi 44
theorem VP (s:ByteArray) (i:Nat) (hi:i<s.size):dH s i 18=(aK s i==59):=iW s i hi 59
theorem VQ (s:ByteArray) (i:Nat) (hi:i<s.size):dH s i 19=(aK s i==58):=iW s i hi 58
theorem VR (s:ByteArray) (i:Nat) (hi:i<s.size):dH s i 20=(aK s i==46):=iW s i hi 46
theorem VT (s:ByteArray) (i:Nat) (hi:i<s.size):dH s i 21=(aK s i==61):=iW s i hi 61
theorem VU (s:ByteArray) (i:Nat) (hi:i<s.size):dH s i 22=(aK s i==43):=iW s i hi 43
theorem VW (s:ByteArray) (i:Nat) (hi:i<s.size):dH s i 23=(aK s i==45):=iW s i hi 45
theorem VX (s:ByteArray) (i:Nat) (hi:i<s.size):dH s i 24=(aK s i==42):=iW s i hi 42
theorem VY (s:ByteArray) (i:Nat) (hi:i<s.size):dH s i 25=(aK s i==47):=iW s i hi 47
theorem VZ (s:ByteArray) (i:Nat) (hi:i<s.size):dH s i 26=(aK s i==37):=iW s i hi 37
theorem V9 (s:ByteArray) (i:Nat) (hi:i<s.size):dH s i 27=(aK s i==38):=iW s i hi 38
theorem Wh (s:ByteArray) (i:Nat) (hi:i<s.size):dH s i 28=(aK s i==33):=iW s i hi 33
theorem Wi (s:ByteArray) (i:Nat) (hi:i<s.size):dH s i 29=(aK s i==95):=iW s i hi 95
theorem jA (s:ByteArray) (i:Nat) (hi:i<s.size) (h:∀j,j<9→dH s i j=false):uw.contains (aK s i,aK s (i+1))=false:=by
 have h0:=h 0 (by omega);rw[acK s i hi] at h0
 have h1:=h 1 (by omega);rw[acL s i hi] at h1
 have h2:=h 2 (by omega);rw[hit2 s i hi] at h2
 have h3:=h 3 (by omega);rw[hit3 s i hi] at h3
 have h4:=h 4 (by omega);rw[acM s i hi] at h4
 have h5:=h 5 (by omega);rw[acN s i hi] at h5
 have h6:=h 6 (by omega);rw[acO s i hi] at h6
 have h7:=h 7 (by omega);rw[acP s i hi] at h7
 have h8:=h 8 (by omega);rw[acQ s i hi] at h8
 simp only[uw,List.contains,List.elem,h0,h1,h2,h3,h4,h5,h6,h7,h8]
theorem acS (s:ByteArray) (i:Nat) (hi:i<s.size) (h:∀j,j<30→dH s i j=false):wo.contains (aK s i)=false:=by
 have h9:=h 9 (by omega);rw[acR s i hi] at h9
 have h10:=h 10 (by omega);rw[VG s i hi] at h10
 have h11:=h 11 (by omega);rw[VH s i hi] at h11
 have h12:=h 12 (by omega);rw[VI s i hi] at h12
 have M9:=h 13 (by omega);rw[VJ s i hi] at M9
 have h14:=h 14 (by omega);rw[VK s i hi] at h14
 have ER:=h 15 (by omega);rw[VL s i hi] at ER
 have h16:=h 16 (by omega);rw[VN s i hi] at h16
 have h17:=h 17 (by omega);rw[VO s i hi] at h17
 have h18:=h 18 (by omega);rw[VP s i hi] at h18
 have h19:=h 19 (by omega);rw[VQ s i hi] at h19
 have h20:=h 20 (by omega);rw[VR s i hi] at h20
 have h21:=h 21 (by omega);rw[VT s i hi] at h21
 have h22:=h 22 (by omega);rw[VU s i hi] at h22
 have h23:=h 23 (by omega);rw[VW s i hi] at h23
 have h24:=h 24 (by omega);rw[VX s i hi] at h24
 have h25:=h 25 (by omega);rw[VY s i hi] at h25
 have h26:=h 26 (by omega);rw[VZ s i hi] at h26
 have h27:=h 27 (by omega);rw[V9 s i hi] at h27
 have h28:=h 28 (by omega);rw[Wh s i hi] at h28
 have h29:=h 29 (by omega);rw[Wi s i hi] at h29
 simp only[wo,List.contains,List.elem,h9,h10,h11,h12,M9,h14,ER,h16,h17,h18,h19,h20,h21,h22,h23,h24,h25,h26,h27,h28,h29]
theorem Ra (s:ByteArray) (i:Nat) (hi:i<s.size) (h:∀j,j<30→dH s i j=false):bR s i=0:=by
 rw[bR,if_neg (by rw[jA s i hi (fun j hj=>h j (by omega))];simp),if_neg (by rw[acS s i hi h];simp)]
theorem Rb (s:ByteArray) (i:Nat) (hi:i<s.size):(k:Nat)→k<30→dH s i k=true→(∀j,j<k→dH s i j=false)→bR s i=(jM k).size
 |0,_,h,_=>by
  rw[acK s i hi] at h
  have e:(aK s i,aK s (i+1))=(58,58):=by simpa using h
  rw[bR,e];rfl
 |1,_,h,_=>by
  rw[acL s i hi] at h
  have e:(aK s i,aK s (i+1))=(45,62):=by simpa using h
  rw[bR,e];rfl
 |2,_,h,_=>by
  rw[hit2 s i hi] at h
  have e:(aK s i,aK s (i+1))=(61,62):=by simpa using h
  rw[bR,e];rfl
 |3,_,h,_=>by
  rw[hit3 s i hi] at h
  have e:(aK s i,aK s (i+1))=(61,61):=by simpa using h
  rw[bR,e];rfl
 |4,_,h,_=>by
  rw[acM s i hi] at h
  have e:(aK s i,aK s (i+1))=(33,61):=by simpa using h
  rw[bR,e];rfl
 |5,_,h,_=>by
  rw[acN s i hi] at h
  have e:(aK s i,aK s (i+1))=(60,61):=by simpa using h
  rw[bR,e];rfl
 |6,_,h,_=>by
  rw[acO s i hi] at h
  have e:(aK s i,aK s (i+1))=(62,61):=by simpa using h
  rw[bR,e];rfl
 |7,_,h,_=>by
  rw[acP s i hi] at h
  have e:(aK s i,aK s (i+1))=(38,38):=by simpa using h
  rw[bR,e];rfl
 |8,_,h,_=>by
  rw[acQ s i hi] at h
  have e:(aK s i,aK s (i+1))=(124,124):=by simpa using h
  rw[bR,e];rfl
 |9,_,h,hn=>by
  rw[acR s i hi] at h
  have e:aK s i=40:=by simpa using h
  rw[bR,if_neg (by rw[jA s i hi (fun j hj=>hn j (by omega))];simp),e];rfl
 |10,_,h,hn=>by
  rw[VG s i hi] at h
  have e:aK s i=41:=by simpa using h
  rw[bR,if_neg (by rw[jA s i hi (fun j hj=>hn j (by omega))];simp),e];rfl
 |11,_,h,hn=>by
  rw[VH s i hi] at h
  have e:aK s i=123:=by simpa using h
  rw[bR,if_neg (by rw[jA s i hi (fun j hj=>hn j (by omega))];simp),e];rfl
 |12,_,h,hn=>by
  rw[VI s i hi] at h
  have e:aK s i=125:=by simpa using h
  rw[bR,if_neg (by rw[jA s i hi (fun j hj=>hn j (by omega))];simp),e];rfl
 |13,_,h,hn=>by
  rw[VJ s i hi] at h
  have e:aK s i=91:=by simpa using h
  rw[bR,if_neg (by rw[jA s i hi (fun j hj=>hn j (by omega))];simp),e];rfl
 |14,_,h,hn=>by
  rw[VK s i hi] at h
  have e:aK s i=93:=by simpa using h
  rw[bR,if_neg (by rw[jA s i hi (fun j hj=>hn j (by omega))];simp),e];rfl
 |15,_,h,hn=>by
  rw[VL s i hi] at h
  have e:aK s i=60:=by simpa using h
  rw[bR,if_neg (by rw[jA s i hi (fun j hj=>hn j (by omega))];simp),e];rfl
 |16,_,h,hn=>by
  rw[VN s i hi] at h
  have e:aK s i=62:=by simpa using h
  rw[bR,if_neg (by rw[jA s i hi (fun j hj=>hn j (by omega))];simp),e];rfl
 |17,_,h,hn=>by
  rw[VO s i hi] at h
  have e:aK s i=44:=by simpa using h
  rw[bR,if_neg (by rw[jA s i hi (fun j hj=>hn j (by omega))];simp),e];rfl
 |18,_,h,hn=>by
  rw[VP s i hi] at h
  have e:aK s i=59:=by simpa using h
  rw[bR,if_neg (by rw[jA s i hi (fun j hj=>hn j (by omega))];simp),e];rfl
 |19,_,h,hn=>by
  rw[VQ s i hi] at h
  have e:aK s i=58:=by simpa using h
  rw[bR,if_neg (by rw[jA s i hi (fun j hj=>hn j (by omega))];simp),e];rfl
 |20,_,h,hn=>by
  rw[VR s i hi] at h
  have e:aK s i=46:=by simpa using h
  rw[bR,if_neg (by rw[jA s i hi (fun j hj=>hn j (by omega))];simp),e];rfl
 |21,_,h,hn=>by
  rw[VT s i hi] at h
  have e:aK s i=61:=by simpa using h
  rw[bR,if_neg (by rw[jA s i hi (fun j hj=>hn j (by omega))];simp),e];rfl
 |22,_,h,hn=>by
  rw[VU s i hi] at h
  have e:aK s i=43:=by simpa using h
  rw[bR,if_neg (by rw[jA s i hi (fun j hj=>hn j (by omega))];simp),e];rfl
 |23,_,h,hn=>by
  rw[VW s i hi] at h
  have e:aK s i=45:=by simpa using h
  rw[bR,if_neg (by rw[jA s i hi (fun j hj=>hn j (by omega))];simp),e];rfl
 |24,_,h,hn=>by
  rw[VX s i hi] at h
  have e:aK s i=42:=by simpa using h
  rw[bR,if_neg (by rw[jA s i hi (fun j hj=>hn j (by omega))];simp),e];rfl
 |25,_,h,hn=>by
  rw[VY s i hi] at h
  have e:aK s i=47:=by simpa using h
  rw[bR,if_neg (by rw[jA s i hi (fun j hj=>hn j (by omega))];simp),e];rfl
 |26,_,h,hn=>by
  rw[VZ s i hi] at h
  have e:aK s i=37:=by simpa using h
  rw[bR,if_neg (by rw[jA s i hi (fun j hj=>hn j (by omega))];simp),e];rfl
 |27,_,h,hn=>by
  rw[V9 s i hi] at h
  have e:aK s i=38:=by simpa using h
  rw[bR,if_neg (by rw[jA s i hi (fun j hj=>hn j (by omega))];simp),e];rfl
 |28,_,h,hn=>by
  rw[Wh s i hi] at h
  have e:aK s i=33:=by simpa using h
  rw[bR,if_neg (by rw[jA s i hi (fun j hj=>hn j (by omega))];simp),e];rfl
 |29,_,h,hn=>by
  rw[Wi s i hi] at h
  have e:aK s i=95:=by simpa using h
  rw[bR,if_neg (by rw[jA s i hi (fun j hj=>hn j (by omega))];simp),e];rfl
 |k+30,hk,_,_=>absurd hk (by omega)
theorem CJ:∀(p l:List UInt8),Lib.hasPrefix l p=true→l.take p.length=p
 |[],l,_=>by simp
 |a::p,[],h=>by simp[Lib.hasPrefix] at h
 |a::p,b::l,h=>by
  simp[Lib.hasPrefix] at h
  have:=CJ p l (by simpa[Lib.hasPrefix] using h.2)
  simp[this,h.1]
theorem Rc (s:ByteArray) (i k:Nat) (h:dH s i k=true):s.extract i (i+(jM k).size)=jM k:=by
 have h1:=CJ _ _ h
 rw[Bl] at h1
 rw[Lib.extract_eq,show i+(jM k).size - i=(jM k).data.toList.length by rw[Array.length_toList];show i+(jM k).data.size - i=_;omega,h1]
theorem KF:(k:Nat)→k<30→0<(jM k).size∧(jM k).size≤2
 |0,_=>by decide+kernel
 |1,_=>by decide+kernel
 |2,_=>by decide+kernel
 |3,_=>by decide+kernel
 |4,_=>by decide+kernel
 |5,_=>by decide+kernel
 |6,_=>by decide+kernel
 |7,_=>by decide+kernel
 |8,_=>by decide+kernel
 |9,_=>by decide+kernel
 |10,_=>by decide+kernel
 |11,_=>by decide+kernel
 |12,_=>by decide+kernel
 |13,_=>by decide+kernel
 |14,_=>by decide+kernel
 |15,_=>by decide+kernel
 |16,_=>by decide+kernel
 |17,_=>by decide+kernel
 |18,_=>by decide+kernel
 |19,_=>by decide+kernel
 |20,_=>by decide+kernel
 |21,_=>by decide+kernel
 |22,_=>by decide+kernel
 |23,_=>by decide+kernel
 |24,_=>by decide+kernel
 |25,_=>by decide+kernel
 |26,_=>by decide+kernel
 |27,_=>by decide+kernel
 |28,_=>by decide+kernel
 |29,_=>by decide+kernel
 |k+30,h=>absurd h (by omega)
theorem uV (w:World):Below (w.heap.size+1) (w.alloc (.cells #[.int .i64 0,.int .i64 0,.string ⟨#[]⟩,.int .i64 0] 67)) (w.alloc (.cells #[.int .i64 0,.int .i64 0,.string ⟨#[]⟩,.int .i64 0] 67)):=Below.refl _ _
theorem jr {w w1 w2:World} {o:Obj} (h:Below (w.heap.size+1) (w.alloc o) w1) (h2:Below w1.heap.size w1 w2):Below (w.heap.size+1) (w.alloc o) w2:=
 h.trans (h2.mono (by have:=h.size;simpa using this))
theorem zU {w w1:World} {o:Obj} (hG:jo w) (h:Below (w.heap.size+1) (w.alloc o) w1):jo w1:=(hG.alloc o).below h (by have:=hG.room;omega)
theorem Hl (t:ByteArray) (w:World) (hs:t.size≤6000) (h0:0<t.size) (hd:bV (aK t 0)=true) (hG:jo w):
 Calls Tryz.prog 30 #[.string t] w fun e w'=>e=.returned (bX (plain t).err (plain t).kind (gD t) (plain t).n (plain t).stop)∧Below w.heap.size w w':=by
 have hk:=kW h0 hd
 have hk2:=iI bV t 0 (Nat.zero_le _)
 have hall:=lV bV t 0
 have HP:Hid (plain t=one t 0):=by show plain t=one t 0;rw[plain,if_pos (by simp[nX,hd])]
 have HO:Hid (one t 0=if dV t 0 (aH bV t 0 - 0)≤9223372036854775807 then⟨0,1,aH bV t 0,dV t 0 (aH bV t 0 - 0)⟩ else⟨3,0,0,0⟩):=sD hd
 have hsz:(t.extract 0 (aH bV t 0)).size=aH bV t 0:=by rw[ext_size t 0 _ hk2];omega
 have E8:dV (t.extract 0 (aH bV t 0)) 0 (aH bV t 0)=dV t 0 (aH bV t 0):=EO t 0 _ hk2 _ (by omega)
 have HD:Hid (∀j,j<(t.extract 0 (aH bV t 0)).size→bV (aK (t.extract 0 (aH bV t 0)) j)=true):=by
  intro j hj
  rw[hsz] at hj
  rw[yH t 0 _ j hk2 (by omega),Nat.zero_add]
  exact hall j (Nat.zero_le _) hj
 have HS:=@aG _ @hsz
 have HN:=@aG _ @E8
 clear hall hd hsz E8
 go_enter Tryz.func30,Tryz.ntmps30
 go_wp2_with fail
 refine(zT t _ hs).mono ?_
 rintro e w1 ⟨rfl,hb⟩
 have hb1:=jr (uV w) hb
 have hG1:=zU hG hb1
 clear hb
 go_wp2_with fail
 by_cases hm:dV t 0 (aH bV t 0)≤9223372036854775807
 ·refine(Lp _ _ (by rw[HS.out];omega) (by rw[HS.out];omega) HD.out (by rw[HS.out,HN.out];exact hm)).mono ?_
  rintro e w2 ⟨rfl,hb⟩
  have hb2:=jr hb1 hb
  clear hb hb1 hG1
  rw[HS.out,HN.out]
  have e1:plain t=⟨0,1,aH bV t 0,dV t 0 (aH bV t 0)⟩:=by rw[HP.out,HO.out,Nat.sub_zero,if_pos hm]
  have HE:=@aG _ @e1
  clear e1 hm
  obtain⟨f0,f1,f2,f3,g0,g1,g2,g3⟩:=oG hb2
  unfold bX
  go_wp2_with fail
  refine bodyPost_ret (v:=bX 0 1 ⟨#[]⟩ (dV t 0 (aH bV t 0)) (aH bV t 0)) (by simp[results,Tryz.results30,go_sem,bX,f0,f1,f2,f3]) rfl ⟨?_,kH hb2 _ _ _ _⟩
  rw[gD,HE.out];rfl
 ·refine(Kw _ _ (by rw[HS.out];omega) (by rw[HS.out];omega) HD.out (by rw[HS.out,HN.out];exact hm) hG1).mono ?_
  rintro e w2 ⟨rfl,hb⟩
  have hb2:=jr hb1 hb
  clear hb hb1 hG1
  have e1:plain t=⟨3,0,0,0⟩:=by rw[HP.out,HO.out,Nat.sub_zero,if_neg hm]
  have HE:=@aG _ @e1
  clear e1 hm
  obtain⟨f0,f1,f2,f3,g0,g1,g2,g3⟩:=oG hb2
  unfold bX
  go_wp2_with fail
  refine bodyPost_ret (v:=bX 3 0 ⟨#[]⟩ 0 0) (by simp[results,Tryz.results30,go_sem,bX,f0,f1,f2,f3]) rfl ⟨?_,kH hb2 _ _ _ _⟩
  rw[gD,HE.out];rfl
theorem FN (t:ByteArray) (w:World) (hs:t.size≤6000) (h0:0<t.size) (hd:dL (aK t 0)=true) (hG:jo w):
 Calls Tryz.prog 30 #[.string t] w fun e w'=>e=.returned (bX (plain t).err (plain t).kind (gD t) (plain t).n (plain t).stop)∧Below w.heap.size w w':=by
 have hk:0<aH bq t 0:=kW h0 (by simp[bq,hd])
 have hk2:=iI bq t 0 (Nat.zero_le _)
 have HP:Hid (plain t=one t 0):=by show plain t=one t 0;rw[plain,if_pos (by simp[nX,hd])]
 have HO:Hid (one t 0=if isWord (t.extract 0 (aH bq t 0)).toList then⟨0,3,aH bq t 0,0⟩ else if 20<aH bq t 0 - 0 then⟨3,0,0,0⟩ else⟨0,2,aH bq t 0,0⟩):=pG hd
 have HS:Hid ((t.extract 0 (aH bq t 0)).size=aH bq t 0):=by show(t.extract 0 (aH bq t 0)).size=_;rw[ext_size t 0 _ hk2];omega
 have HZ:Hid (aH bV t 0=0):=uX (BZ hd)
 have HL:Hid (iy t=aH bq t 0):=by show iy t=_;rw[iy,hd];simp
 clear hd
 go_enter Tryz.func30,Tryz.ntmps30
 go_wp2_with fail
 refine(zT t _ hs).mono ?_
 rintro e w1 ⟨rfl,hb⟩
 have hb1:=jr (uV w) hb
 clear hb
 rw[HZ.out]
 go_wp2_with fail
 refine(uj t _ hs).mono ?_
 rintro e w2 ⟨rfl,hb⟩
 have hb2:=jr hb1 hb
 have hG2:=zU hG hb2
 clear hb hb1
 rw[HL.out]
 go_wp2_with fail
 refine(acJ _ _ (by rw[HS.out];omega) hG2).mono ?_
 rintro e w3 ⟨rfl,hb⟩
 have hb3:=jr hb2 hb
 clear hb hb2 hG2
 rw[HS.out]
 cases hw:isWord (t.extract 0 (aH bq t 0)).toList
 ·rw[if_neg (by simp)]
  by_cases h20:20<aH bq t 0
  ·rw[if_pos h20]
   have e1:plain t=⟨3,0,0,0⟩:=by rw[HP.out,HO.out,Nat.sub_zero,if_neg (by simp[hw]),if_pos h20]
   have HE:=@aG _ @e1
   clear e1 h20 hw
   obtain⟨f0,f1,f2,f3,g0,g1,g2,g3⟩:=oG hb3
   unfold bX
   go_wp2_with fail
   refine bodyPost_ret (v:=bX 3 0 ⟨#[]⟩ 0 0) (by simp[results,Tryz.results30,go_sem,bX,f0,f1,f2,f3]) rfl ⟨?_,kH hb3 _ _ _ _⟩
   rw[gD,HE.out];rfl
  ·rw[if_neg h20]
   have e1:plain t=⟨0,2,aH bq t 0,0⟩:=by rw[HP.out,HO.out,Nat.sub_zero,if_neg (by simp[hw]),if_neg h20]
   have HE:=@aG _ @e1
   clear e1 h20 hw
   obtain⟨f0,f1,f2,f3,g0,g1,g2,g3⟩:=oG hb3
   unfold bX
   go_wp2_with fail
   refine bodyPost_ret (v:=bX 0 2 (t.extract 0 (aH bq t 0)) 0 (aH bq t 0)) (by simp[results,Tryz.results30,go_sem,bX,f0,f1,f2,f3]) rfl ⟨?_,kH hb3 _ _ _ _⟩
   rw[gD,HE.out];rfl
 ·rw[if_pos rfl]
  have e1:plain t=⟨0,3,aH bq t 0,0⟩:=by rw[HP.out,HO.out,if_pos hw]
  have HE:=@aG _ @e1
  clear e1 hw
  obtain⟨f0,f1,f2,f3,g0,g1,g2,g3⟩:=oG hb3
  unfold bX
  go_wp2_with fail
  refine bodyPost_ret (v:=bX 0 3 (t.extract 0 (aH bq t 0)) 0 (aH bq t 0)) (by simp[results,Tryz.results30,go_sem,bX,f0,f1,f2,f3]) rfl ⟨?_,kH hb3 _ _ _ _⟩
  rw[gD,HE.out];rfl
theorem Ls (t:ByteArray) (h0:0<t.size) (hd:dL (aK t 1)=true):1+iy (t.extract 1 t.size)=aH bq t 1:=by
 rw[iy,kY,if_pos hd]
 have:=uh bq t 1 0 (by omega)
 simpa using this
theorem Oq (t:ByteArray) (hd:dL (aK t 1)=false):iy (t.extract 1 t.size)=0:=by
 rw[iy,kY,if_neg (by simp[hd])]
theorem KG (t:ByteArray) (w:World) (hs:t.size≤6000) (h0:0<t.size) (hb0:aK t 0=39) (hd:dL (aK t 1)=true):
 Calls Tryz.prog 30 #[.string t] w fun e w'=>e=.returned (bX (plain t).err (plain t).kind (gD t) (plain t).n (plain t).stop)∧Below w.heap.size w w':=by
 have hi1:1<t.size:=by
  rcases Nat.lt_or_ge 1 t.size with h|h
  ·exact h
  ·rw[qO (by omega)] at hd;simp[dL] at hd
 have hk:1<aH bq t 1:=kW hi1 (by simp[bq,hd])
 have hk2:=iI bq t 1 (by omega)
 have HP:Hid (plain t=one t 0):=by show plain t=one t 0;rw[plain,if_pos (by simp[nX,hb0,hd])]
 have HO:Hid (one t 0=if 21<aH bq t (0+1) - 0 then⟨3,0,0,0⟩ else⟨0,4,aH bq t (0+1),0⟩):=uF hb0 (by rw[Nat.zero_add];exact hd)
 have HS:Hid ((t.extract 0 (aH bq t 1)).size=aH bq t 1):=by show(t.extract 0 (aH bq t 1)).size=_;rw[ext_size t 0 _ hk2];omega
 have HZ:Hid (aH bV t 0=0):=uX (by rw[hb0];rfl)
 have HL:Hid (iy t=0):=by show iy t=0;rw[iy,hb0];rfl
 have HL1:Hid (1+iy (t.extract 1 t.size)=aH bq t 1):=Ls t h0 hd
 have hx:(((t[0]'h0).toNat:Int)==39)=true:=by rw[←mO h0,hb0];rfl
 have hs1:(t.extract 1 t.size).size≤6000:=by rw[ext_size t 1 t.size (Nat.le_refl _)];omega
 have Qr:=@aG _ @hs1
 clear hd hb0 hs1
 go_enter Tryz.func30,Tryz.ntmps30
 go_wp2_with fail
 refine(zT t _ hs).mono ?_
 rintro e w1 ⟨rfl,hb⟩
 have hb1:=jr (uV w) hb
 clear hb
 rw[HZ.out]
 go_wp2_with fail
 refine(uj t _ hs).mono ?_
 rintro e w2 ⟨rfl,hb⟩
 have hb2:=jr hb1 hb
 clear hb hb1
 rw[HL.out]
 go_wp2_with fail
 refine(uj _ _ Qr.out).mono ?_
 rintro e w3 ⟨rfl,hb⟩
 have hb3:=jr hb2 hb
 clear hb hb2
 obtain⟨m,hm⟩:∃m,m=iy (t.extract 1 t.size):=⟨_,rfl⟩
 rw[←hm]
 have HM:Hid (1+m=aH bq t 1):=by show 1+m=_;rw[hm];exact HL1.out
 have hm1:0<m:=by have:=HM.out;omega
 have hm2:1+m≤t.size:=by have:=HM.out;omega
 clear hm
 go_wp2_with fail
 rw[HM.out]
 refine(acI _ _ (by rw[HS.out];omega) (by rw[HS.out];omega)).mono ?_
 rintro e w4 ⟨rfl,hb⟩
 have hb4:=jr hb3 hb
 clear hb hb3
 rw[HS.out]
 by_cases h21:21<aH bq t 1
 ·rw[if_pos h21]
  have e1:plain t=⟨3,0,0,0⟩:=by rw[HP.out,HO.out,Nat.sub_zero,Nat.zero_add,if_pos h21]
  have HE:=@aG _ @e1
  clear e1 h21
  obtain⟨f0,f1,f2,f3,g0,g1,g2,g3⟩:=oG hb4
  unfold bX
  go_wp2_with fail
  refine bodyPost_ret (v:=bX 3 0 ⟨#[]⟩ 0 0) (by simp[results,Tryz.results30,go_sem,bX,f0,f1,f2,f3]) rfl ⟨?_,kH hb4 _ _ _ _⟩
  rw[gD,HE.out];rfl
 ·rw[if_neg h21]
  have e1:plain t=⟨0,4,aH bq t 1,0⟩:=by rw[HP.out,HO.out,Nat.sub_zero,Nat.zero_add,if_neg h21]
  have HE:=@aG _ @e1
  clear e1 h21
  obtain⟨f0,f1,f2,f3,g0,g1,g2,g3⟩:=oG hb4
  unfold bX
  go_wp2_with fail
  refine bodyPost_ret (v:=bX 0 4 (t.extract 0 (aH bq t 1)) 0 (aH bq t 1)) (by simp[results,Tryz.results30,go_sem,bX,f0,f1,f2,f3]) rfl ⟨?_,kH hb4 _ _ _ _⟩
  rw[gD,HE.out];rfl
theorem Bn (t:ByteArray) (w:World) (hs:t.size≤6000) (h0:0<t.size) (hd:bV (aK t 0)=false) (hl:dL (aK t 0)=false) (hl1:aK t 0≠39∨dL (aK t 1)=false):
 Calls Tryz.prog 30 #[.string t] w fun e w'=>e=.returned (bX (plain t).err (plain t).kind (gD t) (plain t).n (plain t).stop)∧Below w.heap.size w w':=by
 have HE:Hid (plain t=⟨0,0,0,0⟩):=by
  show plain t=_
  rw[plain,if_neg]
  rcases hl1 with h|h<;>simp[nX,hd,hl,h]
 have HZ:Hid (aH bV t 0=0):=uX hd
 have HL:Hid (iy t=0):=by show iy t=0;rw[iy,hl];rfl
 have hs1:(t.extract 1 t.size).size≤6000:=by rw[ext_size t 1 t.size (Nat.le_refl _)];omega
 have Qr:=@aG _ @hs1
 have HX:Hid (0<iy (t.extract 1 t.size)→((((t[0]'h0).toNat:Int)==39)=false)):=by
  intro h
  rcases hl1 with h1|h1
  ·rw[mO h0] at h1;simp;omega
  ·rw[Oq t h1] at h;omega
 clear hd hl hl1 hs1
 go_enter Tryz.func30,Tryz.ntmps30
 go_wp2_with fail
 refine(zT t _ hs).mono ?_
 rintro e w1 ⟨rfl,hb⟩
 have hb1:=jr (uV w) hb
 clear hb
 rw[HZ.out]
 go_wp2_with fail
 refine(uj t _ hs).mono ?_
 rintro e w2 ⟨rfl,hb⟩
 have hb2:=jr hb1 hb
 clear hb hb1
 rw[HL.out]
 go_wp2_with fail
 refine(uj _ _ Qr.out).mono ?_
 rintro e w3 ⟨rfl,hb⟩
 have hb3:=jr hb2 hb
 clear hb hb2
 obtain⟨m,hm⟩:∃m,m=iy (t.extract 1 t.size):=⟨_,rfl⟩
 rw[←hm]
 have HX':Hid (0<m→((((t[0]'h0).toNat:Int)==39)=false)):=by rw[hm];exact HX.out
 clear hm
 obtain⟨f0,f1,f2,f3,g0,g1,g2,g3⟩:=oG hb3
 by_cases hm1:0<m
 ·have hx:=HX'.out hm1
  go_wp2_with fail
  refine bodyPost_ret (v:=bX 0 0 ⟨#[]⟩ 0 0) (by simp[results,Tryz.results30,go_sem,bX,f0,f1,f2,f3]) rfl ⟨?_,kH hb3 _ _ _ _⟩
  rw[gD,HE.out];rfl
 ·go_wp2_with fail
  refine bodyPost_ret (v:=bX 0 0 ⟨#[]⟩ 0 0) (by simp[results,Tryz.results30,go_sem,bX,f0,f1,f2,f3]) rfl ⟨?_,kH hb3 _ _ _ _⟩
  rw[gD,HE.out];rfl
theorem YI (t:ByteArray) (w:World) (hs:t.size≤6000) (h0:0<t.size) (hG:jo w):
 Calls Tryz.prog 30 #[.string t] w fun e w'=>e=.returned (bX (plain t).err (plain t).kind (gD t) (plain t).n (plain t).stop)∧Below w.heap.size w w':=by
 cases hd:bV (aK t 0)
 ·cases hl:dL (aK t 0)
  ·by_cases oq:aK t 0=39
   ·cases hl1:dL (aK t 1)
    ·exact Bn t w hs h0 hd hl (.inr hl1)
    ·exact KG t w hs h0 oq hl1
   ·exact Bn t w hs h0 hd hl (.inl oq)
  ·exact FN t w hs h0 hl hG
 ·exact Hl t w hs h0 hd hG
end Go.Proofs.YtdplogkmkgekdaaGreatDoor
