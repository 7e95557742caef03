/- The project's lexer: the loop over the text's runes. -/
import Derived.Test.YtdplogkmkgekdaaGreatDoorLxc
import Derived.Test.YtdplogkmkgekdaaGreatDoorTypes
import Derived.Lib.OthersKept
import Derived.WalkSmall
import Derived.Deep.LoopGhost
import Derived.WalkMore
set_option linter.all false
set_option maxRecDepth 100000
set_option maxHeartbeats 4000000
namespace Go.Proofs.YtdplogkmkgekdaaGreatDoor
open Go.RowKit
structure Mem (s:ByteArray) (w wr:World) (v:Value) (pos:Nat) (acc:List (List Value)):Prop where
 iter:wr.heap[w.heap.size+1]? =some (.stringIter s pos)
 own:wr.ownsRow (w.heap.size+2) 67 4 v acc.length acc.flatten
 below:Below (w.heap.size+1) (w.alloc (.cells #[.int .i64 0,.int .i64 0] 31)) wr
theorem Mem.sz {s:ByteArray} {w wr:World} {v:Value} {pos:Nat} {acc:List (List Value)} (h:Mem s w wr v pos acc):w.heap.size+2≤wr.heap.size:=(Array.getElem?_eq_some_iff.1 h.iter).1
theorem Mem.next {s:ByteArray} {w wr:World} {v:Value} {pos:Nat} {acc:List (List Value)} (h:Mem s w wr v pos acc) (p:Nat):Mem s w (wr.iterAt (w.heap.size+1) s p) v p acc:=
 ⟨Lib.iterAt_heap wr _ s pos p h.iter,ownsRow_iterAt h.own (by omega) s p,Lib.below_iterAt h.below (Nat.le_refl _) s p⟩
theorem Mem.call {s:ByteArray} {w wr w1:World} {v:Value} {pos:Nat} {acc:List (List Value)} (h:Mem s w wr v pos acc) (hb:Below wr.heap.size wr w1):Mem s w w1 v pos acc:=by
 have:=h.sz
 exact⟨by rw[hb.block _ (by omega)];exact h.iter,ownsRow_below h.own hb,h.below.trans (hb.mono (by omega))⟩
theorem Mem.alloc {s:ByteArray} {w wr:World} {v:Value} {pos:Nat} {acc:List (List Value)} (h:Mem s w wr v pos acc) (o:Obj):Mem s w (wr.alloc o) v pos acc:=
 h.call ((Below.refl _ _).alloc (Nat.le_refl _) o)
theorem Mem.grown {s:ByteArray} {w wr w1:World} {v v':Value} {pos:Nat} {acc:List (List Value)} {c:List Value} (h:Mem s w wr v pos acc) (hg:wr.grownBy w1 v.ownBlock)
 (ho:w1.ownsRow (w.heap.size+2) 67 4 v' (acc.length+1) (acc.flatten++c)):Mem s w w1 v' pos (acc++[c]):=by
 have hsz:=h.sz
 refine⟨?_,by rw[H8,List.length_append];exact ho,h.below.grown hg (by omega) (fun k hk=>by have:=(h.own.lt k hk).1;omega)⟩
 rw[hg.block _ (by omega) (fun e=>by have:=(h.own.lt _ e.symm).1;omega)]
 exact h.iter
structure Book (s:ByteArray) (pos en b:Nat) (acc:List (List Value)):Prop where
 acT:pos≤s.size
 Wj:en≤s.size
 clear:∀p,pos≤p→p<en→p+(Utf8.decode s p).2≤en
 same:lexFrom b s (max pos en) acc=lexFrom s.size s 0 []
 fuel:s.size≤max pos en+b
 few:acc.length≤max pos en
theorem Book.start (s:ByteArray):Book s 0 0 s.size []:=⟨Nat.zero_le _,Nat.zero_le _,fun p _ h=>absurd h (by omega),rfl,by omega,by simp⟩
theorem Book.skip {s:ByteArray} {pos en b:Nat} {acc:List (List Value)} (h:Book s pos en b acc) (hp:pos<s.size) (he:pos<en):Book s (pos+(Utf8.decode s pos).2) en b acc:=by
 have h1:=h.clear pos (Nat.le_refl _) he
 obtain⟨h2,h3,_⟩:=ow s pos hp
 have e1:max pos en=en:=by omega
 have e2:max (pos+(Utf8.decode s pos).2) en=en:=by omega
 refine⟨h3,h.Wj,fun p hp1 hp2=>h.clear p (by omega) hp2,?_,?_,?_⟩
 ·rw[e2,←e1];exact h.same
 ·have:=h.fuel;omega
 ·have:=h.few;omega
theorem Book.step {s:ByteArray} {pos en b:Nat} {acc acc':List (List Value)} (h:Book s pos en b acc) (hp:pos<s.size) (he:¬pos<en) {en':Nat} {w:Nat} (hw:Utf8.decode s pos=(aK s pos,1)) (h1:max (pos+1) en'=w) (hen:en'≤s.size)
 (acU:∀p,pos+1≤p→p<en'→p+(Utf8.decode s p).2≤en') (hlex:∀b',lexFrom (b'+1) s pos acc=lexFrom b' s w acc') (oC:acc'.length≤acc.length+1):∃b',Book s (pos+(Utf8.decode s pos).2) en' b' acc':=by
 have e1:max pos en=pos:=by omega
 have hf:=h.fuel
 have hs:=h.same
 have hfw:=h.few
 rw[e1] at hf hs hfw
 obtain⟨b',rfl⟩:∃b',b=b'+1:=⟨b - 1,by omega⟩
 rw[hw]
 refine⟨b',by simp;omega,hen,fun p a c=>acU p a c,?_,?_,?_⟩
 ·show lexFrom b' s (max (pos+1) en') acc'=_
  rw[h1,←hlex];exact hs
 ·show s.size≤max (pos+1) en'+b'
  omega
 ·show acc'.length≤max (pos+1) en'
  omega
theorem Book.at_end {s:ByteArray} {pos en b:Nat} {acc:List (List Value)} (h:Book s pos en b acc) (hs:s.size≤6000) (hp:¬pos<s.size):iE s=.inr (acc++[oz 0 s.size ⟨#[]⟩ 0]):=by
 have:=h.same
 rw[xU (by omega)] at this
 rw[iE,if_neg (by omega),←this]
theorem Book.bad {s:ByteArray} {pos en b:Nat} {acc:List (List Value)} (h:Book s pos en b acc) (hs:s.size≤6000) (hlt:pos<s.size) (he:¬pos<en) (hb:iH (aK s pos)=false) (hr:aK s pos≠35) (hE:(one s pos).err≠0):iE s=.inl ((one s pos).err,pos):=by
 have hf:=h.fuel
 have:=h.same
 rw[show max pos en=pos by omega] at this hf
 obtain⟨b',rfl⟩:∃b',b=b'+1:=⟨b - 1,by omega⟩
 rw[Bv hlt hb hr hE] at this
 rw[iE,if_neg (by omega),←this]
theorem G6 {s:ByteArray} {a en:Nat} (hen:en≤s.size) (h:∀p,a≤p→p<en→aK s p<128):∀p,a≤p→p<en→p+(Utf8.decode s p).2≤en:=by
 intro p h1 h2
 rw[uP (by omega) (h p h1 h2)]
 show p+1≤en
 omega
theorem Rf {s:ByteArray} {a k:Nat} (hk:k≤s.size):∀p,a≤p→p<aH kK s k→p+(Utf8.decode s p).2≤aH kK s k:=by
 intro p _ h2
 have hle:=iI kK s k hk
 by_cases he:aH kK s k<s.size
 ·have:=xS kK s k he
  refine Oo h2 he ?_
  simp[kK] at this
  omega
 ·have:=(ow s p (by omega)).2.1
  omega
theorem BU {s:ByteArray} {i:Nat} (hi:i<s.size) (he:(one s i).err=0):∀p,i≤p→p<(one s i).stop→aK s p<128:=by
 have TL:∀c,bq c=true→c<128:=fun c h=>by
  rcases Nat.lt_or_ge c 128 with h1|h1
  ·exact h1
  ·rw[FM c h1] at h;cases h
 intro p h1 h2
 cases hd:bV (aK s i)
 ·cases hl:dL (aK s i)
  ·by_cases oq:aK s i=39∧dL (aK s (i+1))=true
   ·rw[uF oq.1 oq.2] at he h2
    split at h2
    ·simp at h2
    ·by_cases e:p=i
     ·rw[e,oq.1];omega
     ·exact TL _ (lV bq s (i+1) p (by omega) h2)
   ·have h3:aK s i≠39∨dL (aK s (i+1))=false:=by
     by_cases h:aK s i=39
     ·exact .inr (by cases h':dL (aK s (i+1));rfl;exact absurd ⟨h,h'⟩ oq)
     ·exact .inl h
    rw[yX hd hl h3] at he h2
    split at h2
    ·simp at h2
    ·rename_i hz
     have h2':p<i+bR s i:=h2
     unfold bR at h2' hz
     split at h2'
     ·rename_i ht
      have hm:(aK s i,aK s (i+1))∈uw:=by simpa using ht
      have hall:∀q∈uw,q.1<128∧q.2<128:=by decide
      have:=hall _ hm
      have hp2:p=i∨p=i+1:=by omega
      rcases hp2 with rfl|rfl
      ·exact this.1
      ·exact this.2
     ·rename_i ht
      split at h2'
      ·rename_i ho
       have hm:aK s i∈wo:=by simpa using ho
       have hall:∀q∈wo,q<128:=by decide
       have:p=i:=by omega
       rw[this];exact hall _ hm
      ·omega
  ·rw[pG hl] at he h2
   split at h2
   ·exact TL _ (lV bq s i p h1 h2)
   ·split at h2
    ·simp at h2
    ·exact TL _ (lV bq s i p h1 h2)
 ·rw[sD hd] at he h2
  split at h2
  ·have:=lV bV s i p h1 h2
   rcases Nat.lt_or_ge (aK s p) 128 with h3|h3
   ·exact h3
   ·rw[BS _ h3] at this;cases this
  ·simp at h2
theorem jo.mem {s:ByteArray} {w wr:World} {v:Value} {pos:Nat} {acc:List (List Value)} (hG:jo w) (h:Mem s w wr v pos acc):jo wr:=zU hG h.below
theorem Bo:∀c,128≤c→iH c=false:=fun c h=>by simp[iH];omega
theorem KH:∀c,128≤c→(fun x:Nat=>x==35) c=false:=fun c h=>by simp;omega
theorem Rh {s:ByteArray} {pos:Nat} (hp:pos<s.size) (h:nX (s.extract pos s.size)=true) (he:(one s pos).err≠0):plain (s.extract pos s.size)=⟨3,0,0,0⟩∧gD (s.extract pos s.size)=⟨#[]⟩∧(one s pos).err=3:=by
 obtain⟨h1,_,_,_,h5,_⟩:=Kq s pos hp h
 have e:=h5 he
 have e2:plain (s.extract pos s.size)=⟨3,0,0,0⟩:=by rw[plain,if_pos h,e]
 exact⟨e2,by rw[gD,e2];rfl,by rw[←h1,e]⟩
theorem TM {s:ByteArray} {pos:Nat} (hp:pos<s.size) (h:nX (s.extract pos s.size)=true) (he:(one s pos).err=0):plain (s.extract pos s.size)=⟨0,(one s pos).kind,(one s pos).stop - pos,(one s pos).n⟩∧gD (s.extract pos s.size)=dD s pos (one s pos):=by
 obtain⟨h1,h2,h3,h4,_,h6⟩:=Kq s pos hp h
 have h4':=h4 he
 have h6':=h6 he
 have hst:=rT hp he
 have e2:plain (s.extract pos s.size)=⟨0,(one s pos).kind,(one s pos).stop - pos,(one s pos).n⟩:=by
  rw[plain,if_pos h]
  have:one (s.extract pos s.size) 0=⟨(one (s.extract pos s.size) 0).err,(one (s.extract pos s.size) 0).kind,(one (s.extract pos s.size) 0).stop,(one (s.extract pos s.size) 0).n⟩:=rfl
  rw[this,h1,h2,h3,he,show(one (s.extract pos s.size) 0).stop=(one s pos).stop - pos by omega]
 refine⟨e2,?_⟩
 rw[gD,e2,dD]
 by_cases hk:(one s pos).kind=1
 ·rw[if_pos (by simp[hk]),if_pos hk]
 ·rw[if_neg (by simp;omega),if_neg hk,M0 s pos _ (by simp;omega)]
  simp only
  rw[show pos+((one s pos).stop - pos)=(one s pos).stop by omega]
theorem TN {s:ByteArray} {pos:Nat} (h:nX (s.extract pos s.size)=false):plain (s.extract pos s.size)=⟨0,0,0,0⟩∧gD (s.extract pos s.size)=⟨#[]⟩∧one s pos=if bR s pos=0 then⟨2,0,0,0⟩ else⟨0,5,pos+bR s pos,0⟩:=by
 have e2:plain (s.extract pos s.size)=⟨0,0,0,0⟩:=by rw[plain,if_neg (by simp[h])]
 refine⟨e2,by rw[gD,e2];rfl,?_⟩
 rw[nX,kY,kY,Nat.add_zero] at h
 simp at h
 refine yX h.1.1 h.1.2 ?_
 by_cases oq:aK s pos=39
 ·exact .inr (h.2 oq)
 ·exact .inl oq
theorem Ot {s:ByteArray} {w wr:World} {v:Value} {pos:Nat} {acc:List (List Value)} {o:Obj} {tg:TypeId} {fg:Nat × Nat} (hG:jo w) (h:Mem s w wr v pos acc) (hS:w.heap[0]? =some (.cells vD tg fg)):(wr.alloc o).heap[0]? =some (.cells vD tg fg):=by
 have hr:=hG.room
 have hsz:=h.sz
 rw[Below.heap_alloc _ _ _ (by omega),h.below.block 0 (by omega),Below.heap_alloc _ _ _ (by omega)]
 exact hS
theorem XQ (s:ByteArray) (w:World) (hs:s.size≤6000) (hG:jo w) (tg:TypeId) (fg:Nat × Nat) (hS:w.heap[0]? =some (.cells vD tg fg)):
 Calls Tryz.prog 11 #[.string s] w fun e w'=>qP s (w.heap.size+2) e w'∧Below w.heap.size w w':=by
 have HS:=@aG _ @hS
 clear hS
 obtain⟨i0,hi0,hz0,hz1,hz2⟩:=info_parts YN
 go_enter Tryz.func11,Tryz.ntmps11
 go_wp2_with fail
 go_step3
 go_wp2_with fail
 go_step3
 go_wp2_with fail
 go_loopg [4,5] (s.size+1) (fun g v e5 wr=>∃(pos en b:Nat) (acc:List (List Value)),e5=.int .i64 en∧s.size<pos+g∧Book s pos en b acc∧Mem s w wr v pos acc)
 case atStart=>exact⟨0,0,s.size,[],rfl,by omega,Book.start s,⟨by have:=World.iter_heap (w.alloc (.cells #[.int .i64 0,.int .i64 0] 31)) s 0;simpa using this,World.ownsRow_nil _ _ _ _,(Below.refl _ _).alloc (by simp) _⟩⟩
 case round=>
  obtain⟨pos,en,b,acc,rfl,hg,hB,hM⟩:=hrel
  have hpl:=hB.acT
  have hel:=hB.Wj
  by_cases hp:pos<s.size
  ·obtain⟨hd1,hd2,-⟩:=ow s pos hp
   have HB2:Hid (∀p:Nat→Bool,(∀c,128≤c→p c=false)→p (Utf8.decode s pos).1=p (aK s pos)):=fun p hq=>wX hq hp
   have hnx:∀ty,(Instr.next (.pointer (some ⟨w.heap.size+1,0,none⟩)) true ty).run Tryz.prog wr=_:=fun ty=>Lib.run_next_any_at wr (w.heap.size+1) s pos ty hM.iter hp
   obtain⟨w1,hw1⟩:∃w1,w1=wr.iterAt (w.heap.size+1) s (pos+(Utf8.decode s pos).2):=⟨_,rfl⟩
   rw[←hw1] at hnx
   have hM1:=hM.next (pos+(Utf8.decode s pos).2)
   rw[←hw1] at hM1
   clear hw1 hM
   have hG1:=hG.mem hM1
   obtain⟨c,hc⟩:∃c,c=(Utf8.decode s pos).1:=⟨_,rfl⟩
   rw[←hc] at hnx HB2
   clear hc
   by_cases he:pos<en
   ·have hB':=hB.skip hp he
    clear hB
    go_wp2_with fail
    go_roundg (s.size - pos)
    case measure=>omega
    case rel=>exact⟨_,en,b,acc,rfl,by omega,hB',hM1⟩
   ·cases hbl:iH c
    ·cases wZ:((c:Int)==35)
     ·have Wm:Hid (iH (aK s pos)=false):=by show iH (aK s pos)=false;rw[←HB2.out iH Bo];exact hbl
      have Wn:Hid (aK s pos≠35):=by
       have:=HB2.out (fun x=>x==35) KH
       have h':(c==35)=false:=by simp at wZ;simp;omega
       rw[h'] at this
       show aK s pos≠35
       simpa using this.symm
      have hrs:(s.extract pos s.size).size=s.size - pos:=ext_size s pos s.size (Nat.le_refl _)
      have ER:=YI (s.extract pos s.size) w1 (by omega) (by omega) hG1
      clear hrs
      cases hpn:nX (s.extract pos s.size)
      ·obtain⟨e1,e2,e3⟩:=TN hpn
       have H3:=@aG _ @e3
       have Ri:Hid (Calls Tryz.prog 30 #[.string (s.extract pos s.size)] w1 fun e w'=>e=.returned (.tuple #[.agg #[.int .i64 0,.int .i64 0,.string ⟨#[]⟩,.int .i64 0],.int .i64 0,.int .i64 0])∧Below w1.heap.size w1 w'):=by
        refine ER.mono ?_
        rintro e w' ⟨rfl,hb⟩
        exact⟨by rw[e1,e2];rfl,hb⟩
       clear ER e1 e2 e3 hpn
       have oC:=hB.few
       go_wp2_with (first|(go_at_call 27;refine(yT _ _).mono ?_;rintro e w' ⟨rfl,rfl⟩)|(go_at_call 30;refine Ri.out.mono ?_;rintro e w2 ⟨rfl,hb2⟩;have hM2:=hM1.call hb2;have hsz:=hM2.sz;have hlt2:w.heap.size<w2.heap.size:=(by omega);obtain⟨f0,f1,f2,f3⟩:=ze hM2.below)|(refine wpList_load_row rfl 70 _ rfl 0 rfl tg vD fg _ ?hrow Tryz.underlying70 rfl (by kernel_rfl) ?_;rotate_left 1))
       case hrow=>exact Ot hG hM2 HS.out
       go_loopg [4,5,63] 30 (fun g2 s4 s5 s63 wy=>∃j:Nat,j+g2=30∧s4=u4∧s5=.int .i64 en∧s63=.int .i64 j∧wy=(w2.alloc (.cells #[.int .i64 0,.int .i64 0,.string ⟨#[]⟩,.int .i64 0] 67))∧Hid (∀i,i<j→dH s pos i=false))
       case atStart=>exact⟨0,by omega,rfl,rfl,rfl,rfl,fun i hi=>absurd hi (by omega)⟩
       case round=>
        obtain⟨j,hj,rfl,rfl,rfl,rfl,HJ⟩:=hrel
        by_cases TP:j<30
        ·have hix:∀w,(Instr.index 70 (.agg vD) (.int .i64 j)).run Tryz.prog w=.ok (.string (jM j)) w:=fun w=>Lr w j TP
         have hlen:=KF j TP
         cases hh:dH s pos j
         ·have H16:Hid (∀W,Calls Tryz.prog 31 #[.string (s.extract pos s.size),.string (jM j)] W fun e w'=>e=.returned (.bool false)∧w'=W):=by
           intro W
           refine(Tryz.strings_HasPrefix _ _ W).mono ?_
           rintro e w' ⟨rfl,rfl⟩
           exact⟨by rw[show Lib.hasPrefix (s.extract pos s.size).data.toList (jM j).data.toList=false from hh],rfl⟩
          have HH:=@aG _ @hh
          clear hh
          go_wp2_with (go_at_call 31;refine(H16.out _).mono ?_;rintro e w' ⟨rfl,rfl⟩)
          go_roundg (29 - j)
          case measure=>omega
          case rel=>
           refine⟨j+1,by omega,rfl,rfl,by go_num,rfl,fun i hi=>?_⟩
           by_cases hij:i=j
           ·subst hij;exact HH.out
           ·exact HJ.out i (by omega)
         ·have H16:Hid (∀W,Calls Tryz.prog 31 #[.string (s.extract pos s.size),.string (jM j)] W fun e w'=>e=.returned (.bool true)∧w'=W):=by
           intro W
           refine(Tryz.strings_HasPrefix _ _ W).mono ?_
           rintro e w' ⟨rfl,rfl⟩
           exact⟨by rw[show Lib.hasPrefix (s.extract pos s.size).data.toList (jM j).data.toList=true from hh],rfl⟩
          have hsl:=Rb s pos hp j TP hh HJ.out
          have htx:=Rc s pos j hh
          have ho:one s pos=⟨0,5,pos+(jM j).size,0⟩:=by rw[H3.out,if_neg (by omega),hsl]
          have hcl:jX s pos=[.int .i64 5,.int .i64 pos,.string (jM j),.int .i64 0]:=by rw[jX,ho,dD];simp[oz,htx]
          have hE:(one s pos).err=0:=by rw[ho]
          have hstop:(one s pos).stop=pos+(jM j).size:=by rw[ho]
          have hst:=rT hp hE
          obtain⟨b',hB'⟩:=hB.step hp he (uP hp (BU hp hE pos (Nat.le_refl _) hst.1)) (en':=(one s pos).stop) (w:=(one s pos).stop) (by omega) hst.2 (G6 hst.2 (fun p h1 h2=>BU hp hE p (by omega) h2)) (fun b'=>uD hp Wm.out Wn.out hE) (acc':=acc++[jX s pos]) (by simp)
          rw[hstop,hcl] at hB'
          rw[hstop] at hst
          clear hh hsl htx ho hcl hE hstop hB
          go_wp2_with (first|(go_at_call 31;refine(H16.out _).mono ?_;rintro e w' ⟨rfl,rfl⟩)|(at_builtin;refine wpList_append_own _ rfl (.tmp 69) (.tmp 73) 39 rfl (w.heap.size+2) 67 i0 _ 4 40 Tryz.underlying39 hi0 hz0 hz1 hz2 rfl (by decide) _ _ _ rfl ((hM2.own.alloc _).alloc _) ⟨w2.heap.size+1,0,none⟩ 1 1 [.int .i64 5,.int .i64 pos,.string (jM j),.int .i64 0] rfl rfl ?c1 yZ (by unfold maxLen;omega) (by omega) (by simp;omega) ?_;rotate_left 1;intro v' w3 hown' hgrow _))
          case c1=>have:=yY (w2.alloc (.cells #[.int .i64 0,.int .i64 0,.string ⟨#[]⟩,.int .i64 0] 67)) (.int .i64 5) (.int .i64 pos) (.string (jM j)) (.int .i64 0) 67;simpa using this
          have hM3:=((hM2.alloc _).alloc _).grown hgrow hown'
          go_roundg (s.size - pos)
          case measure=>omega
          case rel=>exact⟨_,pos+(jM j).size,b',_,by go_num,by omega,hB',hM3⟩
        ·have HB:Hid (iE s=.inl (2,pos)):=by
          have hz:=Ra s pos hp (fun i hi=>HJ.out i (by omega))
          have ho:one s pos=⟨2,0,0,0⟩:=by rw[H3.out,if_pos hz]
          have:=hB.bad hs hp he Wm.out Wn.out (by rw[ho];simp)
          rw[ho] at this
          exact this
         clear hB
         go_wp2_with fail
         rw[Exit.noGoto_ret]
         refine bodyPost_ret (v:=.tuple #[.slice none 0 0,.agg #[.int .i64 2,.int .i64 pos]]) (by simp[results,Tryz.results11,go_sem,f0,f1,hlt2]) rfl ⟨?_,?_⟩
         ·unfold qP
          rw[HB.out]
          rfl
         ·exact(((((Below.refl _ _).alloc (Nat.le_refl _) _).trans (hM2.below.mono (by simp))).setCell (by simp) _).setCell (by simp) _).alloc (by simp;omega) _
      ·by_cases hE:(one s pos).err=0
       ·obtain⟨e1,e2⟩:=TM hp hpn hE
        have hst:=rT hp hE
        have Ri:Hid (Calls Tryz.prog 30 #[.string (s.extract pos s.size)] w1 fun e w'=>e=.returned (.tuple #[.agg #[.int .i64 (one s pos).kind,.int .i64 0,.string (dD s pos (one s pos)),.int .i64 (one s pos).n],.int .i64 ((one s pos).stop - pos:Nat),.int .i64 0])∧Below w1.heap.size w1 w'):=by
         refine ER.mono ?_
         rintro e w' ⟨rfl,hb⟩
         exact⟨by rw[e1,e2];rfl,hb⟩
        obtain⟨b',hB'⟩:=hB.step hp he (uP hp (BU hp hE pos (Nat.le_refl _) hst.1)) (en':=(one s pos).stop) (w:=(one s pos).stop) (by omega) hst.2 (G6 hst.2 (fun p h1 h2=>BU hp hE p (by omega) h2)) (fun b'=>uD hp Wm.out Wn.out hE) (acc':=acc++[jX s pos]) (by simp)
        have oC:=hB.few
        have hsp:0<(one s pos).stop - pos:=by omega
        clear ER e1 e2 hpn hE hB
        go_wp2_with (first|(go_at_call 27;refine(yT _ _).mono ?_;rintro e w' ⟨rfl,rfl⟩)|(go_at_call 30;refine Ri.out.mono ?_;rintro e w2 ⟨rfl,hb2⟩;have hM2:=hM1.call hb2;have hsz:=hM2.sz)|(at_builtin;refine wpList_append_own _ rfl (.tmp 55) (.tmp 57) 39 rfl (w.heap.size+2) 67 i0 _ 4 40 Tryz.underlying39 hi0 hz0 hz1 hz2 rfl (by decide) _ _ _ rfl ((hM2.own.alloc _).alloc _) ⟨w2.heap.size+1,0,none⟩ 1 1 (jX s pos) rfl rfl ?c1 yZ (by unfold maxLen;omega) (by omega) (by simp;omega) ?_;rotate_left 1;intro v' w3 hown' hgrow _))
        case c1=>have:=yY (w2.alloc (.cells #[.int .i64 (one s pos).kind,.int .i64 pos,.string (dD s pos (one s pos)),.int .i64 (one s pos).n] 67)) (.int .i64 (one s pos).kind) (.int .i64 pos) (.string (dD s pos (one s pos))) (.int .i64 (one s pos).n) 67;simpa[jX,oz] using this
        have hM3:=((hM2.alloc _).alloc _).grown hgrow hown'
        go_roundg (s.size - pos)
        case measure=>omega
        case rel=>exact⟨_,(one s pos).stop,b',_,by go_num,by omega,hB',hM3⟩
       ·obtain⟨e1,e2,e3⟩:=Rh hp hpn hE
        have Ri:Hid (Calls Tryz.prog 30 #[.string (s.extract pos s.size)] w1 fun e w'=>e=.returned (.tuple #[.agg #[.int .i64 0,.int .i64 0,.string ⟨#[]⟩,.int .i64 0],.int .i64 0,.int .i64 3])∧Below w1.heap.size w1 w'):=by
         refine ER.mono ?_
         rintro e w' ⟨rfl,hb⟩
         exact⟨by rw[e1,e2];rfl,hb⟩
        have HB:Hid (iE s=.inl (3,pos)):=by
         have:=hB.bad hs hp he Wm.out Wn.out hE
         rw[e3] at this
         exact this
        clear ER e1 e2 e3 hpn hE hB
        go_wp2_with (first|(go_at_call 27;refine(yT _ _).mono ?_;rintro e w' ⟨rfl,rfl⟩)|(go_at_call 30;refine Ri.out.mono ?_;rintro e w2 ⟨rfl,hb2⟩;have hM2:=hM1.call hb2;have hsz:=hM2.sz;have hlt2:w.heap.size<w2.heap.size:=(by omega);obtain⟨f0,f1,f2,f3⟩:=ze hM2.below))
        rw[Exit.noGoto_ret]
        refine bodyPost_ret (v:=.tuple #[.slice none 0 0,.agg #[.int .i64 3,.int .i64 pos]]) (by simp[results,Tryz.results11,go_sem,f0,f1,hlt2]) rfl ⟨?_,?_⟩
        ·unfold qP
         rw[HB.out]
         rfl
        ·exact(((((Below.refl _ _).alloc (Nat.le_refl _) _).trans (hM2.below.mono (by simp))).setCell (by simp) _).setCell (by simp) _).alloc (by simp;omega) _
     ·have TQ:aK s pos=35:=by
       have:=HB2.out (fun x=>x==35) KH
       have h':(c==35)=true:=by simp at wZ;simp;omega
       rw[h'] at this
       simpa using this.symm
      have hx:=uh kK s pos 0 (by omega)
      rw[Nat.add_zero] at hx
      have hle:=iI kK s pos (by omega)
      have hpos:pos<aH kK s pos:=kW hp (by rw[TQ];rfl)
      have HX:=@aG _ @hx
      have HZ:Hid ((s.extract pos s.size).size≤6000):=by show(s.extract pos s.size).size≤6000;rw[ext_size s pos s.size (Nat.le_refl _)];omega
      have hrl:aH kK (s.extract pos s.size) 0≤6000:=by omega
      obtain⟨b',hB'⟩:=hB.step hp he (uP hp (by omega)) (en':=aH kK s pos) (w:=aH kK s pos) (by omega) hle (Rf (by omega)) (fun b'=>Bu hp TQ) (by omega)
      clear hB TQ hx
      go_wp2_with (first|(go_at_call 27;refine(yT _ _).mono ?_;rintro e w' ⟨rfl,rfl⟩)|(go_at_call 28;refine(TJ _ _ HZ.out).mono ?_;rintro e w2 ⟨rfl,hb2⟩))
      go_roundg (s.size - pos)
      case measure=>omega
      case rel=>exact⟨_,aH kK s pos,b',acc,by have:=HX.out;go_num,by omega,hB',hM1.call hb2⟩
    ·have hb2:iH (aK s pos)=true:=by rw[←HB2.out iH Bo];exact hbl
     have hlow:aK s pos<128:=by
      rcases Nat.lt_or_ge (aK s pos) 128 with h|h
      ·exact h
      ·rw[Bo _ h] at hb2;cases hb2
     obtain⟨b',hB'⟩:=hB.step hp he (uP hp hlow) (en':=en) (w:=pos+1) (by omega) hel (fun p h1 h2=>absurd h2 (by omega)) (fun b'=>uY hp hb2) (by omega)
     clear hb2 hlow hB
     go_wp2_with (go_at_call 27;refine(yT _ _).mono ?_;rintro e w' ⟨rfl,rfl⟩)
     go_roundg (s.size - pos)
     case measure=>omega
     case rel=>exact⟨_,en,b',acc,rfl,by omega,hB',hM1⟩
  ·have hnx:∀ty,(Instr.next (.pointer (some ⟨w.heap.size+1,0,none⟩)) true ty).run Tryz.prog wr=_:=fun ty=>Lib.run_next_end_at wr (w.heap.size+1) s pos ty hM.iter hp
   have hsz:=hM.sz
   go_wp2_with (first|(at_builtin;refine wpList_append_own _ rfl (.tmp 82) (.tmp 86) 39 rfl (w.heap.size+2) 67 i0 _ 4 40 Tryz.underlying39 hi0 hz0 hz1 hz2 rfl (by decide) _ _ _ rfl (hM.own.alloc _) ⟨wr.heap.size,0,none⟩ 1 1 [.int .i64 0,.int .i64 s.size,.string ⟨#[]⟩,.int .i64 0] rfl rfl (yY _ _ _ _ _ _) yZ (by have:=hB.few;unfold maxLen;omega) (by have:=hB.few;omega) (by simp;omega) ?_;intro v' w1 hown' hgrow _;have hM1:=(hM.alloc _).grown hgrow hown';obtain⟨f0,f1,f2,f3⟩:=ze hM1.below)|fail)
   rw[Exit.noGoto_ret]
   refine bodyPost_ret (v:=.tuple #[v',.agg #[.int .i64 0,.int .i64 0]]) (by simp[results,Tryz.results11,go_sem,f0,f1]) rfl ⟨?_,?_⟩
   ·unfold qP
    rw[hB.at_end hs hp]
    exact⟨v',rfl,ownsRow_setCell_below (ownsRow_setCell_below hM1.own (by simp) _) (by simp) _⟩
   ·exact((((Below.refl _ _).alloc (Nat.le_refl _) _).trans (hM1.below.mono (by simp))).setCell (by simp) _).setCell (by simp) _
end Go.Proofs.YtdplogkmkgekdaaGreatDoor
