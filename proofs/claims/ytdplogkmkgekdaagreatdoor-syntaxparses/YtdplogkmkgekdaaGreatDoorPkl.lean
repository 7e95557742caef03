/- The project's parser: what begins with what stands there. -/
import Derived.Test.YtdplogkmkgekdaaGreatDoorLxd
import Derived.WalkMore
import Derived.Test.YtdplogkmkgekdaaGreatDoorPkk
import Derived.Test.YtdplogkmkgekdaaGreatDoorFRefdn
set_option linter.all false
set_option maxRecDepth 100000
set_option maxHeartbeats 4000000
namespace Go.Proofs.YtdplogkmkgekdaaGreatDoor
open Go.RowKit
theorem sortBlank:∀c,128≤c→blankN c=false:=fun c h=>by simp[blankN];omega
theorem sortHash:∀c,128≤c→(fun x:Nat=>x==35) c=false:=fun c h=>by simp;omega
theorem plain_bad {s:ByteArray} {pos:Nat} (hp:pos<s.size) (h:isPlain (s.extract pos s.size)=true) (he:(one s pos).err≠0):plain (s.extract pos s.size)=⟨3,0,0,0⟩∧plainText (s.extract pos s.size)=⟨#[]⟩∧(one s pos).err=3:=by
 obtain⟨h1,_,_,_,h5,_⟩:=one_rest s pos hp h
 have e:=h5 he
 have e2:plain (s.extract pos s.size)=⟨3,0,0,0⟩:=by rw[plain,if_pos h,e]
 exact⟨e2,by rw[plainText,e2];rfl,by rw[←h1,e]⟩
theorem plain_ok {s:ByteArray} {pos:Nat} (hp:pos<s.size) (h:isPlain (s.extract pos s.size)=true) (he:(one s pos).err=0):plain (s.extract pos s.size)=⟨0,(one s pos).kind,(one s pos).stop - pos,(one s pos).n⟩∧plainText (s.extract pos s.size)=oneText s pos (one s pos):=by
 obtain⟨h1,h2,h3,h4,_,h6⟩:=one_rest s pos hp h
 have h4':=h4 he
 have h6':=h6 he
 have hst:=one_stop hp he
 have e2:plain (s.extract pos s.size)=⟨0,(one s pos).kind,(one s pos).stop - pos,(one s pos).n⟩:=by
  rw[plain,if_pos h]
  have:one (s.extract pos s.size) 0=⟨(one (s.extract pos s.size) 0).err,(one (s.extract pos s.size) 0).kind,(one (s.extract pos s.size) 0).stop,(one (s.extract pos s.size) 0).n⟩:=rfl
  rw[this,h1,h2,h3,he,show(one (s.extract pos s.size) 0).stop=(one s pos).stop - pos by omega]
 refine⟨e2,?_⟩
 rw[plainText,e2,oneText]
 by_cases hk:(one s pos).kind=1
 ·rw[if_pos (by simp[hk]),if_pos hk]
 ·rw[if_neg (by simp;omega),if_neg hk,ext_ext s pos _ (by simp;omega)]
  simp only
  rw[show pos+((one s pos).stop - pos)=(one s pos).stop by omega]
theorem plain_no {s:ByteArray} {pos:Nat} (h:isPlain (s.extract pos s.size)=false):plain (s.extract pos s.size)=⟨0,0,0,0⟩∧plainText (s.extract pos s.size)=⟨#[]⟩∧one s pos=if signLen s pos=0 then⟨2,0,0,0⟩ else⟨0,5,pos+signLen s pos,0⟩:=by
 have e2:plain (s.extract pos s.size)=⟨0,0,0,0⟩:=by rw[plain,if_neg (by simp[h])]
 refine⟨e2,by rw[plainText,e2];rfl,?_⟩
 rw[isPlain,ext_bat_end,ext_bat_end,Nat.add_zero] at h
 simp at h
 refine one_sign h.1.1 h.1.2 ?_
 by_cases h39:bat s pos=39
 ·exact .inr (h.2 h39)
 ·exact .inl h39
theorem signs_kept {s:ByteArray} {w wr:World} {v:Value} {pos:Nat} {acc:List (List Value)} {o:Obj} {tg:TypeId} {fg:Nat × Nat} (hG:Globals w) (h:Mem s w wr v pos acc) (hS:w.heap[0]? =some (.cells signsC tg fg)):(wr.alloc o).heap[0]? =some (.cells signsC tg fg):=by
 have hr:=hG.room
 have hsz:=h.sz
 rw[Below.heap_alloc _ _ _ (by omega),h.below.block 0 (by omega),Below.heap_alloc _ _ _ (by omega)]
 exact hS
theorem tokens6 (s:ByteArray) (w:World) (hs:s.size≤6000) (hG:Globals w) (tg:TypeId) (fg:Nat × Nat) (hS:w.heap[0]? =some (.cells signsC tg fg)):
 Calls Tryz.prog 11 #[.string s] w fun e w'=>TokPost s (w.heap.size+2) e w'∧Below w.heap.size w w':=by
 have HS:Hid (w.heap[0]? =some (.cells signsC tg fg)):=hS
 clear hS
 obtain⟨i0,hi0,hz0,hz1,hz2⟩:=info_parts info30
 go_enter Tryz.func11,Tryz.ntmps11
 go_wp2_with fail
 go_step3
 go_wp2_with fail
 go_step3
 go_wp2_with fail
 go_loopg [4,5] (s.size+1) (fun g v e5 wr=>∃(pos en b:Nat) (acc:List (List Value)),e5=.int .i64 en∧s.size<pos+g∧Book s pos en b acc∧Mem s w wr v pos acc)
 case atStart=>exact⟨0,0,s.size,[],rfl,by omega,Book.start s,⟨by have:=World.iter_heap (w.alloc (.cells #[.int .i64 0,.int .i64 0] 31)) s 0;simpa using this,World.ownsRow_nil _ _ _ _,(Below.refl _ _).alloc (by simp) _⟩⟩
 case round=>
  obtain⟨pos,en,b,acc,rfl,hg,hB,hM⟩:=hrel
  have hpl:=hB.pos_le
  have hel:=hB.en_le
  by_cases hp:pos<s.size
  ·obtain⟨hd1,hd2,-⟩:=dec_width s pos hp
   have HB2:Hid (∀p:Nat→Bool,(∀c,128≤c→p c=false)→p (Utf8.decode s pos).1=p (bat s pos)):=fun p hq=>dec_same hq hp
   have hnx:∀ty,(Instr.next (.pointer (some ⟨w.heap.size+1,0,none⟩)) true ty).run Tryz.prog wr=_:=fun ty=>Lib.run_next_any_at wr (w.heap.size+1) s pos ty hM.iter hp
   obtain⟨w1,hw1⟩:∃w1,w1=wr.iterAt (w.heap.size+1) s (pos+(Utf8.decode s pos).2):=⟨_,rfl⟩
   rw[←hw1] at hnx
   have hM1:=hM.next (pos+(Utf8.decode s pos).2)
   rw[←hw1] at hM1
   clear hw1 hM
   have hG1:=hG.mem hM1
   obtain⟨c,hc⟩:∃c,c=(Utf8.decode s pos).1:=⟨_,rfl⟩
   rw[←hc] at hnx HB2
   clear hc
   by_cases he:pos<en
   ·have hB':=hB.skip hp he
    clear hB
    go_wp2_with fail
    go_roundg (s.size - pos)
    case measure=>omega
    case rel=>exact⟨_,en,b,acc,rfl,by omega,hB',hM1⟩
   ·cases hbl:blankN c
    ·cases h35:((c:Int)==35)
     ·have HNb:Hid (blankN (bat s pos)=false):=by show blankN (bat s pos)=false;rw[←HB2.out blankN sortBlank];exact hbl
      have HNr:Hid (bat s pos≠35):=by
       have:=HB2.out (fun x=>x==35) sortHash
       have h':(c==35)=false:=by simp at h35;simp;omega
       rw[h'] at this
       show bat s pos≠35
       simpa using this.symm
      have hrs:(s.extract pos s.size).size=s.size - pos:=ext_size s pos s.size (Nat.le_refl _)
      have h15:=plain15 (s.extract pos s.size) w1 (by omega) (by omega) hG1
      clear hrs
      cases hpn:isPlain (s.extract pos s.size)
      ·obtain⟨e1,e2,e3⟩:=plain_no hpn
       have H3:Hid (one s pos=if signLen s pos=0 then⟨2,0,0,0⟩ else⟨0,5,pos+signLen s pos,0⟩):=e3
       have H15:Hid (Calls Tryz.prog 30 #[.string (s.extract pos s.size)] w1 fun e w'=>e=.returned (.tuple #[.agg #[.int .i64 0,.int .i64 0,.string ⟨#[]⟩,.int .i64 0],.int .i64 0,.int .i64 0])∧Below w1.heap.size w1 w'):=by
        refine h15.mono ?_
        rintro e w' ⟨rfl,hb⟩
        exact⟨by rw[e1,e2];rfl,hb⟩
       clear h15 e1 e2 e3 hpn
       have hfew:=hB.few
       go_wp2_with (first|(go_at_call 27;refine(blank12 _ _).mono ?_;rintro e w' ⟨rfl,rfl⟩)|(go_at_call 30;refine H15.out.mono ?_;rintro e w2 ⟨rfl,hb2⟩;have hM2:=hM1.call hb2;have hsz:=hM2.sz;have hlt2:w.heap.size<w2.heap.size:=(by omega);obtain⟨f0,f1,f2,f3⟩:=faultBlock hM2.below)|(refine wpList_load_row rfl 70 _ rfl 0 rfl tg signsC fg _ ?hrow Tryz.underlying70 rfl (by kernel_rfl) ?_;rotate_left 1))
       case hrow=>exact signs_kept hG hM2 HS.out
       go_loopg [4,5,63] 30 (fun g2 s4 s5 s63 wy=>∃j:Nat,j+g2=30∧s4=u4∧s5=.int .i64 en∧s63=.int .i64 j∧wy=(w2.alloc (.cells #[.int .i64 0,.int .i64 0,.string ⟨#[]⟩,.int .i64 0] 67))∧Hid (∀i,i<j→signHit s pos i=false))
       case atStart=>exact⟨0,by omega,rfl,rfl,rfl,rfl,fun i hi=>absurd hi (by omega)⟩
       case round=>
        obtain⟨j,hj,rfl,rfl,rfl,rfl,HJ⟩:=hrel
        by_cases hj30:j<30
        ·have hix:∀w,(Instr.index 70 (.agg signsC) (.int .i64 j)).run Tryz.prog w=.ok (.string (signAt j)) w:=fun w=>index_signs w j hj30
         have hlen:=sign_len_pos j hj30
         cases hh:signHit s pos j
         ·have H16:Hid (∀W,Calls Tryz.prog 31 #[.string (s.extract pos s.size),.string (signAt j)] W fun e w'=>e=.returned (.bool false)∧w'=W):=by
           intro W
           refine(Tryz.strings_HasPrefix _ _ W).mono ?_
           rintro e w' ⟨rfl,rfl⟩
           exact⟨by rw[show Lib.hasPrefix (s.extract pos s.size).data.toList (signAt j).data.toList=false from hh],rfl⟩
          have HH:Hid (signHit s pos j=false):=hh
          clear hh
          go_wp2_with (go_at_call 31;refine(H16.out _).mono ?_;rintro e w' ⟨rfl,rfl⟩)
          go_roundg (29 - j)
          case measure=>omega
          case rel=>
           refine⟨j+1,by omega,rfl,rfl,by go_num,rfl,fun i hi=>?_⟩
           by_cases hij:i=j
           ·subst hij;exact HH.out
           ·exact HJ.out i (by omega)
         ·have H16:Hid (∀W,Calls Tryz.prog 31 #[.string (s.extract pos s.size),.string (signAt j)] W fun e w'=>e=.returned (.bool true)∧w'=W):=by
           intro W
           refine(Tryz.strings_HasPrefix _ _ W).mono ?_
           rintro e w' ⟨rfl,rfl⟩
           exact⟨by rw[show Lib.hasPrefix (s.extract pos s.size).data.toList (signAt j).data.toList=true from hh],rfl⟩
          have hsl:=sign_size s pos hp j hj30 hh HJ.out
          have htx:=sign_text s pos j hh
          have ho:one s pos=⟨0,5,pos+(signAt j).size,0⟩:=by rw[H3.out,if_neg (by omega),hsl]
          have hcl:oneCells s pos=[.int .i64 5,.int .i64 pos,.string (signAt j),.int .i64 0]:=by rw[oneCells,ho,oneText];simp[tokCells,htx]
          have hE:(one s pos).err=0:=by rw[ho]
          have hstop:(one s pos).stop=pos+(signAt j).size:=by rw[ho]
          have hst:=one_stop hp hE
          obtain⟨b',hB'⟩:=hB.step hp he (dec_low hp (one_low hp hE pos (Nat.le_refl _) hst.1)) (en':=(one s pos).stop) (w:=(one s pos).stop) (by omega) hst.2 (clear_low hst.2 (fun p h1 h2=>one_low hp hE p (by omega) h2)) (fun b'=>lex_tok hp HNb.out HNr.out hE) (acc':=acc++[oneCells s pos]) (by simp)
          rw[hstop,hcl] at hB'
          rw[hstop] at hst
          clear hh hsl htx ho hcl hE hstop hB
          go_wp2_with (first|(go_at_call 31;refine(H16.out _).mono ?_;rintro e w' ⟨rfl,rfl⟩)|(at_builtin;refine wpList_append_own _ rfl (.tmp 69) (.tmp 73) 39 rfl (w.heap.size+2) 67 i0 _ 4 40 Tryz.underlying39 hi0 hz0 hz1 hz2 rfl (by decide) _ _ _ rfl ((hM2.own.alloc _).alloc _) ⟨w2.heap.size+1,0,none⟩ 1 1 [.int .i64 5,.int .i64 pos,.string (signAt j),.int .i64 0] rfl rfl ?c1 cells4_one (by unfold maxLen;omega) (by omega) (by simp;omega) ?_;rotate_left 1;intro v' w3 hown' hgrow _))
          case c1=>have:=cells4_new (w2.alloc (.cells #[.int .i64 0,.int .i64 0,.string ⟨#[]⟩,.int .i64 0] 67)) (.int .i64 5) (.int .i64 pos) (.string (signAt j)) (.int .i64 0) 67;simpa using this
          have hM3:=((hM2.alloc _).alloc _).grown hgrow hown'
          go_roundg (s.size - pos)
          case measure=>omega
          case rel=>exact⟨_,pos+(signAt j).size,b',_,by go_num,by omega,hB',hM3⟩
        ·have HB:Hid (lexAll s=.inl (2,pos)):=by
          have hz:=sign_none s pos hp (fun i hi=>HJ.out i (by omega))
          have ho:one s pos=⟨2,0,0,0⟩:=by rw[H3.out,if_pos hz]
          have:=hB.bad hs hp he HNb.out HNr.out (by rw[ho];simp)
          rw[ho] at this
          exact this
         clear hB
         go_wp2_with fail
         rw[Exit.noGoto_ret]
         refine bodyPost_ret (v:=.tuple #[.slice none 0 0,.agg #[.int .i64 2,.int .i64 pos]]) (by simp[results,Tryz.results11,go_sem,f0,f1,hlt2]) rfl ⟨?_,?_⟩
         ·unfold TokPost
          rw[HB.out]
          rfl
         ·exact(((((Below.refl _ _).alloc (Nat.le_refl _) _).trans (hM2.below.mono (by simp))).setCell (by simp) _).setCell (by simp) _).alloc (by simp;omega) _
      ·by_cases hE:(one s pos).err=0
       ·obtain⟨e1,e2⟩:=plain_ok hp hpn hE
        have hst:=one_stop hp hE
        have H15:Hid (Calls Tryz.prog 30 #[.string (s.extract pos s.size)] w1 fun e w'=>e=.returned (.tuple #[.agg #[.int .i64 (one s pos).kind,.int .i64 0,.string (oneText s pos (one s pos)),.int .i64 (one s pos).n],.int .i64 ((one s pos).stop - pos:Nat),.int .i64 0])∧Below w1.heap.size w1 w'):=by
         refine h15.mono ?_
         rintro e w' ⟨rfl,hb⟩
         exact⟨by rw[e1,e2];rfl,hb⟩
        obtain⟨b',hB'⟩:=hB.step hp he (dec_low hp (one_low hp hE pos (Nat.le_refl _) hst.1)) (en':=(one s pos).stop) (w:=(one s pos).stop) (by omega) hst.2 (clear_low hst.2 (fun p h1 h2=>one_low hp hE p (by omega) h2)) (fun b'=>lex_tok hp HNb.out HNr.out hE) (acc':=acc++[oneCells s pos]) (by simp)
        have hfew:=hB.few
        have hsp:0<(one s pos).stop - pos:=by omega
        clear h15 e1 e2 hpn hE hB
        go_wp2_with (first|(go_at_call 27;refine(blank12 _ _).mono ?_;rintro e w' ⟨rfl,rfl⟩)|(go_at_call 30;refine H15.out.mono ?_;rintro e w2 ⟨rfl,hb2⟩;have hM2:=hM1.call hb2;have hsz:=hM2.sz)|(at_builtin;refine wpList_append_own _ rfl (.tmp 55) (.tmp 57) 39 rfl (w.heap.size+2) 67 i0 _ 4 40 Tryz.underlying39 hi0 hz0 hz1 hz2 rfl (by decide) _ _ _ rfl ((hM2.own.alloc _).alloc _) ⟨w2.heap.size+1,0,none⟩ 1 1 (oneCells s pos) rfl rfl ?c1 cells4_one (by unfold maxLen;omega) (by omega) (by simp;omega) ?_;rotate_left 1;intro v' w3 hown' hgrow _))
        case c1=>have:=cells4_new (w2.alloc (.cells #[.int .i64 (one s pos).kind,.int .i64 pos,.string (oneText s pos (one s pos)),.int .i64 (one s pos).n] 67)) (.int .i64 (one s pos).kind) (.int .i64 pos) (.string (oneText s pos (one s pos))) (.int .i64 (one s pos).n) 67;simpa[oneCells,tokCells] using this
        have hM3:=((hM2.alloc _).alloc _).grown hgrow hown'
        go_roundg (s.size - pos)
        case measure=>omega
        case rel=>exact⟨_,(one s pos).stop,b',_,by go_num,by omega,hB',hM3⟩
       ·obtain⟨e1,e2,e3⟩:=plain_bad hp hpn hE
        have H15:Hid (Calls Tryz.prog 30 #[.string (s.extract pos s.size)] w1 fun e w'=>e=.returned (.tuple #[.agg #[.int .i64 0,.int .i64 0,.string ⟨#[]⟩,.int .i64 0],.int .i64 0,.int .i64 3])∧Below w1.heap.size w1 w'):=by
         refine h15.mono ?_
         rintro e w' ⟨rfl,hb⟩
         exact⟨by rw[e1,e2];rfl,hb⟩
        have HB:Hid (lexAll s=.inl (3,pos)):=by
         have:=hB.bad hs hp he HNb.out HNr.out hE
         rw[e3] at this
         exact this
        clear h15 e1 e2 e3 hpn hE hB
        go_wp2_with (first|(go_at_call 27;refine(blank12 _ _).mono ?_;rintro e w' ⟨rfl,rfl⟩)|(go_at_call 30;refine H15.out.mono ?_;rintro e w2 ⟨rfl,hb2⟩;have hM2:=hM1.call hb2;have hsz:=hM2.sz;have hlt2:w.heap.size<w2.heap.size:=(by omega);obtain⟨f0,f1,f2,f3⟩:=faultBlock hM2.below))
        rw[Exit.noGoto_ret]
        refine bodyPost_ret (v:=.tuple #[.slice none 0 0,.agg #[.int .i64 3,.int .i64 pos]]) (by simp[results,Tryz.results11,go_sem,f0,f1,hlt2]) rfl ⟨?_,?_⟩
        ·unfold TokPost
         rw[HB.out]
         rfl
        ·exact(((((Below.refl _ _).alloc (Nat.le_refl _) _).trans (hM2.below.mono (by simp))).setCell (by simp) _).setCell (by simp) _).alloc (by simp;omega) _
     ·have hb35:bat s pos=35:=by
       have:=HB2.out (fun x=>x==35) sortHash
       have h':(c==35)=true:=by simp at h35;simp;omega
       rw[h'] at this
       simpa using this.symm
      have hx:=ext_runEnd remN s pos 0 (by omega)
      rw[Nat.add_zero] at hx
      have hle:=runEnd_le remN s pos (by omega)
      have hpos:pos<runEnd remN s pos:=runEnd_pos hp (by rw[hb35];rfl)
      have HX:Hid (pos+runEnd remN (s.extract pos s.size) 0=runEnd remN s pos):=hx
      have HZ:Hid ((s.extract pos s.size).size≤6000):=by show(s.extract pos s.size).size≤6000;rw[ext_size s pos s.size (Nat.le_refl _)];omega
      have hrl:runEnd remN (s.extract pos s.size) 0≤6000:=by omega
      obtain⟨b',hB'⟩:=hB.step hp he (dec_low hp (by omega)) (en':=runEnd remN s pos) (w:=runEnd remN s pos) (by omega) hle (clear_rem (by omega)) (fun b'=>lex_rem hp hb35) (by omega)
      clear hB hb35 hx
      go_wp2_with (first|(go_at_call 27;refine(blank12 _ _).mono ?_;rintro e w' ⟨rfl,rfl⟩)|(go_at_call 28;refine(span_rem _ _ HZ.out).mono ?_;rintro e w2 ⟨rfl,hb2⟩))
      go_roundg (s.size - pos)
      case measure=>omega
      case rel=>exact⟨_,runEnd remN s pos,b',acc,by have:=HX.out;go_num,by omega,hB',hM1.call hb2⟩
    ·have hb2:blankN (bat s pos)=true:=by rw[←HB2.out blankN sortBlank];exact hbl
     have hlow:bat s pos<128:=by
      rcases Nat.lt_or_ge (bat s pos) 128 with h|h
      ·exact h
      ·rw[sortBlank _ h] at hb2;cases hb2
     obtain⟨b',hB'⟩:=hB.step hp he (dec_low hp hlow) (en':=en) (w:=pos+1) (by omega) hel (fun p h1 h2=>absurd h2 (by omega)) (fun b'=>lex_blank hp hb2) (by omega)
     clear hb2 hlow hB
     go_wp2_with (go_at_call 27;refine(blank12 _ _).mono ?_;rintro e w' ⟨rfl,rfl⟩)
     go_roundg (s.size - pos)
     case measure=>omega
     case rel=>exact⟨_,en,b',acc,rfl,by omega,hB',hM1⟩
  ·have hnx:∀ty,(Instr.next (.pointer (some ⟨w.heap.size+1,0,none⟩)) true ty).run Tryz.prog wr=_:=fun ty=>Lib.run_next_end_at wr (w.heap.size+1) s pos ty hM.iter hp
   have hsz:=hM.sz
   go_wp2_with (first|(at_builtin;refine wpList_append_own _ rfl (.tmp 82) (.tmp 86) 39 rfl (w.heap.size+2) 67 i0 _ 4 40 Tryz.underlying39 hi0 hz0 hz1 hz2 rfl (by decide) _ _ _ rfl (hM.own.alloc _) ⟨wr.heap.size,0,none⟩ 1 1 [.int .i64 0,.int .i64 s.size,.string ⟨#[]⟩,.int .i64 0] rfl rfl (cells4_new _ _ _ _ _ _) cells4_one (by have:=hB.few;unfold maxLen;omega) (by have:=hB.few;omega) (by simp;omega) ?_;intro v' w1 hown' hgrow _;have hM1:=(hM.alloc _).grown hgrow hown';obtain⟨f0,f1,f2,f3⟩:=faultBlock hM1.below)|fail)
   rw[Exit.noGoto_ret]
   refine bodyPost_ret (v:=.tuple #[v',.agg #[.int .i64 0,.int .i64 0]]) (by simp[results,Tryz.results11,go_sem,f0,f1]) rfl ⟨?_,?_⟩
   ·unfold TokPost
    rw[hB.at_end hs hp]
    exact⟨v',rfl,ownsRow_setCell_below (ownsRow_setCell_below hM1.own (by simp) _) (by simp) _⟩
   ·exact((((Below.refl _ _).alloc (Nat.le_refl _) _).trans (hM1.below.mono (by simp))).setCell (by simp) _).setCell (by simp) _
end Go.Proofs.YtdplogkmkgekdaaGreatDoor
namespace Go.Proofs.YtdplogkmkgekdaaGreatDoor.Pj
open Go.RowKit
structure PathL (w:World) (rb tb:Nat) (cap:Cp) (t:Tk) (i:Nat) (most:Nat) (wr:World) (s:ByteArray) (n:Nat) (j:Nat):Prop where
 nx:Nx w rb tb cap t i 0 True wr j 0 0
 le:n≤most
 size:s.size≤6002*n
 ok:∃ns,ns≠[]∧ns.length=n∧(∀n∈ns,n≠[]∧(58:UInt8)∉n)∧s.toList=joinP ns
theorem kindB1_eq {t:Tk} {i:Nat} (hi:i+1<t.len) (q:Int):kindB t i 0 1 q=((t.kind (i+1):Int)==q):=by
 unfold kindB
 simp[hi]
theorem pb_wr {t:Tk} {most n j:Nat} {s:ByteArray} {p:Int} (h1:isB t j 0 0 ⟨#[58,58]⟩=true) (h2:kindB t j 0 1 2=true) (h3:n≠most) (h:Wr (fun _=>gName t) ⟨j+1,0,0⟩ p):Wr (fun _=>gPathB t most (s,n,false)) ⟨j,0,0⟩ p:=
 Wr.snd ev_is (Wr.snd ev_kind (Wr.yes (by rw[h1,h2];rfl) (Wr.no (by simpa using h3) (Wr.sqd ev_add (Wr.fst h (fun _ _=>Sy.ret))))))
theorem pb_wrf {t:Tk} {n j:Nat} {s:ByteArray} (h1:isB t j 0 0 ⟨#[58,58]⟩=true) (h2:kindB t j 0 1 2=true):Wr (fun _=>gPathB t n (s,n,false)) ⟨j,0,0⟩ (t.pos j):=
 Wr.snd ev_is (Wr.snd ev_kind (Wr.yes (by rw[h1,h2];rfl) (Wr.yes (by simp) (Wr.sq wr_bad (fun _=>Sy.ret)))))
theorem pb_sy {t:Tk} {most:Nat} (x:ByteArray × Nat × Bool):Sy (gPathB t most x):=by
 unfold gPathB
 exact syt
theorem gPath_wr {t:Tk} {most i:Nat} {s:ByteArray} {r:Rs} {p:Int} (h1:Ev (fun _=>gName t) ⟨i,0,0⟩ (s,r)) (h2:WrL (fun _=>gPathB t most) (s,1,false) r p):Wr (fun fu=>gPath t fu most) ⟨i,0,0⟩ p:=by
 refine Wr.snd h1 ?_
 exact Wr.fst (x:=fun fu=>loop (gPathB t most) fu (s,1,false)) h2.wr (fun _ _=>Sy.ret)
theorem pathP {w:World} {rb tb i:Nat} {cap:Cp} {t:Tk} (h:Rd w rb tb cap t i 0 0) (most:Nat) (hm1:1≤most) (hm:most≤3):
 Calls Tryz.prog 154 #[.pointer (some ⟨rb,0,none⟩),.int .i64 most] w fun e w'=>(∃s i',e=.returned (.string s)∧s.size≤20000∧Nx w rb tb cap t i 0 True w' i' 0 0∧pathOK most s∧Ev (fun fu=>gPath t fu most) ⟨i,0,0⟩ (s,⟨i',0,0⟩))∨ThrP w rb ⟨i,0,0⟩ (fun fu=>gPath t fu most) e w':=by
 have hfew:(t.len:Int)≤6001:=by have:=h.good.few;omega
 have hfd:=fld67_0
 have HN:Hid (∀s (r:Rs) p,Ev (fun _=>gName t) ⟨i,0,0⟩ (s,r)→WrL (fun _=>gPathB t most) (s,1,false) r p→Wr (fun fu=>gPath t fu most) ⟨i,0,0⟩ p):=fun s r p h1 h2=>gPath_wr h1 h2
 go_enter Tryz.func154,Tryz.ntmps154
 go_wp2_with (go_at_call 88;refine(nameP h).mono ?_;rintro e w1 (⟨s1,i1,rfl,hs1,hx1,ho1,m1⟩|⟨p1,rfl,hk1,m1⟩))
 rotate_left
 ·exact⟨rfl,.inr ⟨p1,rfl,hk1,Wr.fst m1 (fun _ _=>syt)⟩⟩
 go_loopg [5,6] (t.len - i1) (fun g v q wr=>∃(s:ByteArray) (n j:Nat),g=t.len - j∧v=.string s∧q=.int .i64 n∧PathL w rb tb cap t i most wr s n j∧Hid ((∀r,EvL (fun _=>gPathB t most) (s,n,false) ⟨j,0,0⟩ r→Ev (fun fu=>gPath t fu most) ⟨i,0,0⟩ (r.1.1,r.2))∧∀p,WrL (fun _=>gPathB t most) (s,n,false) ⟨j,0,0⟩ p→Wr (fun fu=>gPath t fu most) ⟨i,0,0⟩ p))
 case atStart=>exact⟨s1,1,i1,rfl,rfl,rfl,⟨hx1,hm1,by omega,⟨[s1.toList],by simp,rfl,by simpa[nameOK] using ho1,rfl⟩⟩,fun r hr=>Ev.bnd' m1 (Ev.bnd hr.ev Ev.ret'),fun p hp=>HN.out _ _ _ m1 hp⟩
 case round=>
  obtain⟨s,n,j,hgk,rfl,rfl,hR,HM⟩:=hrel
  have HG:Hid (gk=t.len - j):=hgk
  clear hgk
  have hj:=hR.nx.rd.lt
  have hn:=hR.le
  have hsz:=hR.size
  have HP:Hid (PathL w rb tb cap t i most wr s n j):=hR
  have hrd:=hR.nx.rd
  have HO:Hid (pathOK most s):=by obtain⟨ns,h1,h2,h3,h4⟩:=hR.ok;exact⟨ns,h1,by omega,h3,h4⟩
  cases hb:isB t j 0 0 ⟨#[58,58]⟩
  ·have HB:Hid (isB t j 0 0 ⟨#[58,58]⟩=false):=hb
   go_wp2_with (go_at_call 89;refine(isP hrd _ (ask)).mono ?_;rintro e w3 ⟨rfl,hb3⟩)
   go_ret
   have e3:=HP.out.nx
   exact .inl ⟨s,j,rfl,by omega,⟨e3.rd.below hb3,e3.kp.trans ((Kp.of_below hb3).mono e3.kp.size),e3.le,e3.ok,e3.go⟩,HO.out,HM.out.1 _ (EvL.stop (pb_no (by rw[HB.out];rfl)))⟩
  ·have HB:Hid (isB t j 0 0 ⟨#[58,58]⟩=true):=hb
   have hlt:=(isB_lt h.good hj hb).2
   cases hq:kindB t j 0 1 2
   ·have HQ:Hid (kindB t j 0 1 2=false):=hq
    have hk0:((t.kind (j+1):Int)==2)=false:=(kindB1_eq hlt 2).symm.trans hq
    go_wp2_with (first|(go_at_call 89;refine(isP hrd _ (ask)).mono ?_;rintro e w3 ⟨rfl,hb3⟩)|(go_at_call 166;refine(behindP (hrd.below hb3) hlt).mono ?_;rintro e w4 ⟨rfl,hb4⟩))
    go_ret
    have e3:=HP.out.nx
    exact .inl ⟨s,j,rfl,by omega,⟨(e3.rd.below hb3).below hb4,e3.kp.trans ((Kp.of_below (hb3.trans (hb4.mono hb3.size))).mono e3.kp.size),e3.le,e3.ok,e3.go⟩,HO.out,HM.out.1 _ (EvL.stop (pb_no (by rw[HQ.out];simp)))⟩
   ·have HQ:Hid (kindB t j 0 1 2=true):=hq
    have hk0:((t.kind (j+1):Int)==2)=true:=(kindB1_eq hlt 2).symm.trans hq
    by_cases hnm:n=most
    ·subst hnm
     go_wp2_with (first|(go_at_call 89;refine(isP hrd _ (ask)).mono ?_;rintro e w3 ⟨rfl,hb3⟩)|(go_at_call 166;refine(behindP (hrd.below hb3) hlt).mono ?_;rintro e w4 ⟨rfl,hb4⟩;have h4:=(hrd.below hb3).below hb4)|(go_at_call 164;refine(wrongP h4).mono ?_;rintro e w5 ⟨rfl,hb5⟩))
     have hb34:=hb3.trans (hb4.mono hb3.size)
     have hb345:=hb34.trans (hb5.mono hb34.size)
     have e3:=HP.out.nx
     exact⟨rfl,.inr ⟨_,rfl,e3.kp.trans ((Kp.of_below hb345).mono e3.kp.size),HM.out.2 _ (WrL.here (pb_wrf HB.out HQ.out) (fun _ y=>pb_sy y))⟩⟩
    ·have hnm':((n:Int)==(most:Int))=false:=by simp;omega
     have HNM:Hid (n≠most):=hnm
     go_wp2_with (first|(go_at_call 89;refine(isP hrd _ (ask)).mono ?_;rintro e w3 ⟨rfl,hb3⟩)|(go_at_call 166;refine(behindP (hrd.below hb3) hlt).mono ?_;rintro e w4 ⟨rfl,hb4⟩;have h4:=(hrd.below hb3).below hb4)|(go_at_call 145;refine(takeP h4 hlt).mono ?_;rintro e w5 ⟨rfl,hx5⟩)|(go_at_call 88;refine(nameP hx5.rd).mono ?_;rintro e w6 (⟨s6,i6,rfl,hs6,hx6,ho6,m6⟩|⟨p6,rfl,hk6,m6⟩)))
     ·have hb34:=hb3.trans (hb4.mono hb3.size)
      have e3:=HP.out.nx
      have hkp:Kp w.heap.size rb w w5:=(e3.kp.trans ((Kp.of_below hb34).mono e3.kp.size)).trans (hx5.kp.mono (Nat.le_trans e3.kp.size hb34.size))
      have hP:PathL w rb tb cap t i most w6 (s++(⟨#[58,58]⟩++s6)) (n+1) i6:=by
       refine⟨⟨hx6.rd,hkp.trans (hx6.kp.mono hkp.size),?_,fun e=>e,fun _ _=>?_⟩,by omega,?_,?_⟩
       ·have:=e3.le;have:=hx6.le;omega
       ·have:=e3.le;have:=hx6.le;omega
       ·rw[append_size,append_size];show s.size+(2+s6.size)≤_;omega
       ·obtain⟨ns,h1,h2,h3,h4⟩:=HP.out.ok
        refine⟨ns++[s6.toList],by simp,by simp[h2],fun x hx=>?_,?_⟩
        ·rcases List.mem_append.1 hx with hx|hx
         ·exact h3 x hx
         ·obtain rfl:x=s6.toList:=by simpa using hx
          exact ho6
        ·rw[append_list,append_list,joinP_snoc ns _ h1,h4]
         rw[show(⟨#[58,58]⟩:ByteArray).toList=[58,58] by rw[Lib.toList_data]]
         simp
      have hms:t.len - i6<gk:=by
       rw[HG.out]
       have:=hx6.le
       have:=hx6.rd.lt
       omega
      have hon:=pb_on (s:=s) (f:=false) HB.out HQ.out HNM.out m6
      rw[ByteArray.append_assoc] at hon
      go_roundg (t.len - i6)
      case measure=>exact hms
      case rel=>exact⟨_,n+1,i6,rfl,rfl,by go_num,hP,fun r hr=>HM.out.1 r (EvL.on hon hr),fun p hp=>HM.out.2 p (WrL.on hon hp)⟩
     ·have hb34:=hb3.trans (hb4.mono hb3.size)
      have e3:=HP.out.nx
      have hkp:Kp w.heap.size rb w w5:=(e3.kp.trans ((Kp.of_below hb34).mono e3.kp.size)).trans (hx5.kp.mono (Nat.le_trans e3.kp.size hb34.size))
      exact⟨rfl,.inr ⟨p6,rfl,hkp.trans (hk6.mono hkp.size),HM.out.2 _ (WrL.here (pb_wr HB.out HQ.out HNM.out m6) (fun _ y=>pb_sy y))⟩⟩
end Go.Proofs.YtdplogkmkgekdaaGreatDoor.Pj
namespace Go.Proofs.YtdplogkmkgekdaaGreatDoor.Pj
open Go.RowKit
@[go_sem] theorem run_stf (P:Program) (w:World) (a:Addr) (m:Mode) (fn:Fn) (first captured:Array Value):(store a (.func fn first captured) m).run P w=stored P w a (.func fn first captured) m:=run_store P w a _ m rfl
def firstB (t:Tk) (i:Nat) (es:List Ent):Option Ent:=es.find? (fun e=>isB t i 0 0 e.txt)
def TabsW (w:World) (bd vb:Nat) (tbs:List (Nat × List Ent)):Prop:=∃cs:Array Value,w.heap[vb]? =some (.cells cs 72 (0,0))∧∀(k a:Nat) (es:List Ent),tbs[k]? =some (a,es)→cs[k]? =some (Value.slice (some ⟨a,0,none⟩) es.length es.length)∧TabW w bd a es∧(∀e∈es,e.txt∈askS)∧es.length≤10
def BegP (w:World) (bd:Nat) (t:Tk) (i:Nat) (es:List Ent) (v:Value):Prop:=(∃e,firstB t i es=some e∧EntV w bd e v)∨(firstB t i es=none∧v=.nilFunc)
theorem firstB_at {t:Tk} {i:Nat} {tbs:List (Nat × List Ent)} {k m a:Nat} {es:List Ent} {e:Ent} (hk:tbs[k]? =some (a,es)) (hm:es[m]? =some e) (h1:∀x∈(tbs.take k).flatMap (·.2),isB t i 0 0 x.txt=false) (h2:∀x∈es.take m,isB t i 0 0 x.txt=false) (h:isB t i 0 0 e.txt=true):firstB t i (tbs.flatMap (·.2))=some e:=by
 have e1:tbs=tbs.take k++(a,es)::tbs.drop (k+1):=by
  obtain⟨hlt,hv⟩:=List.getElem?_eq_some_iff.1 hk
  rw[←hv,←List.drop_eq_getElem_cons hlt,List.take_append_drop]
 have e2:es=es.take m++e::es.drop (m+1):=by
  obtain⟨hlt,hv⟩:=List.getElem?_eq_some_iff.1 hm
  rw[←hv,←List.drop_eq_getElem_cons hlt,List.take_append_drop]
 unfold firstB
 rw[e1,List.flatMap_append,List.find?_append,List.find?_eq_none.2 (fun x hx=>by simp[h1 x hx])]
 rw[List.flatMap_cons]
 show((es++_).find? _)=_
 rw[e2,List.append_assoc,List.find?_append,List.find?_eq_none.2 (fun x hx=>by simp[h2 x hx])]
 simp[h]
theorem take_next {α:Type} {l:List α} {m:Nat} {e:α} (hm:l[m]? =some e):l.take (m+1)=l.take m++[e]:=by
 rw[List.take_add_one,hm];rfl
theorem EntV.func {w:World} {bd:Nat} {e:Ent} {v:Value} (h:EntV w bd e v):∃c ts,v=.func c #[] ts:=by
 unfold EntV at h
 split at h
 ·obtain⟨b1,b2,_,_,h3,_⟩:=h
  exact⟨_,_,h3⟩
 ·exact⟨_,_,h⟩
theorem begunP {w:World} {rb tb i:Nat} {cap:Cp} {t:Tk} (h:Rd w rb tb cap t i 0 0) {vb n:Nat} {tbs:List (Nat × List Ent)} (hv:TabsW w cap.bd vb tbs) (hn:n=tbs.length) (hn2:n≤2):
 Calls Tryz.prog 197 #[.pointer (some ⟨rb,0,none⟩),.slice (some ⟨vb,0,none⟩) n n] w fun e w'=>∃v,e=.returned v∧BegP w' cap.bd t i (tbs.flatMap (·.2)) v∧Below w.heap.size w w':=by
 subst hn
 go_enter Tryz.func197,Tryz.ntmps197
 obtain⟨cs,hvb,hcs⟩:=hv
 have hvl:vb<w.heap.size:=(Array.getElem?_eq_some_iff.1 hvb).1
 have HV:Hid (w.heap[vb]? =some (.cells cs 72 (0,0))):=hvb
 have HC:=Hid_nx hcs
 have hbr:=h.bl
 have hrl:=h.l
 clear hvb hcs
 go_wp2_with fail
 go_loopg [11] (tbs.length) (fun g v wr=>∃k:Nat,g=tbs.length - k∧v=.int .i64 k∧k≤tbs.length∧Below w.heap.size w wr∧Hid (∀x∈(tbs.take k).flatMap (·.2),isB t i 0 0 x.txt=false))
 case atStart=>exact⟨0,rfl,rfl,by omega,Below.refl _ _,fun x hx=>by simp at hx⟩
 case round=>
  obtain⟨k,hgk,rfl,hkn,hb1,HF⟩:=hrel
  have HG:Hid (gk=tbs.length - k):=hgk
  clear hgk
  rcases Nat.lt_or_ge k tbs.length with hk|hk
  ·obtain⟨⟨a,es⟩,hes⟩:∃x,tbs[k]? =some x:=⟨_,List.getElem?_eq_getElem (by omega)⟩
   obtain⟨x1,x2,x3,x4⟩:=HC.out k a es hes
   have hes10:=x4
   have ck:wr.cell? ⟨vb,k,none⟩=some (.slice (some ⟨a,0,none⟩) es.length es.length):=by
    rw[cell_of_row wr vb k _ 72 (0,0) ((hb1.block vb hvl).trans HV.out)]
    exact x1
   have hkI:(k:Int)<(tbs.length:Int):=by omega
   have X2:Hid (TabW w cap.bd a es):=x2
   have X3:Hid (∀e∈es,e.txt∈askS):=x3
   have HES:Hid (tbs[k]? =some (a,es)):=hes
   clear x1 x2 x3 hes
   go_wp2_with fail
   go_loopg [17] (es.length) (fun g v wr2=>∃m:Nat,g=es.length - m∧v=.int .i64 m∧m≤es.length∧Below w.heap.size w wr2∧Hid (∀x∈es.take m,isB t i 0 0 x.txt=false))
   case atStart=>exact⟨0,rfl,rfl,by omega,hb1,fun x hx=>by simp at hx⟩
   case round=>
    obtain⟨m,hgm,rfl,hmn,hb2,HF2⟩:=hrel
    have HG2:Hid (gk=es.length - m):=hgm
    clear hgm
    rcases Nat.lt_or_ge m es.length with hm|hm
    ·obtain⟨e,he⟩:∃x,es[m]? =some x:=⟨_,List.getElem?_eq_getElem hm⟩
     obtain⟨ha,cs2,hc2,hcs2⟩:=X2.out
     obtain⟨y1,v,y2,y3⟩:=hcs2 m e he
     have hal:a<w.heap.size:=by omega
     have c0:wr.cell? ⟨a,m*2,none⟩=some (.string e.txt):=by
      rw[cell_of_row wr a _ _ 94 (0,0) ((hb2.block a hal).trans hc2)]
      exact y1
     have c1:wr.cell? ⟨a,m*2+1,none⟩=some v:=by
      rw[cell_of_row wr a _ _ 94 (0,0) ((hb2.block a hal).trans hc2)]
      exact y2
     have hmI:(m:Int)<(es.length:Int):=by omega
     have HE:Hid (es[m]? =some e):=he
     have HA:Hid (e.txt∈askS):=X3.out e (List.mem_of_getElem? he)
     obtain⟨cc,ts,rfl⟩:=EntV.func y3
     have HV2:Hid (EntV w cap.bd e (.func cc #[] ts)):=y3
     have hrd:=h.below hb2
     have hsz:=hb2.size
     clear y1 y2 y3 hc2 hcs2 he
     cases hb:isB t i 0 0 e.txt
     ·have HB:Hid (isB t i 0 0 e.txt=false):=hb
      go_wp2_with (go_at_call 89;refine(isP (hrd.alloc _) _ HA.out).mono ?_;rintro e w3 ⟨rfl,hb3⟩)
      have hb4:Below w.heap.size w w3:=(hb2.alloc hsz _).trans (hb3.mono (by simp;omega))
      go_roundg (es.length - (m+1))
      case measure=>rw[HG2.out];omega
      case rel=>exact⟨m+1,rfl,by go_num,by omega,hb4,fun x hx=>by
       rw[take_next HE.out] at hx
       rcases List.mem_append.1 hx with hx|hx
       ·exact HF2.out x hx
       ·obtain rfl:x=e:=by simpa using hx
        exact HB.out⟩
     ·have HB:Hid (isB t i 0 0 e.txt=true):=hb
      go_wp2_with (go_at_call 89;refine(isP (hrd.alloc _) _ HA.out).mono ?_;rintro e w3 ⟨rfl,hb3⟩;obtain⟨hc3,hf3⟩:=bcell hb3)
      go_ret
      have hb4:Below w.heap.size w w3:=(hb2.alloc hsz _).trans (hb3.mono (by simp;omega))
      exact⟨_,rfl,.inl ⟨e,firstB_at HES.out HE.out HF.out HF2.out HB.out,HV2.out.of (fun j hj=>hb4.block j (by omega))⟩,hb4⟩
    ·have hmI:((m:Int)<(es.length:Int))=False:=by simp;omega
     have HM:Hid (m=es.length):=by show m=es.length;omega
     go_wp2_with fail
     go_roundg (tbs.length - (k+1))
     case measure=>rw[HG.out];omega
     case rel=>exact⟨k+1,rfl,by go_num,by omega,hb2,fun x hx=>by
      rw[take_next HES.out,List.flatMap_append] at hx
      rcases List.mem_append.1 hx with hx|hx
      ·exact HF.out x hx
      ·have hx2:x∈es:=by simpa using hx
       exact HF2.out x (by rw[HM.out,List.take_length];exact hx2)⟩
  ·have hkI:((k:Int)<(tbs.length:Int))=False:=by simp;omega
   have HK:Hid (k=tbs.length):=by show k=tbs.length;omega
   go_wp2_with fail
   go_ret
   refine⟨_,rfl,.inr ⟨List.find?_eq_none.2 (fun x hx=>?_),rfl⟩,hb1⟩
   have:=HF.out x (by rw[HK.out,List.take_length];exact hx)
   simp[this]
end Go.Proofs.YtdplogkmkgekdaaGreatDoor.Pj
