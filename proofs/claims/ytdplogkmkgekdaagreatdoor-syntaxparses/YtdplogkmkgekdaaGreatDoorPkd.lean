/- What throws: the grammar answers that fault; a call that throws; the end of a path that does, by a script. -/
import Derived.Test.YtdplogkmkgekdaaGreatDoorLxm
import Derived.Test.YtdplogkmkgekdaaGreatDoorRef
import Derived.Test.YtdplogkmkgekdaaGreatDoorGmd
import Derived.Test.YtdplogkmkgekdaaGreatDoorGmb
import Derived.Test.YtdplogkmkgekdaaGreatDoorPkc
set_option linter.all false
set_option maxRecDepth 100000
set_option maxHeartbeats 4000000
namespace Go.Proofs.YtdplogkmkgekdaaGreatDoor
open Go.RowKit
theorem blank12 (c:Nat) (w:World):Calls Tryz.prog 27 #[.int .i32 c] w fun e w'=>e=.returned (.bool (blankN c))∧w'=w:=by
 rcases(show c=32∨c=9∨c=10∨(c≠32∧c≠9∧c≠10) by omega) with rfl|rfl|rfl|⟨h1,h2,h3⟩
 ·go_enter Tryz.func27,Tryz.ntmps27
  go_wp2
  go_ret
  exact⟨rfl,rfl⟩
 ·go_enter Tryz.func27,Tryz.ntmps27
  go_wp2
  go_ret
  exact⟨rfl,rfl⟩
 ·go_enter Tryz.func27,Tryz.ntmps27
  go_wp2
  go_ret
  exact⟨rfl,rfl⟩
 ·have b1:((c:Int)==32)=false:=by simp;omega
  have b2:((c:Int)==9)=false:=by simp;omega
  have b3:((c:Int)==10)=false:=by simp;omega
  have e:blankN c=false:=by simp[blankN];omega
  have HE:Hid (blankN c=false):=e
  clear e h1 h2 h3
  go_enter Tryz.func27,Tryz.ntmps27
  go_wp2
  go_ret
  exact⟨by rw[HE.out];rfl,rfl⟩
theorem remark14 (c:Nat) (w:World):Calls Tryz.prog 29 #[.int .i32 c] w fun e w'=>e=.returned (.bool (remN c))∧w'=w:=by
 go_enter Tryz.func29,Tryz.ntmps29
 go_wp2
 go_ret
 exact⟨ret_bool (by rw[remN,Bool.eq_iff_iff];simp;omega),rfl⟩
theorem digit19 (c:Nat) (w:World):Calls Tryz.prog 55 #[.int .i32 c] w fun e w'=>e=.returned (.bool (digN c))∧w'=w:=by
 rcases(show(48:Int)≤c∧(c:Int)≤57∨(57:Int)<c∨(c:Int)<48 by omega) with⟨h1,h2⟩|h1|h1
 all_goals
  go_enter Tryz.func55,Tryz.ntmps55
  go_wp2
  go_ret
  exact⟨ret_bool (by first|(rw[show digN c=true by simp only[digN,decide_eq_true_eq];omega];done)|(rw[show digN c=false by simp only[digN,decide_eq_false_iff_not];omega];done)|(rw[show digN c=false by simp only[digN,decide_eq_false_iff_not];omega];simp;omega)),rfl⟩
theorem letter32 (c:Nat) (w:World):Calls Tryz.prog 132 #[.int .i32 c] w fun e w'=>e=.returned (.bool (letN c))∧w'=w:=by
 rcases(show(97:Int)≤c∧(c:Int)≤122∨(122:Int)<c∨(65:Int)≤c∧(c:Int)≤90∨(90:Int)<c∧(c:Int)<97∨(c:Int)<65 by omega) with⟨h1,h2⟩|h1|⟨h1,h2⟩|⟨h1,h2⟩|h1
 all_goals
  go_enter Tryz.func132,Tryz.ntmps132
  go_wp2
  go_ret
  exact⟨ret_bool (by first|(rw[show letN c=true by simp only[letN,decide_eq_true_eq];omega];done)|(rw[show letN c=false by simp only[letN,decide_eq_false_iff_not];omega];first|done|rfl|(simp;omega))),rfl⟩
theorem inName33 (c:Nat) (w:World):Calls Tryz.prog 133 #[.int .i32 c] w fun e w'=>e=.returned (.bool (namN c))∧w'=w:=by
 cases hl:letN c
 ·cases hd:digN c
  ·go_enter Tryz.func133,Tryz.ntmps133
   go_wp2_with (first|(go_at_call 132;refine(letter32 _ _).mono ?_;rintro e w' ⟨rfl,rfl⟩)|(go_at_call 55;refine(digit19 _ _).mono ?_;rintro e w' ⟨rfl,rfl⟩))
   go_ret
   exact⟨ret_bool (by rw[namN,hl,hd,Bool.eq_iff_iff];simp;omega),rfl⟩
  ·go_enter Tryz.func133,Tryz.ntmps133
   go_wp2_with (first|(go_at_call 132;refine(letter32 _ _).mono ?_;rintro e w' ⟨rfl,rfl⟩)|(go_at_call 55;refine(digit19 _ _).mono ?_;rintro e w' ⟨rfl,rfl⟩))
   go_ret
   exact⟨ret_bool (by rw[namN,hl,hd];rfl),rfl⟩
 ·go_enter Tryz.func133,Tryz.ntmps133
  go_wp2_with (first|(go_at_call 132;refine(letter32 _ _).mono ?_;rintro e w' ⟨rfl,rfl⟩)|(go_at_call 55;refine(digit19 _ _).mono ?_;rintro e w' ⟨rfl,rfl⟩))
  go_ret
  exact⟨ret_bool (by rw[namN,hl];rfl),rfl⟩
theorem dec_same {p:Nat→Bool} {b:Bool} (hp:∀c,128≤c→p c=b) {s:ByteArray} {q:Nat} (hq:q<s.size):p (Utf8.decode s q).1=p (bat s q):=by
 by_cases h:bat s q<128
 ·rw[dec_low hq h]
 ·rw[hp _ (dec_high hq (by omega)),hp _ (by omega)]
theorem dec_all {p:Nat→Bool} {b:Bool} (hp:∀c,128≤c→p c=b) {s:ByteArray} {q:Nat} (hq:q<s.size) (ht:p (bat s q)=true) (hall:∀j,j<q→p (bat s j)=true):∀j,j<q+(Utf8.decode s q).2→p (bat s j)=true:=by
 intro j hj
 rcases Nat.lt_trichotomy j q with h|h|h
 ·exact hall j h
 ·rw[h];exact ht
 ·by_cases hb:bat s q<128
  ·rw[dec_low hq hb] at hj;simp at hj;omega
  ·have h1:=(dec_width s q hq).2.2 (j - q) (by omega) (by omega)
   rw[show q+(j - q)=j by omega] at h1
   rw[hp _ h1,←hp _ (show 128≤bat s q by omega),ht]
theorem sortDig:∀c,128≤c→digN c=false:=fun c h=>by simp only[digN,decide_eq_false_iff_not];omega
theorem sortLet:∀c,128≤c→letN c=false:=fun c h=>by simp only[letN,decide_eq_false_iff_not];omega
theorem sortNam:∀c,128≤c→namN c=false:=fun c h=>by simp[namN,sortDig c h,sortLet c h];omega
theorem sortRem:∀c,128≤c→remN c=true:=fun c h=>by simp[remN];omega
theorem span_dig (s:ByteArray) (w:World) (_hs:s.size≤6000):Calls Tryz.prog 28 #[.string s,.func (.func 55) #[] #[]] w fun e w'=>e=.returned (.int .i64 (runEnd digN s 0))∧Below w.heap.size w w':=by
 go_enter Tryz.func28,Tryz.ntmps28
 go_wp2_with fail
 go_loopw [5] (fun _ w'=>∃q:Nat,w'=w.iter s q∧q≤s.size∧∀j,j<q→digN (bat s j)=true) (fun _ w'=>s.size - w'.iterPos w.heap.size)
 case atStart=>exact⟨0,rfl,Nat.zero_le _,fun j hj=>absurd hj (by omega)⟩
 case round=>
  obtain⟨q,rfl,hq,hall⟩:=hrel
  have HA:Hid (∀j,j<q→digN (bat s j)=true):=hall
  clear hall
  by_cases hlt:q<s.size
  ·have hnx:∀ty,(Instr.next (.pointer (some ⟨w.heap.size,0,none⟩)) true ty).run Tryz.prog (w.iter s q)=_:=fun ty=>run_next_any w s q ty hlt
   have hd:=dec_width s q hlt
   obtain⟨hd1,hd2,_⟩:=hd
   have HS:Hid (digN (Utf8.decode s q).1=digN (bat s q)):=dec_same sortDig hlt
   cases hp:digN (Utf8.decode s q).1
   ·go_wp2_with (go_at_call 55;refine(digit19 _ _).mono ?_;rintro e w' ⟨rfl,rfl⟩)
    go_ret
    refine⟨ret_int ?_,(Below.refl _ _).alloc (Nat.le_refl _) _⟩
    rw[runEnd_eq (Nat.zero_le q) hq (fun j _ hj=>HA.out j hj) (fun _=>by rw[←HS.out];exact hp)]
   ·go_wp2_with (go_at_call 55;refine(digit19 _ _).mono ?_;rintro e w' ⟨rfl,rfl⟩)
    go_roundw
    case rel=>exact⟨_,rfl,hd2,dec_all sortDig hlt (by rw[←HS.out];exact hp) HA.out⟩
    case measure=>simp;omega
  ·have hnx:∀ty,(Instr.next (.pointer (some ⟨w.heap.size,0,none⟩)) true ty).run Tryz.prog (w.iter s q)=_:=fun ty=>run_next_end w s q ty hlt
   go_wp2_with fail
   go_ret
   refine⟨ret_int ?_,(Below.refl _ _).alloc (Nat.le_refl _) _⟩
   rw[runEnd_eq (Nat.zero_le q) hq (fun j _ hj=>HA.out j hj) (fun h=>absurd h hlt),show q=s.size by omega]
theorem span_let (s:ByteArray) (w:World) (_hs:s.size≤6000):Calls Tryz.prog 28 #[.string s,.func (.func 132) #[] #[]] w fun e w'=>e=.returned (.int .i64 (runEnd letN s 0))∧Below w.heap.size w w':=by
 go_enter Tryz.func28,Tryz.ntmps28
 go_wp2_with fail
 go_loopw [5] (fun _ w'=>∃q:Nat,w'=w.iter s q∧q≤s.size∧∀j,j<q→letN (bat s j)=true) (fun _ w'=>s.size - w'.iterPos w.heap.size)
 case atStart=>exact⟨0,rfl,Nat.zero_le _,fun j hj=>absurd hj (by omega)⟩
 case round=>
  obtain⟨q,rfl,hq,hall⟩:=hrel
  have HA:Hid (∀j,j<q→letN (bat s j)=true):=hall
  clear hall
  by_cases hlt:q<s.size
  ·have hnx:∀ty,(Instr.next (.pointer (some ⟨w.heap.size,0,none⟩)) true ty).run Tryz.prog (w.iter s q)=_:=fun ty=>run_next_any w s q ty hlt
   have hd:=dec_width s q hlt
   obtain⟨hd1,hd2,_⟩:=hd
   have HS:Hid (letN (Utf8.decode s q).1=letN (bat s q)):=dec_same sortLet hlt
   cases hp:letN (Utf8.decode s q).1
   ·go_wp2_with (go_at_call 132;refine(letter32 _ _).mono ?_;rintro e w' ⟨rfl,rfl⟩)
    go_ret
    refine⟨ret_int ?_,(Below.refl _ _).alloc (Nat.le_refl _) _⟩
    rw[runEnd_eq (Nat.zero_le q) hq (fun j _ hj=>HA.out j hj) (fun _=>by rw[←HS.out];exact hp)]
   ·go_wp2_with (go_at_call 132;refine(letter32 _ _).mono ?_;rintro e w' ⟨rfl,rfl⟩)
    go_roundw
    case rel=>exact⟨_,rfl,hd2,dec_all sortLet hlt (by rw[←HS.out];exact hp) HA.out⟩
    case measure=>simp;omega
  ·have hnx:∀ty,(Instr.next (.pointer (some ⟨w.heap.size,0,none⟩)) true ty).run Tryz.prog (w.iter s q)=_:=fun ty=>run_next_end w s q ty hlt
   go_wp2_with fail
   go_ret
   refine⟨ret_int ?_,(Below.refl _ _).alloc (Nat.le_refl _) _⟩
   rw[runEnd_eq (Nat.zero_le q) hq (fun j _ hj=>HA.out j hj) (fun h=>absurd h hlt),show q=s.size by omega]
theorem span_nam (s:ByteArray) (w:World) (_hs:s.size≤6000):Calls Tryz.prog 28 #[.string s,.func (.func 133) #[] #[]] w fun e w'=>e=.returned (.int .i64 (runEnd namN s 0))∧Below w.heap.size w w':=by
 go_enter Tryz.func28,Tryz.ntmps28
 go_wp2_with fail
 go_loopw [5] (fun _ w'=>∃q:Nat,w'=w.iter s q∧q≤s.size∧∀j,j<q→namN (bat s j)=true) (fun _ w'=>s.size - w'.iterPos w.heap.size)
 case atStart=>exact⟨0,rfl,Nat.zero_le _,fun j hj=>absurd hj (by omega)⟩
 case round=>
  obtain⟨q,rfl,hq,hall⟩:=hrel
  have HA:Hid (∀j,j<q→namN (bat s j)=true):=hall
  clear hall
  by_cases hlt:q<s.size
  ·have hnx:∀ty,(Instr.next (.pointer (some ⟨w.heap.size,0,none⟩)) true ty).run Tryz.prog (w.iter s q)=_:=fun ty=>run_next_any w s q ty hlt
   have hd:=dec_width s q hlt
   obtain⟨hd1,hd2,_⟩:=hd
   have HS:Hid (namN (Utf8.decode s q).1=namN (bat s q)):=dec_same sortNam hlt
   cases hp:namN (Utf8.decode s q).1
   ·go_wp2_with (go_at_call 133;refine(inName33 _ _).mono ?_;rintro e w' ⟨rfl,rfl⟩)
    go_ret
    refine⟨ret_int ?_,(Below.refl _ _).alloc (Nat.le_refl _) _⟩
    rw[runEnd_eq (Nat.zero_le q) hq (fun j _ hj=>HA.out j hj) (fun _=>by rw[←HS.out];exact hp)]
   ·go_wp2_with (go_at_call 133;refine(inName33 _ _).mono ?_;rintro e w' ⟨rfl,rfl⟩)
    go_roundw
    case rel=>exact⟨_,rfl,hd2,dec_all sortNam hlt (by rw[←HS.out];exact hp) HA.out⟩
    case measure=>simp;omega
  ·have hnx:∀ty,(Instr.next (.pointer (some ⟨w.heap.size,0,none⟩)) true ty).run Tryz.prog (w.iter s q)=_:=fun ty=>run_next_end w s q ty hlt
   go_wp2_with fail
   go_ret
   refine⟨ret_int ?_,(Below.refl _ _).alloc (Nat.le_refl _) _⟩
   rw[runEnd_eq (Nat.zero_le q) hq (fun j _ hj=>HA.out j hj) (fun h=>absurd h hlt),show q=s.size by omega]
theorem span_rem (s:ByteArray) (w:World) (_hs:s.size≤6000):Calls Tryz.prog 28 #[.string s,.func (.func 29) #[] #[]] w fun e w'=>e=.returned (.int .i64 (runEnd remN s 0))∧Below w.heap.size w w':=by
 go_enter Tryz.func28,Tryz.ntmps28
 go_wp2_with fail
 go_loopw [5] (fun _ w'=>∃q:Nat,w'=w.iter s q∧q≤s.size∧∀j,j<q→remN (bat s j)=true) (fun _ w'=>s.size - w'.iterPos w.heap.size)
 case atStart=>exact⟨0,rfl,Nat.zero_le _,fun j hj=>absurd hj (by omega)⟩
 case round=>
  obtain⟨q,rfl,hq,hall⟩:=hrel
  have HA:Hid (∀j,j<q→remN (bat s j)=true):=hall
  clear hall
  by_cases hlt:q<s.size
  ·have hnx:∀ty,(Instr.next (.pointer (some ⟨w.heap.size,0,none⟩)) true ty).run Tryz.prog (w.iter s q)=_:=fun ty=>run_next_any w s q ty hlt
   have hd:=dec_width s q hlt
   obtain⟨hd1,hd2,_⟩:=hd
   have HS:Hid (remN (Utf8.decode s q).1=remN (bat s q)):=dec_same sortRem hlt
   cases hp:remN (Utf8.decode s q).1
   ·go_wp2_with (go_at_call 29;refine(remark14 _ _).mono ?_;rintro e w' ⟨rfl,rfl⟩)
    go_ret
    refine⟨ret_int ?_,(Below.refl _ _).alloc (Nat.le_refl _) _⟩
    rw[runEnd_eq (Nat.zero_le q) hq (fun j _ hj=>HA.out j hj) (fun _=>by rw[←HS.out];exact hp)]
   ·go_wp2_with (go_at_call 29;refine(remark14 _ _).mono ?_;rintro e w' ⟨rfl,rfl⟩)
    go_roundw
    case rel=>exact⟨_,rfl,hd2,dec_all sortRem hlt (by rw[←HS.out];exact hp) HA.out⟩
    case measure=>simp;omega
  ·have hnx:∀ty,(Instr.next (.pointer (some ⟨w.heap.size,0,none⟩)) true ty).run Tryz.prog (w.iter s q)=_:=fun ty=>run_next_end w s q ty hlt
   go_wp2_with fail
   go_ret
   refine⟨ret_int ?_,(Below.refl _ _).alloc (Nat.le_refl _) _⟩
   rw[runEnd_eq (Nat.zero_le q) hq (fun j _ hj=>HA.out j hj) (fun h=>absurd h hlt),show q=s.size by omega]
end Go.Proofs.YtdplogkmkgekdaaGreatDoor
namespace Go.Proofs.YtdplogkmkgekdaaGreatDoor
section
variable {α β σ:Type}
def Wr (m:Nat→GP α) (s:Rs) (p:Int):Prop:=∃n0,∀n,n0≤n→∀r,m n s=some r→r.2.k=4∧r.2.a=p
theorem Wr.ev {m:Nat→GP α} {s:Rs} {p:Int} {r:α × Rs} (h:Wr m s p) (h2:Ev m s r):r.2.k=4∧r.2.a=p:=by
 obtain⟨a,ha⟩:=h
 obtain⟨b,hb⟩:=h2
 exact ha (max a b) (Nat.le_max_left _ _) r (hb _ (Nat.le_max_right _ _))
theorem Wr.fst {x:Nat→GP α} {f:Nat→α→GP β} {s:Rs} {p:Int} (h:Wr x s p) (hs:∀n y,Sy (f n y)):Wr (fun n=>bnd (x n) (f n)) s p:=by
 obtain⟨a,ha⟩:=h
 refine⟨a,fun n hn r hr=>?_⟩
 obtain⟨q,h1,h2⟩:=bnd_some hr
 obtain⟨h3,h4⟩:=ha n hn q h1
 have h5:=(hs n q.1 q.2 r h2).2 (by rw[h3];decide)
 exact⟨h5.1.trans h3,h5.2.trans h4⟩
theorem Wr.sq {x:Nat→GP α} {y:Nat→GP β} {s:Rs} {p:Int} (h:Wr x s p) (hs:∀n,Sy (y n)):Wr (fun n=>seq (x n) (y n)) s p:=Wr.fst h (fun n _=>hs n)
theorem Wr.snd {x:Nat→GP α} {f:Nat→α→GP β} {s s2:Rs} {y:α} {p:Int} (h1:Ev x s (y,s2)) (h2:Wr (fun n=>f n y) s2 p):Wr (fun n=>bnd (x n) (f n)) s p:=by
 obtain⟨a,ha⟩:=h1
 obtain⟨b,hb⟩:=h2
 refine⟨max a b,fun n hn r hr=>?_⟩
 have e:=ha n (Nat.le_trans (Nat.le_max_left _ _) hn)
 have hr2:bnd (x n) (f n) s=some r:=hr
 rw[bnd_q e] at hr2
 exact hb n (Nat.le_trans (Nat.le_max_right _ _) hn) r hr2
theorem Wr.sqd {x:Nat→GP α} {y:Nat→GP β} {s s2:Rs} {u:α} {p:Int} (h1:Ev x s (u,s2)) (h2:Wr y s2 p):Wr (fun n=>seq (x n) (y n)) s p:=Wr.snd h1 h2
theorem Wr.yes {b:Bool} {x y:Nat→GP α} {s:Rs} {p:Int} (hb:b=true) (h:Wr x s p):Wr (fun n=>cond b (x n) (y n)) s p:=by subst hb;exact h
theorem Wr.no {b:Bool} {x y:Nat→GP α} {s:Rs} {p:Int} (hb:b=false) (h:Wr y s p):Wr (fun n=>cond b (x n) (y n)) s p:=by subst hb;exact h
theorem Wr.up {m m':Nat→GP α} {s:Rs} {p:Int} (h:Wr m s p) (e:∀n,m' (n+1)=m n):Wr m' s p:=by
 obtain⟨a,ha⟩:=h
 refine⟨a+1,fun n hn=>?_⟩
 obtain⟨n,rfl⟩:∃m,n=m+1:=⟨n - 1,by omega⟩
 rw[e n]
 exact ha n (by omega)
def WrL (b:Nat→σ→GP (Bool × σ)) (x:σ) (s:Rs) (p:Int):Prop:=∃n0,∀n l,n0≤n→n0≤l→∀r,loop (b n) l x s=some r→r.2.k=4∧r.2.a=p
theorem WrL.wr {b:Nat→σ→GP (Bool × σ)} {x:σ} {s:Rs} {p:Int} (h:WrL b x s p):Wr (fun n=>loop (b n) n x) s p:=by
 obtain⟨a,ha⟩:=h
 exact⟨a,fun n hn=>ha n n hn hn⟩
theorem WrL.on {b:Nat→σ→GP (Bool × σ)} {x y:σ} {s s2:Rs} {p:Int} (h1:Ev (fun n=>b n x) s ((true,y),s2)) (h2:WrL b y s2 p):WrL b x s p:=by
 obtain⟨a,ha⟩:=h1
 obtain⟨c,hc⟩:=h2
 refine⟨max a c+1,fun n l hn hl r hr=>?_⟩
 have h3:=Nat.le_max_left a c
 have h4:=Nat.le_max_right a c
 obtain⟨l,rfl⟩:∃m,l=m+1:=⟨l - 1,by omega⟩
 have e1:=ha n (by omega)
 have e2:bnd (b n x) (fun r=>cond r.1 (loop (b n) l r.2) (ret r.2)) s=some r:=hr
 rw[bnd_q e1] at e2
 exact hc n l (by omega) (by omega) r e2
theorem WrL.here {b:Nat→σ→GP (Bool × σ)} {x:σ} {s:Rs} {p:Int} (h1:Wr (fun n=>b n x) s p) (hs:∀n y,Sy (b n y)):WrL b x s p:=by
 obtain⟨a,ha⟩:=h1
 refine⟨a+1,fun n l hn hl r hr=>?_⟩
 obtain⟨l,rfl⟩:∃m,l=m+1:=⟨l - 1,by omega⟩
 have e2:bnd (b n x) (fun r=>cond r.1 (loop (b n) l r.2) (ret r.2)) s=some r:=hr
 obtain⟨q,h1,h2⟩:=bnd_some e2
 obtain⟨h3,h4⟩:=ha n (by omega) q h1
 have h5:=((Sy.cond (Sy.loop (hs n) l q.1.2) Sy.ret:Sy (cond q.1.1 (loop (b n) l q.1.2) (ret q.1.2))) q.2 r h2).2 (by rw[h3];decide)
 exact⟨h5.1.trans h3,h5.2.trans h4⟩
end
section
variable {t:Tk} {i:Nat}
theorem wr_bad:Wr (fun _=>gBad t) ⟨i,0,0⟩ (t.pos i):=⟨0,fun _ _ r h=>by
 unfold gBad at h
 simp at h
 rw[←h]
 exact⟨rfl,rfl⟩⟩
theorem wr_want {w:ByteArray} (h:isB t i 0 0 w=false):Wr (fun _=>gWant t w) ⟨i,0,0⟩ (t.pos i):=Wr.snd (ev_eno h) (Wr.no rfl wr_bad)
theorem wr_name (h:kindB t i 0 0 2=false):Wr (fun _=>gName t) ⟨i,0,0⟩ (t.pos i):=Wr.snd ev_kind (Wr.no h (Wr.sq wr_bad (fun _=>Sy.ret)))
end
theorem syt {α:Type} {x:GP α} (h:Sy x:=by
 repeat' (first
  |with_reducible exact Sy.ret
  |with_reducible assumption
  |with_reducible exact gG_st _ _ _
  |exact st_gOk
  |with_reducible apply st_gAdd
  |with_reducible apply st_gBad
  |with_reducible apply st_gEat
  |with_reducible apply st_gIs
  |with_reducible apply st_gKind
  |with_reducible apply st_gAt
  |with_reducible apply st_gTk
  |with_reducible apply st_gText
  |with_reducible apply st_gNum
  |with_reducible apply st_gSign
  |with_reducible apply st_gWant
  |with_reducible apply st_gName
  |with_reducible apply st_gPath
  |with_reducible apply st_gLife
  |with_reducible apply st_gRow
  |with_reducible apply st_gList
  |with_reducible apply st_gLifeName
  |with_reducible apply st_gMut
  |with_reducible apply st_gMutOnce
  |with_reducible apply st_gRef
  |with_reducible apply st_gArgs
  |with_reducible apply st_gPathNode
  |with_reducible apply st_gBounds
  |with_reducible apply st_gGens
  |with_reducible apply st_gChain
  |with_reducible apply st_gChainS
  |with_reducible apply st_gMul
  |with_reducible apply st_gAddE
  |with_reducible apply st_gCmp
  |with_reducible apply st_gAndE
  |with_reducible apply st_gOrE
  |with_reducible apply st_gExpr
  |with_reducible apply st_gUnary
  |with_reducible apply st_gPostfix
  |with_reducible apply st_gWritten
  |with_reducible apply st_gTyp
  |with_reducible apply st_gBlock
  |with_reducible apply st_gLet
  |with_reducible apply st_gCaps
  |with_reducible apply st_gParams
  |with_reducible apply st_gResult
  |with_reducible apply st_gIf
  |with_reducible apply st_gMatch
  |with_reducible apply st_gMake
  |with_reducible apply st_gClosure
  |with_reducible apply st_gPattern
  |with_reducible apply st_gWorded
  |with_reducible apply st_gPrimary
  |with_reducible apply st_gHead
  |with_reducible apply st_gStruct
  |with_reducible apply st_gEnum
  |with_reducible apply st_gImpl
  |with_reducible apply st_gItem
  |with_reducible apply st_gModule
  |with_reducible apply Sy.bnd
  |with_reducible apply Sy.seq
  |with_reducible apply Sy.cond
  |with_reducible apply Sy.ite
  |with_reducible apply Sy.loop
  |intro)):Sy x:=h
theorem wrt {α:Type} {m:Nat→GP α} {s:Rs} {p:Int} (h:Wr m s p:=by
 repeat' (first
  |with_reducible assumption
  |with_reducible rfl
  |with_reducible exact Wr.fst ‹_› (fun _ _=>syt)
  |with_reducible exact Wr.sq ‹_› (fun _=>syt)
  |with_reducible exact wr_bad
  |with_reducible exact wr_want ‹_›
  |with_reducible exact Wr.sq wr_bad (fun _=>syt)
  |with_reducible exact Wr.sq (wr_want ‹_›) (fun _=>syt)
  |with_reducible refine Wr.snd ev_at ?_
  |with_reducible refine Wr.snd ev_is ?_
  |with_reducible refine Wr.snd ev_kind ?_
  |with_reducible refine Wr.snd ev_ok ?_
  |with_reducible refine Wr.snd ev_tk ?_
  |with_reducible refine Wr.snd ev_text ?_
  |with_reducible refine Wr.snd ev_num ?_
  |with_reducible refine Wr.sqd ev_add ?_
  |with_reducible refine Wr.sqd Ev.ret' ?_
  |with_reducible refine Wr.snd Ev.ret' ?_
  |with_reducible refine Wr.snd ‹_› ?_
  |with_reducible refine Wr.sqd ‹_› ?_
  |with_reducible refine Wr.yes rfl ?_
  |with_reducible refine Wr.no rfl ?_
  |with_reducible refine Wr.yes ‹_› ?_
  |with_reducible refine Wr.no ‹_› ?_
  |with_reducible refine Wr.snd (ev_eno ‹_›) ?_
  |with_reducible refine Wr.snd (ev_eyes ‹_›) ?_
  |with_reducible refine Wr.sqd (ev_wyes ‹_›) ?_
  |with_reducible refine Wr.yes (or_l ‹_›) ?_
  |with_reducible refine Wr.yes (and_y ‹_› ‹_›) ?_
  |with_reducible refine Wr.yes (or_r ‹_›) ?_
  |with_reducible refine Wr.yes (or_r (or_l ‹_›)) ?_
  |with_reducible refine Wr.yes (or_r (or_r (or_l ‹_›))) ?_
  |with_reducible refine Wr.yes (or_r (or_r (or_r (or_l ‹_›)))) ?_
  |with_reducible refine Wr.yes (or_r (or_r (or_r (or_r ‹_›)))) ?_
  |with_reducible refine Wr.yes (or_r (or_r (or_r ‹_›))) ?_
  |with_reducible refine Wr.yes (or_r (or_r ‹_›)) ?_
  |with_reducible refine Wr.yes (and_y ‹_› (not_n ‹_›)) ?_
  |with_reducible refine Wr.yes (and_y ‹_› (or_l ‹_›)) ?_
  |with_reducible refine Wr.yes (and_y ‹_› (or_r ‹_›)) ?_
  |with_reducible refine Wr.yes (not_n ‹_›) ?_
  |with_reducible refine Wr.yes ((size0 _).trans ‹_›) ?_
  |with_reducible refine Wr.yes (and_y rfl ‹_›) ?_
  |with_reducible refine Wr.yes (and_y rfl (not_n ‹_›)) ?_
  |with_reducible refine Wr.no (or_n ‹_› ‹_›) ?_
  |with_reducible refine Wr.no (and_l ‹_›) ?_
  |with_reducible refine Wr.no (and_r ‹_›) ?_
  |with_reducible refine Wr.no (or_n ‹_› (or_n ‹_› ‹_›)) ?_
  |with_reducible refine Wr.no (or_n ‹_› (or_n ‹_› (or_n ‹_› (or_n ‹_› ‹_›)))) ?_
  |with_reducible refine Wr.no (and_r (not_y ‹_›)) ?_
  |with_reducible refine Wr.no (and_r (or_n ‹_› ‹_›)) ?_
  |with_reducible refine Wr.no (not_y ‹_›) ?_
  |with_reducible refine Wr.no ((size0 _).trans ‹_›) ?_
  |with_reducible refine Wr.yes (and_y ‹_› rfl) ?_
  |with_reducible refine Wr.yes (Bool.true_or _) ?_
  |with_reducible refine Wr.no (or_n rfl ‹_›) ?_
  |with_reducible refine Wr.yes (not_f ‹_›) ?_
  |with_reducible refine Wr.no (not_t ‹_›) ?_
  |with_reducible refine Wr.yes (and_y rfl (not_f ‹_›)) ?_
  |with_reducible refine Wr.no (and_r rfl) ?_
  |with_reducible refine Wr.yes (beq_iff_eq.2 ‹_›) ?_
  |with_reducible refine Wr.yes (HOB.out.trans ‹_›) ?_
  |with_reducible refine Wr.no (HOB.out.trans ‹_›) ?_
  |with_reducible refine Wr.no (HOB.out.trans (not_t ‹_›)) ?_
  |with_reducible refine Wr.yes (HOB.out.trans (not_f ‹_›)) ?_
  |with_reducible refine Wr.yes (and_y ‹_› (HBB.out.trans ‹_›)) ?_
  |with_reducible refine Wr.no (and_r (HBB.out.trans ‹_›)) ?_
  |exact WrL.wr ‹_›
  |exact Wr.fst (WrL.wr ‹_›) (fun _ _=>syt)
  |refine Wr.snd (by exact evt) ?_)):Wr m s p:=h
namespace Pj
open Go.RowKit
abbrev throwE (p:Nat):Ending:=.panicked [{v:=.iface 43 (.agg #[.int .i64 p]),recovered:=false}]
def ThrP {α:Type} (w:World) (rb:Nat) (s:Rs) (m:Nat→GP α) (e:Ending) (w':World):Prop:=∃p:Nat,e=throwE p∧Kp w.heap.size rb w w'∧Wr m s p
def NodeR (w:World) (rb tb:Nat) (cap:Cp) (t:Tk) (i:Nat) (must:Prop) (m:Nat→GP (List Nr)) (e:Ending) (w':World):Prop:=
 ∃(kind pos n m':Int) (name:ByteArray) (ko:Option Addr) (kl kc:Nat) (i':Nat),e=.returned (.agg (nodeC kind pos n m' name (.slice ko kl kc)))∧Nx w rb tb cap t i 0 must w' i' 0 0∧NodeIn w.heap.size False w' (nodeC kind pos n m' name (.slice ko kl kc)).toList∧∃x,Fl w' [(nodeC kind pos n m' name (.slice ko kl kc)).toList] [x]∧Ev m ⟨i,0,0⟩ (x,⟨i',0,0⟩)
def NodeP (w:World) (rb tb:Nat) (cap:Cp) (t:Tk) (i:Nat) (must:Prop) (m:Nat→GP (List Nr)) (e:Ending) (w':World):Prop:=NodeR w rb tb cap t i must m e w'∨ThrP w rb ⟨i,0,0⟩ m e w'
def ListR (w:World) (rb tb:Nat) (cap:Cp) (t:Tk) (i:Nat) (must:Prop) (m:Nat→GP (List (List Nr))) (e:Ending) (w':World):Prop:=
 ∃(ao:Option Addr) (cp:Nat) (vs:List (List Value)) (i':Nat),e=.returned (.slice ao vs.length cp)∧Nx w rb tb cap t i 0 must w' i' 0 0∧Kids w.heap.size False w' (.slice ao vs.length cp) vs∧vs.length≤i' - i∧∃F,Fl w' vs F∧Ev m ⟨i,0,0⟩ (F,⟨i',0,0⟩)
def ListP (w:World) (rb tb:Nat) (cap:Cp) (t:Tk) (i:Nat) (must:Prop) (m:Nat→GP (List (List Nr))) (e:Ending) (w':World):Prop:=ListR w rb tb cap t i must m e w'∨ThrP w rb ⟨i,0,0⟩ m e w'
section
variable {α:Type} {w W w':World} {rb tb i j:Nat} {cap:Cp} {t:Tk} {g must:Prop} {L:List (Nat × Array Value)} {T:List (List Value)} {kv:Value} {vs:List (List Value)} {X V:List (List Nr)}
theorem Mf.thr (q:Mf w rb tb cap t i g W j L T kv vs X V) {p:Nat} (hk:Kp W.heap.size rb W w') {m:Nat→GP α} (hw:Wr m ⟨i,0,0⟩ p):ThrP w rb ⟨i,0,0⟩ m (throwE p) w':=⟨p,rfl,q.st.kp.trans (hk.mono q.st.size),hw⟩
variable {f:Nat} {args:Array Value} {R:Value} {Q:Ending→World→Prop} {mm:Nat→GP (List Nr)} {ml:Nat→GP (List (List Nr))}
theorem Mf.lf (q:Mf w rb tb cap t i g W j L T kv vs X V) (h:Rd W rb tb cap t j 0 0→Calls Tryz.prog f args W fun e w'=>e=.returned R∧Below W.heap.size W w') (K:∀w',Mf w rb tb cap t i g w' j L T kv vs X V→Q (.returned R) w'):Calls Tryz.prog f args W Q:=(h q.st.rd).mono fun e w' p=>p.1▸K w' (q.below p.2)
theorem Mf.nd (q:Mf w rb tb cap t i g W j L T kv vs X V) (h:Rd W rb tb cap t j 0 0→Calls Tryz.prog f args W (NodeP W rb tb cap t j True mm)) (KB:∀w' p,Kp W.heap.size rb W w'→Wr mm ⟨j,0,0⟩ (p:Nat)→Q (throwE p) w') (K:∀w' (x:Nf) i' (y:List Nr),Hid (j<i')→Ev mm ⟨j,0,0⟩ (y,⟨i',0,0⟩)→Mf w rb tb cap t i True w' i' L (x.t::T) kv vs (y::X) V→Q (.returned (.agg x.a)) w'):Calls Tryz.prog f args W Q:=(h q.st.rd).mono fun e w' p=>by
 rcases p with⟨x1,x2,x3,x4,x5,x6,x7,x8,i',rfl,hx,hn,y,hy,hm⟩|⟨p,rfl,hk,hw⟩
 ·exact K w' ⟨x1,x2,x3,x4,x5,x6,x7,x8⟩ i' y (hx.go trivial rfl) hm (q.nodem hx hn hy)
 ·exact KB w' p hk hw
theorem Mf.nn (q:Mf w rb tb cap t i g W j L T kv vs X V) (h:Rd W rb tb cap t j 0 0→Calls Tryz.prog f args W (NodeP W rb tb cap t j must mm)) (KB:∀w' p,Kp W.heap.size rb W w'→Wr mm ⟨j,0,0⟩ (p:Nat)→Q (throwE p) w') (K:∀w' (x:Nf) i' (y:List Nr),Hid (j≤i')→Ev mm ⟨j,0,0⟩ (y,⟨i',0,0⟩)→Mf w rb tb cap t i g w' i' L (x.t::T) kv vs (y::X) V→Q (.returned (.agg x.a)) w'):Calls Tryz.prog f args W Q:=(h q.st.rd).mono fun e w' p=>by
 rcases p with⟨x1,x2,x3,x4,x5,x6,x7,x8,i',rfl,hx,hn,y,hy,hm⟩|⟨p,rfl,hk,hw⟩
 ·exact K w' ⟨x1,x2,x3,x4,x5,x6,x7,x8⟩ i' y hx.le hm (q.node hx hn hy)
 ·exact KB w' p hk hw
theorem Mf.li (q:Mf w rb tb cap t i g W j L T nl [] X V) (h:Rd W rb tb cap t j 0 0→Calls Tryz.prog f args W (ListP W rb tb cap t j True ml)) (KB:∀w' p,Kp W.heap.size rb W w'→Wr ml ⟨j,0,0⟩ (p:Nat)→Q (throwE p) w') (K:∀w' ao cp vs' i' F,Hid (j<i'∧vs'.length≤i' - j)→Ev ml ⟨j,0,0⟩ (F,⟨i',0,0⟩)→Mf w rb tb cap t i True w' i' L T (.slice ao vs'.length cp) vs' X F→Q (.returned (.slice ao vs'.length cp)) w'):Calls Tryz.prog f args W Q:=(h q.st.rd).mono fun e w' p=>by
 rcases p with⟨ao,cp,vs',i',rfl,hx,hK,hl,F,hF,hm⟩|⟨p,rfl,hk,hw⟩
 ·exact K w' ao cp vs' i' F ⟨hx.go trivial rfl,hl⟩ hm ((q.list hx hK hF).up (fun _=>Nat.lt_of_le_of_lt q.le (hx.go trivial rfl)))
 ·exact KB w' p hk hw
theorem Mf.ln (q:Mf w rb tb cap t i g W j L T nl [] X V) (h:Rd W rb tb cap t j 0 0→Calls Tryz.prog f args W (ListP W rb tb cap t j must ml)) (KB:∀w' p,Kp W.heap.size rb W w'→Wr ml ⟨j,0,0⟩ (p:Nat)→Q (throwE p) w') (K:∀w' ao cp vs' i' F,Hid (j≤i'∧vs'.length≤i' - j)→Ev ml ⟨j,0,0⟩ (F,⟨i',0,0⟩)→Mf w rb tb cap t i g w' i' L T (.slice ao vs'.length cp) vs' X F→Q (.returned (.slice ao vs'.length cp)) w'):Calls Tryz.prog f args W Q:=(h q.st.rd).mono fun e w' p=>by
 rcases p with⟨ao,cp,vs',i',rfl,hx,hK,hl,F,hF,hm⟩|⟨p,rfl,hk,hw⟩
 ·exact K w' ao cp vs' i' F ⟨hx.le,hl⟩ hm (q.list hx hK hF)
 ·exact KB w' p hk hw
theorem Mf.wn {sx:ByteArray} (q:Mf w rb tb cap t i g W j L T kv vs X V) (h:Rd W rb tb cap t j 0 0→Calls Tryz.prog f args W fun e w'=>(e=.returned R∧Nx W rb tb cap t j 0 True w' (j+1) 0 0∧isB t j 0 0 sx=true)∨(e=throwE (t.pos j)∧Kp W.heap.size rb W w'∧isB t j 0 0 sx=false)) (KB:∀w',Kp W.heap.size rb W w'→Wr (fun _=>gWant t sx) ⟨j,0,0⟩ (t.pos j:Nat)→Q (throwE (t.pos j)) w') (K:∀w',Ev (fun _=>gWant t sx) ⟨j,0,0⟩ ((),⟨j+1,0,0⟩)→Mf w rb tb cap t i True w' (j+1) L T kv vs X V→Q (.returned R) w'):Calls Tryz.prog f args W Q:=(h q.st.rd).mono fun e w' p=>by
 rcases p with⟨rfl,hx,hb⟩|⟨rfl,hk,hb⟩
 ·exact K w' (ev_wyes hb) (q.nxm hx)
 ·exact KB w' hk (wr_want hb)
theorem Mf.nm (q:Mf w rb tb cap t i g W j L T kv vs X V) {ms:Nat→GP ByteArray} {B:Nat} (h:Rd W rb tb cap t j 0 0→Calls Tryz.prog f args W fun e w'=>(∃x i',e=.returned (.string x)∧x.size≤B∧Nx W rb tb cap t j 0 True w' i' 0 0∧Ev ms ⟨j,0,0⟩ (x,⟨i',0,0⟩))∨ThrP W rb ⟨j,0,0⟩ ms e w') (KB:∀w' p,Kp W.heap.size rb W w'→Wr ms ⟨j,0,0⟩ (p:Nat)→Q (throwE p) w') (K:∀w' x i',x.size≤B→Hid (j<i')→Ev ms ⟨j,0,0⟩ (x,⟨i',0,0⟩)→Mf w rb tb cap t i True w' i' L T kv vs X V→Q (.returned (.string x)) w'):Calls Tryz.prog f args W Q:=(h q.st.rd).mono fun e w' p=>by
 rcases p with⟨x,i',rfl,hs,hx,hm⟩|⟨p,rfl,hk,hw⟩
 ·exact K w' x i' hs (hx.go trivial rfl) hm (q.nxm hx)
 ·exact KB w' p hk hw
theorem Mf.et {xs:ByteArray} (q:Mf w rb tb cap t i g W j L T kv vs X V) (h:Rd W rb tb cap t j 0 0→Calls Tryz.prog f args W fun e w'=>∃b i',e=.returned (.bool b)∧Eaten t xs j 0 b i'∧Rd w' rb tb cap t i' 0 0∧Kp W.heap.size rb W w') (K:∀w' b i',Eaten t xs j 0 b i'→Ev (fun _=>gEat t xs) ⟨j,0,0⟩ (b,⟨i',0,0⟩)→Mf w rb tb cap t i g w' i' L T kv vs X V→Q (.returned (.bool b)) w'):Calls Tryz.prog f args W Q:=(h q.st.rd).mono fun e w' p=>by
 obtain⟨b,i',rfl,hE,h1,h2⟩:=p
 exact K w' b i' hE (ev_eat hE) (q.nx (must:=False) ⟨h1,h2,hE.le,fun e=>e,fun x=>x.elim⟩)
end
end Pj
end Go.Proofs.YtdplogkmkgekdaaGreatDoor
