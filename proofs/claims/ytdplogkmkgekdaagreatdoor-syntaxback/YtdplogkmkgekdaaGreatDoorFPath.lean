/- Paths, by the grammar. -/
import Derived.Test.YtdplogkmkgekdaaGreatDoorGma
import Derived.Lib.Replace
import Derived.Lib.ItoaNum
import Derived.Lib.Strings
import Derived.Test.YtdplogkmkgekdaaGreatDoorTypes
set_option linter.all false
set_option maxRecDepth 100000
set_option maxHeartbeats 4000000
namespace Go.Proofs.YtdplogkmkgekdaaGreatDoor
open Go.RowKit
section
variable {wt:Nat}
def xW (w:World):Value→List (List Value)
 |.slice (some p) n _=>(List.range n).map (fun i=>(List.range 11).map (fun o=>(w.cell? ⟨p.block,i*11+o,none⟩).getD undef))
 |_=>[]
theorem Cb {w:World} {base e:Nat} {v:Value} {vs:List (List Value)} (h:w.ownsRow base e 11 v vs.length vs.flatten) (hl:∀x∈vs,x.length=11):xW w v=vs:=by
 rcases h.2 with⟨h1,h2⟩|⟨g,cap,cur,h1,hb,hg,hnc,hcm,hcs,htake⟩
 ·obtain rfl:vs=[]:=List.eq_nil_of_length_eq_zero h2
  rw[h1]
  rfl
 ·rw[h1]
  unfold xW
  apply List.ext_getElem?
  intro i
  by_cases hi:i<vs.length
  ·have hx:vs[i]? =some vs[i]:=List.getElem?_eq_getElem hi
   have hxl:=hl _ (List.getElem_mem hi)
   rw[List.getElem?_map,List.getElem?_range hi,hx]
   show some _=some _
   congr 1
   apply List.ext_getElem?
   intro o
   by_cases ho:o<11
   ·rw[List.getElem?_map,List.getElem?_range ho]
    have hlt:i*11+o<vs.length*11:=by omega
    show some ((w.cell? ⟨g,i*11+o,none⟩).getD undef)=_
    have e2:(cur.toList.take (vs.length*11))[i*11+o]? =cur[i*11+o]? :=by rw[List.getElem?_take,if_pos hlt];simp
    rw[cell_of_row w g (i*11+o) cur e (0,0) hg,←e2,htake,flat_get hl hx o ho,List.getElem?_eq_getElem (by omega)]
    rfl
   ·rw[List.getElem?_eq_none (by simp;omega),List.getElem?_eq_none (by omega)]
  ·rw[List.getElem?_eq_none (by simp;omega),List.getElem?_eq_none (by omega)]
section
variable {w W w':World} {rb tb cap i j:Nat} {t:Tk} {k kj aj:Int} {g:Prop} {s:Int} {L:List (Nat × Array Value)} {T:List (List Value)} {kv:Value} {vs:List (List Value)}
end
end
section
variable {wt:Nat}
structure Nf where
 k:Int
 p:Int
 n:Int
 m:Int
 s:ByteArray
 o:Option Addr
 l:Nat
 c:Nat
abbrev Nf.v (x:Nf):Value:=.slice x.o x.l x.c
abbrev Nf.a (x:Nf):Array Value:=ah x.k x.p x.n x.m x.s (.slice x.o x.l x.c)
abbrev Nf.t (x:Nf):List Value:=(ah x.k x.p x.n x.m x.s (.slice x.o x.l x.c)).toList
abbrev sz (w:World):Nat:=w.heap.size
abbrev nl:Value:=.slice none 0 0
abbrev sl (b n:Nat):Value:=.slice (some ⟨b,0,none⟩) n n
abbrev nk (k p:Int) (v:Value):Array Value:=ah k p 0 0 ⟨#[]⟩ v
abbrev Fc (W:World) (rb b:Nat) (c:Array Value):Prop:=(∀o,W.cell? ⟨b,o,none⟩=c[o]?)∧(∀o,W.frozen? ⟨b,o,none⟩=false)∧b<W.heap.size∧b≠rb∧rb≠b
section
variable {w W w':World} {rb tb cap i j:Nat} {t:Tk} {k kj aj:Int} {g:Prop} {s:Int} {L:List (Nat × Array Value)} {T:List (List Value)} {kv:Value} {vs:List (List Value)} {a b c d:Nat} {x y z u:Array Value}
variable {b0 b1 b2 b3:Nat} {c0 c1 c2 c3:Array Value} {ki po n m:Int} {na:ByteArray} {v:Value}
variable {f:Nat} {args:Array Value} {R:Value} {Q:Ending→World→Prop}
variable {kx px nx mx ky py ny my:Int} {ax ay:ByteArray} {vx vy:Value}
variable {B:Nat} {P:ByteArray→Prop}
variable {xs:ByteArray}
variable {D:Int} {C:Int→Prop} {E:List Int→Prop} {must:Prop}
variable {ko ro:Option Addr} {kl kc rl rc:Nat} {ops:Array Oper} {rest:List Oper} {p:Oper} {act:Act} {S:Exit→Act→World→Prop} {sv xo:Operand}
variable {Kk:Act→World→Prop} {Ee:Prop}
end
end
def vI (st:Nr→List Nr→Option Int × List Nr):Nat→List Nr→Option Int × List Nr
 |0,l=>(none,l)
 |_+1,[]=>(none,[])
 |c+1,z::l=>match st z l with
  |(some p,l2)=>(some p,l2)
  |(none,l2)=>vI st c l2
def jO:Nat→Int→Nat→List Nr→Option Int × List Nr
 |0,_,_,l=>(none,l)
 |f+1,d,c,l=>vI (fun z l=>if 80<d then(some z.p,l) else jO f (d+1) z.c l) c l
theorem DJ (f:Nat) (d:Int) (l:List Nr):jO f d 0 l=(none,l):=by
 cases f<;>rfl
def Dp (xs:List (List Nr)) (d:Int) (o:Option Int):Prop:=∃n0,∀n,n0≤n→∀c rest,(o=none→jO n d (xs.length+c) (xs.flatten++rest)=jO n d c rest)∧∀p,o=some p→(jO n d (xs.length+c) (xs.flatten++rest)).1=some p
theorem Dp.nil {d:Int}:Dp [] d none:=⟨0,fun n _ c rest=>⟨fun _=>by simp,fun p h=>by cases h⟩⟩
theorem Dp.app {xs ys:List (List Nr)} {d:Int} {o:Option Int} (h1:Dp xs d none) (h2:Dp ys d o):Dp (xs++ys) d o:=by
 obtain⟨a,ha⟩:=h1
 obtain⟨b,hb⟩:=h2
 refine⟨max a b,fun n hn c rest=>?_⟩
 have e:jO n d ((xs++ys).length+c) ((xs++ys).flatten++rest)=jO n d (ys.length+c) (ys.flatten++rest):=by
  have:=(ha n (Nat.le_trans (Nat.le_max_left _ _) hn) (ys.length+c) (ys.flatten++rest)).1 rfl
  rw[←this,List.length_append,List.flatten_append,List.append_assoc,Nat.add_assoc]
 rw[e]
 exact hb n (Nat.le_trans (Nat.le_max_right _ _) hn) c rest
theorem Dp.more {xs ys:List (List Nr)} {d p:Int} (h:Dp xs d (some p)):Dp (xs++ys) d (some p):=by
 obtain⟨a,ha⟩:=h
 refine⟨a,fun n hn c rest=>⟨fun e=>(by cases e),fun q e=>?_⟩⟩
 have:=(ha n hn (ys.length+c) (ys.flatten++rest)).2 q e
 rw[List.length_append,List.flatten_append,List.append_assoc,Nat.add_assoc]
 exact this
theorem Dp.node {ks:List (List Nr)} {d k p n m:Int} {s:ByteArray} {o:Option Int} (hd:¬80<d) (h:Dp ks (d+1) o):Dp [nd k p n m s ks] d o:=by
 obtain⟨a,ha⟩:=h
 refine⟨a+1,fun f hf c rest=>?_⟩
 obtain⟨f,rfl⟩:∃m,f=m+1:=⟨f - 1,by omega⟩
 have h0:=ha f (by omega) 0 rest
 rw[Nat.add_zero] at h0
 have e:jO (f+1) d ([nd k p n m s ks].length+c) ([nd k p n m s ks].flatten++rest)=match jO f (d+1) ks.length (ks.flatten++rest) with
  |(some q,l2)=>(some q,l2)
  |(none,l2)=>jO (f+1) d c l2:=by
  show vI _ (1+c) _=_
  rw[Nat.add_comm 1 c]
  unfold nd
  simp only[List.flatten_cons,List.flatten_nil,List.append_nil,List.cons_append]
  show(match(if 80<d then _ else jO f (d+1) ks.length (ks.flatten++rest)) with
   |(some p,l2)=>(some p,l2)
   |(none,l2)=>vI _ c l2)=_
  rw[if_neg hd]
  rfl
 rw[e]
 refine⟨fun ho=>?_,fun q ho=>?_⟩
 ·rw[h0.1 ho,DJ]
 ·have h1:=h0.2 q ho
  cases hx:jO f (d+1) ks.length (ks.flatten++rest) with
  |mk u l2=>
   rw[hx] at h1
   obtain rfl:u=some q:=h1
   rfl
theorem Dp.deep {ks:List (List Nr)} {d k p n m:Int} {s:ByteArray} (hd:80<d):Dp [nd k p n m s ks] d (some p):=by
 refine⟨1,fun f hf c rest=>⟨fun e=>(by cases e),fun q e=>?_⟩⟩
 obtain⟨f,rfl⟩:∃m,f=m+1:=⟨f - 1,by omega⟩
 obtain rfl:p=q:=Option.some.inj e
 show(vI _ (1+c) _).1=_
 rw[Nat.add_comm 1 c]
 unfold nd
 simp only[List.flatten_cons,List.flatten_nil,List.append_nil,List.cons_append]
 show(match(if 80<d then(some p,ks.flatten++rest) else _) with
  |(some p,l2)=>(some p,l2)
  |(none,l2)=>vI _ c l2).1=_
 rw[if_pos hd]
section
variable {α β σ:Type}
theorem vR {x:GP α} {f:α→GP β} {s:Rs} {q:α × Rs} (h:x s=some q):bnd x f s=f q.1 q.2:=by unfold bnd;rw[h]
def Ev (m:Nat→GP α) (s:Rs) (r:α × Rs):Prop:=∃n0,∀n,n0≤n→m n s=some r
theorem Ev.one {m:Nat→GP α} {s:Rs} {r r':α × Rs} (h:Ev m s r) (h':Ev m s r'):r=r':=by
 obtain⟨a,ha⟩:=h
 obtain⟨b,hb⟩:=h'
 have h1:=ha (max a b) (Nat.le_max_left _ _)
 have h2:=hb (max a b) (Nat.le_max_right _ _)
 rw[h1] at h2
 exact Option.some.inj h2
theorem Ev.of {x:GP α} {s:Rs} {r:α × Rs} (h:x s=some r):Ev (fun _=>x) s r:=⟨0,fun _ _=>h⟩
theorem Ev.bnd {x:Nat→GP α} {f:Nat→α→GP β} {s:Rs} {q:α × Rs} {r:β × Rs} (h1:Ev x s q) (h2:Ev (fun n=>f n q.1) q.2 r):Ev (fun n=>bnd (x n) (f n)) s r:=by
 obtain⟨a,ha⟩:=h1
 obtain⟨b,hb⟩:=h2
 refine⟨max a b,fun n hn=>?_⟩
 exact(vR (ha n (Nat.le_trans (Nat.le_max_left _ _) hn))).trans (hb n (Nat.le_trans (Nat.le_max_right _ _) hn))
theorem Ev.ak {x:Nat→GP α} {f:Nat→α→GP β} {s s2:Rs} {y:α} {r:β × Rs} (h1:Ev x s (y,s2)) (h2:Ev (fun n=>f n y) s2 r):Ev (fun n=>Go.Proofs.YtdplogkmkgekdaaGreatDoor.bnd (x n) (f n)) s r:=Ev.bnd h1 h2
theorem Ev.seq {x:Nat→GP α} {y:Nat→GP β} {s s2:Rs} {u:α} {r:β × Rs} (h1:Ev x s (u,s2)) (h2:Ev y s2 r):Ev (fun n=>seq (x n) (y n)) s r:=Ev.bnd h1 h2
theorem Ev.ret' {y:α} {s:Rs}:Ev (fun _=>Go.Proofs.YtdplogkmkgekdaaGreatDoor.ret y) s (y,s):=⟨0,fun _ _=>rfl⟩
theorem Ev.yes {b:Bool} {x y:Nat→GP α} {s:Rs} {r:α × Rs} (hb:b=true) (h:Ev x s r):Ev (fun n=>cond b (x n) (y n)) s r:=by subst hb;exact h
theorem Ev.no {b:Bool} {x y:Nat→GP α} {s:Rs} {r:α × Rs} (hb:b=false) (h:Ev y s r):Ev (fun n=>cond b (x n) (y n)) s r:=by subst hb;exact h
def EvL (b:Nat→σ→GP (Bool × σ)) (x:σ) (s:Rs) (r:σ × Rs):Prop:=∃n0,∀n l,n0≤n→n0≤l→loop (b n) l x s=some r
theorem EvL.ev {b:Nat→σ→GP (Bool × σ)} {x:σ} {s:Rs} {r:σ × Rs} (h:EvL b x s r):Ev (fun n=>loop (b n) n x) s r:=by
 obtain⟨a,ha⟩:=h
 exact⟨a,fun n hn=>ha n n hn hn⟩
theorem EvL.on {b:Nat→σ→GP (Bool × σ)} {x y:σ} {s s2:Rs} {r:σ × Rs} (h1:Ev (fun n=>b n x) s ((true,y),s2)) (h2:EvL b y s2 r):EvL b x s r:=by
 obtain⟨a,ha⟩:=h1
 obtain⟨c,hc⟩:=h2
 refine⟨max a c+1,fun n l hn hl=>?_⟩
 have h3:=Nat.le_max_left a c
 have h4:=Nat.le_max_right a c
 obtain⟨l,rfl⟩:∃m,l=m+1:=⟨l - 1,by omega⟩
 have e1:=ha n (by omega)
 have e2:=hc n l (by omega) (by omega)
 show Go.Proofs.YtdplogkmkgekdaaGreatDoor.bnd (b n x) (fun r=>cond r.1 (loop (b n) l r.2) (Go.Proofs.YtdplogkmkgekdaaGreatDoor.ret r.2)) s=some r
 exact(vR e1).trans e2
theorem EvL.stop {b:Nat→σ→GP (Bool × σ)} {x y:σ} {s s2:Rs} (h1:Ev (fun n=>b n x) s ((false,y),s2)):EvL b x s (y,s2):=by
 obtain⟨a,ha⟩:=h1
 refine⟨a+1,fun n l hn hl=>?_⟩
 obtain⟨l,rfl⟩:∃m,l=m+1:=⟨l - 1,by omega⟩
 have e1:=ha n (by omega)
 show Go.Proofs.YtdplogkmkgekdaaGreatDoor.bnd (b n x) (fun r=>cond r.1 (loop (b n) l r.2) (Go.Proofs.YtdplogkmkgekdaaGreatDoor.ret r.2)) s=some (y,s2)
 exact vR e1
theorem Ev.up {m m':Nat→GP α} {s:Rs} {r:α × Rs} (h:Ev m s r) (e:∀n,m' (n+1)=m n):Ev m' s r:=by
 obtain⟨a,ha⟩:=h
 refine⟨a+1,fun n hn=>?_⟩
 obtain⟨n,rfl⟩:∃m,n=m+1:=⟨n - 1,by omega⟩
 rw[e n]
 exact ha n (by omega)
end
section
variable {t:Tk} {s:Rs} {i:Nat} {k a:Int}
theorem bT:Ev (fun _=>gN) ⟨i,k,a⟩ (k==0,⟨i,k,a⟩):=Ev.of rfl
theorem aI {d:Nat} {w:ByteArray}:Ev (fun _=>bY t d w) ⟨i,k,a⟩ (au t i k d w,⟨i,k,a⟩):=Ev.of rfl
theorem dz {d:Nat} {q:Int}:Ev (fun _=>fB t d q) ⟨i,k,a⟩ (bf t i k d q,⟨i,k,a⟩):=Ev.of rfl
theorem iJ {n:Nat}:Ev (fun _=>dK n) ⟨i,k,a⟩ ((),⟨i+n,k,a⟩):=Ev.of rfl
theorem bL:Ev (fun _=>dh t) ⟨i,k,a⟩ ((t.pos i:Int),⟨i,k,a⟩):=Ev.of rfl
theorem Nj:Ev (fun _=>H9 t) ⟨i,k,a⟩ ((t.kind i:Int),⟨i,k,a⟩):=Ev.of rfl
theorem vX:Ev (fun _=>zf t) ⟨i,k,a⟩ (t.text i,⟨i,k,a⟩):=Ev.of rfl
theorem xX:Ev (fun _=>qh t) ⟨i,k,a⟩ ((t.num i:Int),⟨i,k,a⟩):=Ev.of rfl
theorem Zh {i':Nat} {k' a':Int} (h:i'=i∧(k=0→k'=4∧a'=t.pos i)∧(k≠0→k'=k∧a'=a)):Ev (fun _=>jB t) ⟨i,k,a⟩ ((),⟨i',k',a'⟩):=by
 obtain⟨rfl,h1,h2⟩:=h
 refine Ev.of ?_
 unfold jB
 by_cases e:k=0
 ·obtain⟨rfl,rfl⟩:=h1 e
  subst e
  rfl
 ·obtain⟨rfl,rfl⟩:=h2 e
  show some ((),if k'==0 then _ else _)=_
  have hb:(k'==0)=false:=by simpa using e
  rw[hb]
  rfl
theorem Ii {w:ByteArray} {b:Bool} {i':Nat} (h:Bw t w i k b i'):Ev (fun _=>aY t w) ⟨i,k,a⟩ (b,⟨i',k,a⟩):=by
 refine Ev.of ?_
 unfold aY
 show(if au t i k 0 w then _ else _)=_
 cases b
 ·rw[←h.jE,h.no rfl];rfl
 ·rw[←h.jE,(h.yes rfl).1];rfl
theorem dn {w:ByteArray} (h:au t i k 0 w=false):Ev (fun _=>aY t w) ⟨i,k,a⟩ (false,⟨i,k,a⟩):=by
 refine Ev.of ?_
 unfold aY
 show(if au t i k 0 w then _ else _)=_
 rw[h]
 rfl
theorem iV {w:ByteArray} (h:au t i k 0 w=true):Ev (fun _=>aY t w) ⟨i,k,a⟩ (true,⟨i+1,k,a⟩):=by
 refine Ev.of ?_
 unfold aY
 show(if au t i k 0 w then _ else _)=_
 rw[h]
 rfl
theorem bP {w:ByteArray} (h:au t i k 0 w=true):Ev (fun _=>aM t w) ⟨i,k,a⟩ ((),⟨i+1,k,a⟩):=Ev.ak (iV h) (Ev.yes rfl Ev.ret')
end
structure Kd where
 k:Int
 l:Nat
 t:List (List UInt8)
def kd (ks:List Kd) (i:Nat):Kd:=(ks[i]?).getD ⟨0,0,[]⟩
def bB (ks:List Kd):List (List UInt8):=(ks.map (·.t)).flatten
def oK (s:List UInt8) (ks:List Kd):List (List UInt8):=(ks.map (fun k=>s::k.t)).flatten
def pSep (s:List UInt8):List Kd→List (List UInt8)
 |[]=>[]
 |k::r=>k.t++oK s r
def bF (a b:List UInt8) (ks:List Kd):List (List UInt8):=a::(pSep [44] ks++[b])
def oP (ks:List Kd):List (List UInt8):=if ks.length=0 then [] else bF [60] [62] ks
def ql (ks:List Kd):List (List UInt8):=if ks.length=0 then [] else bF [40] [41] ks
def aC (b:Bool) (l:List (List UInt8)):List (List UInt8):=if b then l else []
def nS (x:Int):Bool:=x==20||x==21||x==22||x==23||x==24||x==25||x==44
def gQ (k:Kd):List (List UInt8):=if nS k.k then k.t else [40]::(k.t++[[41]])
def kN (k:Kd):List (List UInt8):=if k.k=15∧k.l=0 then [] else [45,62]::k.t
def pFn (n:Int):List (List UInt8):=aC (n==1) [[109,117,116]]++aC (n==2) [[111,110,99,101]]
def lG (s:List UInt8):List (List UInt8):=aC (s.length !=0) [s]
def qm (ks:List Kd):List (List UInt8):=aC (ks.length !=0) [[58,58]]++oP ks
def vS (n:Int):List (List UInt8):=if n=1 then [[116,114,117,101]] else [[102,97,108,115,101]]
def zh (s:List UInt8) (ks:List Kd):List (List UInt8):=gQ (kd ks 0)++(s::gQ (kd ks 1))
def nO (n:Int):List Kd→List (List UInt8)
 |[]=>[]
 |k::r=>k.t++(aC (n==0||r.length !=0) [[59]]++nO n r)
def jQ (s:List UInt8):List UInt8:=Lib.replaceAll s [58,58] [32,58,58,32]
def asm (kind n m:Int) (s:List UInt8) (ks:List Kd):List (List UInt8):=
 match kind.toNat with
 |0=>bB ks
 |1=>[109,111,100]::s::[123]::(bB ks++[[125]])
 |2=>[[117,115,101],jQ s,[59]]
 |3=>aC (m%2==1) [[112,117,98]]++aC (decide (2≤m)) [[99,111,112,121]]++(if n=0 then [115,116,114,117,99,116]::s::bB ks else [101,110,117,109]::s::((kd ks 0).t++bF [123] [125] (ks.drop 1)))
 |4=>if s.length=0 then bF [123] [125] ks else s::ql ks
 |5=>aC (m==1) [[112,117,98]]++(aC (s.length !=0) [s,[58]]++bB ks)
 |6=>aC (m==1) [[112,117,98]]++([116,114,97,105,116]::s::[123]::((ks.map (fun k=>k.t++[[59]])).flatten++[[125]]))
 |7=>[105,109,112,108]::((kd ks 0).t++(jQ s::[102,111,114]::((kd ks 1).t++([123]::(bB (ks.drop 2)++[[125]])))))
 |8=>aC (m==1) [[112,117,98]]++([102,110]::s::((kd ks 0).t++(bF [40] [41] ((ks.drop 1).take n.toNat)++(kN (kd ks (1+n.toNat))++bB (ks.drop (2+n.toNat))))))
 |9=>oP ks
 |10=>s::(aC (ks.length !=0) [[58]]++pSep [43] ks)
 |11=>s::(aC (ks.length !=0) [[58]]++pSep [43] ks)
 |12=>aC (m==1) [[109,117,116]]++(aC (s.length !=0) [s,[58]]++bB ks)
 |13=>[[105,110,116]]
 |14=>[[98,111,111,108]]
 |15=>bF [40] [41] ks
 |16=>[38]::(lG s++(aC (n==1) [[109,117,116]]++bB ks))
 |17=>[102,110]::(lG s++(pFn n++(bF [40] [41] (ks.take (ks.length - 1))++([45,62]::(kd ks (ks.length - 1)).t))))
 |18=>jQ s::oP ks
 |19=>[s]
 |20=>[Lib.itoa n]
 |21=>vS n
 |22=>bF [40] [41] ks
 |23=>jQ s::qm ks
 |24=>gQ (kd ks 0)++bF [40] [41] (ks.drop 1)
 |25=>gQ (kd ks 0)++[[46],if s.length=0 then Lib.itoa n else s]
 |26=>[42]::gQ (kd ks 0)
 |27=>[38]::(aC (n==1) [[109,117,116]]++gQ (kd ks 0))
 |28=>s::gQ (kd ks 0)
 |29=>zh s ks
 |30=>zh [38,38] ks
 |31=>zh [124,124] ks
 |32=>zh [61] ks
 |33=>[105,102]::(gQ (kd ks 0)++((kd ks 1).t++(aC (decide (2<ks.length)) [[101,108,115,101]]++bB (ks.drop 2))))
 |34=>[109,97,116,99,104]::(gQ (kd ks 0)++bF [123] [125] (ks.drop 1))
 |35=>pSep [61,62] ks
 |36=>[119,104,105,108,101]::(gQ (kd ks 0)++(kd ks 1).t)
 |37=>[108,111,111,112]::bB ks
 |38=>[[98,114,101,97,107]]
 |39=>[[110,101,120,116]]
 |40=>[114,101,116,117,114,110]::bB ks
 |41=>[[112,97,110,105,99]]
 |42=>[123]::(nO n ks++[[125]])
 |43=>[108,101,116]::(aC (m==1) [[109,117,116]]++(s::(aC (n%2==1) ([58]::(kd ks 0).t)++aC (decide (2≤n)) ([61]::(kd ks (n%2).toNat).t))))
 |44=>[109,97,107,101]::jQ s::(qm (ks.take m.toNat)++bF [123] [125] (ks.drop m.toNat))
 |45=>s::[58]::bB ks
 |46=>[102,110]::(pFn n++(bF [91] [93] (ks.take m.toNat)++(bF [40] [41] ((ks.take (ks.length - 2)).drop m.toNat)++(kN (kd ks (ks.length - 2))++(kd ks (ks.length - 1)).t))))
 |47=>aC (decide (0<n)) [[38]]++(aC (n==2) [[109,117,116]]++[s])
 |48=>[115,112,97,119,110]::(bF [91] [93] (ks.take m.toNat)++(kN (kd ks m.toNat)++(kd ks (m.toNat+1)).t))
 |49=>[[95]]
 |50=>aC (decide (0<n)) [[114,101,102]]++(aC (n==2||m==1) [[109,117,116]]++[s])
 |51=>aC (decide (n<0)) [[45]]++[Lib.trimPrefix (Lib.itoa n) [45]]
 |52=>vS n
 |53=>bF [40] [41] ks
 |54=>jQ s::ql ks
 |_=>[]
def kindOf:List Value→Int
 |.int _ k::_=>k
 |_=> -1
def tok:Nat→World→List Value→List (List UInt8)
 |0,_,_=>[]
 |f+1,w,cs=>match cs with
  |.int _ k::_::.int _ n::.int _ m::.string s::kv::_=>asm k n m s.data.toList ((xW w kv).map (fun c=>⟨kindOf c,lenOf (c.getD 5 undef),tok f w c⟩))
  |_=>[]
def aB (f:Nat) (w:World) (c:List Value):Kd:=⟨kindOf c,lenOf (c.getD 5 undef),tok f w c⟩
theorem DK {S:Nat→Prop} {g:Prop} {h f base:Nat} {w:World} {kind pos n m:Int} {name:ByteArray} {kv:Value} {vs:List (List Value)} (h4:w.ownsRow base 28 11 kv vs.length vs.flatten) (h6:∀x∈vs,isNode S g h w x):tok (f+1) w (ah kind pos n m name kv).toList=asm kind n m name.data.toList (vs.map (aB f w)):=by
 have e:=Cb h4 (fun x hx=>(isNode.ones _ _ (h6 x hx)).1)
 show asm kind n m name.data.toList ((xW w kv).map (aB f w))=_
 rw[e]
def glue (ts:List (List UInt8)):List UInt8:=(ts.map (fun t=>32::t)).flatten
theorem aN (a b:List (List UInt8)):glue (a++b)=glue a++glue b:=by simp[glue]
theorem aQ (a:List UInt8) (b:List (List UInt8)):glue (a::b)=32::a++glue b:=rfl
theorem CS:glue []=[]:=rfl
section
variable {wt:Nat}
def intOf:Value→Int
 |.int _ x=>x
 |_=>0
def strOf:Value→ByteArray
 |.string s=>s
 |_=>⟨#[]⟩
def flat:Nat→World→List Value→List Nr
 |0,_,_=>[]
 |f+1,w,cs=>nd (intOf (cs.getD 0 undef)) (intOf (cs.getD 1 undef)) (intOf (cs.getD 2 undef)) (intOf (cs.getD 3 undef)) (strOf (cs.getD 4 undef)) ((xW w (cs.getD 5 undef)).map (flat f w))
theorem qR {S:Nat→Prop} {g:Prop} {h f base:Nat} {w:World} {kind pos n m:Int} {name:ByteArray} {kv:Value} {vs:List (List Value)} (h4:w.ownsRow base 28 11 kv vs.length vs.flatten) (h6:∀x∈vs,isNode S g h w x):flat (f+1) w (ah kind pos n m name kv).toList=nd kind pos n m name (vs.map (flat f w)):=by
 have e:=Cb h4 (fun x hx=>(isNode.ones _ _ (h6 x hx)).1)
 show nd kind pos n m name ((xW w kv).map (flat f w))=_
 rw[e]
theorem lY {S:Nat→Prop} {g:Prop} {w w':World} (hs:Same S w w'):(h:Nat)→(cs:List Value)→isNode S g h w cs→∀f,flat f w' cs=flat f w cs
 |0,_,hn,_=>absurd hn (fun x=>x)
 |_+1,_,_,0=>rfl
 |h+1,_,⟨kind,pos,n,m,name,kv,vs,h1,h2,h3,h3',h4,h5,h6,h7⟩,f+1=>by
  subst h1
  rw[qR h4 h6,qR (jY h4 (fun b hb hl=>hs b (h5 b hb) hl)) (fun x hx=>isNode.frame hs h x (h6 x hx))]
  have:vs.map (flat f w')=vs.map (flat f w):=List.map_congr_left (fun x hx=>lY hs h x (h6 x hx) f)
  rw[this]
def Fl (w:World) (vs:List (List Value)) (F:List (List Nr)):Prop:=∃h,∀f,h≤f→vs.map (flat f w)=F
theorem Fl.nil {w:World}:Fl w [] []:=⟨0,fun _ _=>rfl⟩
theorem Fl.cons {w:World} {c:List Value} {vs:List (List Value)} {x:List Nr} {F:List (List Nr)} (h1:Fl w [c] [x]) (h2:Fl w vs F):Fl w (c::vs) (x::F):=by
 obtain⟨a,ha⟩:=h1
 obtain⟨b,hb⟩:=h2
 refine⟨max a b,fun f hf=>?_⟩
 have e1:=ha f (Nat.le_trans (Nat.le_max_left _ _) hf)
 have e2:=hb f (Nat.le_trans (Nat.le_max_right _ _) hf)
 simp only[List.map_cons,List.map_nil,List.cons.injEq,and_true] at e1
 rw[List.map_cons,e1,e2]
theorem Fl.app {w:World} {us vs:List (List Value)} {E F:List (List Nr)} (h1:Fl w us E) (h2:Fl w vs F):Fl w (us++vs) (E++F):=by
 obtain⟨a,ha⟩:=h1
 obtain⟨b,hb⟩:=h2
 refine⟨max a b,fun f hf=>?_⟩
 rw[List.map_append,ha f (Nat.le_trans (Nat.le_max_left _ _) hf),hb f (Nat.le_trans (Nat.le_max_right _ _) hf)]
theorem Fl.tail {w:World} {c:List Value} {vs:List (List Value)} {x:List Nr} {F:List (List Nr)} (h:Fl w (c::vs) (x::F)):Fl w vs F:=by
 obtain⟨a,ha⟩:=h
 refine⟨a,fun f hf=>?_⟩
 have:=ha f hf
 simp only[List.map_cons,List.cons.injEq] at this
 exact this.2
theorem Fl.head {w:World} {c:List Value} {vs:List (List Value)} {x:List Nr} {F:List (List Nr)} (h:Fl w (c::vs) (x::F)):Fl w [c] [x]:=by
 obtain⟨a,ha⟩:=h
 refine⟨a,fun f hf=>?_⟩
 have:=ha f hf
 simp only[List.map_cons,List.cons.injEq] at this
 simp[this.1]
theorem Fl.len {w:World} {vs:List (List Value)} {F:List (List Nr)} (h:Fl w vs F):F.length=vs.length:=by
 obtain⟨a,ha⟩:=h
 rw[←ha a (Nat.le_refl _)]
 simp
theorem Fl.split {w:World} {us vs:List (List Value)} {E F:List (List Nr)} (h:Fl w (us++vs) (E++F)) (hl:E.length=us.length):Fl w us E∧Fl w vs F:=by
 obtain⟨a,ha⟩:=h
 have key:∀f,a≤f→us.map (flat f w)=E∧vs.map (flat f w)=F:=fun f hf=>by
  have:=ha f hf
  rw[List.map_append] at this
  exact List.append_inj this (by simp[hl])
 exact⟨⟨a,fun f hf=>(key f hf).1⟩,a,fun f hf=>(key f hf).2⟩
theorem Fl.CU {w w':World} {vs:List (List Value)} {F:List (List Nr)} (h:Fl w vs F) (e:∀f,vs.map (flat f w')=vs.map (flat f w)):Fl w' vs F:=by
 obtain⟨a,ha⟩:=h
 exact⟨a,fun f hf=>(e f).trans (ha f hf)⟩
theorem Fl.node {S:Nat→Prop} {g:Prop} {h base:Nat} {w:World} {kind pos n m:Int} {name:ByteArray} {kv:Value} {vs:List (List Value)} (h4:w.ownsRow base 28 11 kv vs.length vs.flatten) (h6:∀x∈vs,isNode S g h w x) {F:List (List Nr)} (hF:Fl w vs F):Fl w [(ah kind pos n m name kv).toList] [nd kind pos n m name F]:=by
 obtain⟨a,ha⟩:=hF
 refine⟨a+1,fun f hf=>?_⟩
 obtain⟨f,rfl⟩:∃m,f=m+1:=⟨f - 1,by omega⟩
 rw[List.map_cons,List.map_nil,qR h4 h6,ha f (by omega)]
section
variable {w W w':World} {rb tb cap i j:Nat} {t:Tk} {k kj aj:Int} {g:Prop} {s:Int} {L:List (Nat × Array Value)} {T:List (List Value)} {kv:Value} {vs:List (List Value)} {X V:List (List Nr)}
end
end
section
variable {wt:Nat}
section
variable {w W w':World} {rb tb cap i j:Nat} {t:Tk} {k a kj aj:Int} {g:Prop} {s:Int} {L:List (Nat × Array Value)} {T:List (List Value)} {kv:Value} {vs:List (List Value)} {Ft Fv:List (List Nr)}
variable {ops:Array Oper} {rest:List Oper} {p:Oper} {act:Act} {S:Exit→Act→World→Prop} {sv xo:Operand} {ko ro:Option Addr} {kl kc rl rc:Nat} {ki po n m:Int} {na:ByteArray} {Kk:Act→World→Prop} {Ee:Prop} {x:List Nr}
theorem OE {ki po:Int} {ks:List (List Nr)} (h:ks.length≠1):jv ki po ks=nd ki po 0 0 E0 ks:=by
 unfold jv
 split
 ·exact absurd rfl h
 ·rfl
end
end
def lq (t:Tk) (most:Nat) (x:ByteArray × Nat × Bool):GP (Bool × ByteArray × Nat × Bool):=bnd (bY t 0 ⟨#[58,58]⟩) (fun b=>bnd (fB t 1 2) (fun b2=>cond (b&&b2) (cond (x.2.1==most) (seq (jB t) (ret (false,(E0,x.2.1,true)))) (seq (dK 1) (bnd (bG t) (fun s=>ret (true,(x.1++⟨#[58,58]⟩++s,x.2.1+1,x.2.2)))))) (ret (false,x))))
section
variable {t:Tk} {most n j:Nat} {kj aj:Int} {s:ByteArray} {f:Bool}
theorem Nk (h:(au t j kj 0 ⟨#[58,58]⟩&&bf t j kj 1 2)=false):Ev (fun _=>lq t most (s,n,f)) ⟨j,kj,aj⟩ ((false,(s,n,f)),⟨j,kj,aj⟩):=Ev.ak aI (Ev.ak dz (Ev.no h Ev.ret'))
theorem adb {r:Rs} {s5:ByteArray} (h1:au t j kj 0 ⟨#[58,58]⟩=true) (h2:bf t j kj 1 2=true) (h3:n≠most) (h:Ev (fun _=>bG t) ⟨j+1,kj,aj⟩ (s5,r)):Ev (fun _=>lq t most (s,n,f)) ⟨j,kj,aj⟩ ((true,(s++⟨#[58,58]⟩++s5,n+1,f)),r):=Ev.ak aI (Ev.ak dz (Ev.yes (by rw[h1,h2];rfl) (Ev.no (by simpa using h3) (Ev.seq iJ (Ev.ak h Ev.ret')))))
end
end Go.Proofs.YtdplogkmkgekdaaGreatDoor
