import Derived.Test.YtdghkacbpebcoaaGreatS02
namespace Go.Proofs.YtdghkacbpebcoaaGreat
open Go.RowKit
open Value renaming slice→J
open List renaming length→O
open Option renaming none→I
open World renaming heap→U
open _root_.Array renaming size→E
open Obj renaming cells→Ob
set_option linter.all false
set_option maxRecDepth 100000
set_option maxHeartbeats 0
theorem vE {k:Nat} (G:eS 117 11 k) (f:eS 116 12 k):eS 116 12 (k+1):=by
 intro w M N P c d o R h p;have S:=h.l;have q:Hid (Bd (k+1) d c o 12):=p;clear p;have i:(0:Int)<=(d.pos c:Int)/\(d.pos c:Int)<=7000:=oH (h.ar.aQ c);have T:(d.pos c:Int)<=6000:=oH (h.ar.aQ c);have r:(0:Int)<=(d.pos c:Int)+1/\(d.pos c:Int)+1<=7000:=oM;go_enter Tryz.func116,Tryz.ntmps116
 have a:=Mz.start (wt:=1) h;go_wp2_with fail;refine(a.ne' (sz w) (aB)).lf (aF · 0) ?_;clear a;intro l a;have b:=a.f1;go_wp2_with fail;refine(jZ ((a.ne' (sz l) (nk 0 (d.pos c) nl)).alloc _).st.rd [⟨#[45]⟩,⟨#[33]⟩,⟨#[42]⟩,⟨#[38]⟩,⟨#[38,38]⟩] (sb:=(sz l)+1) (by have:=jY (l.alloc (Ob (nk 0 (d.pos c) nl) 48)) [⟨#[45]⟩,⟨#[33]⟩,⟨#[42]⟩,⟨#[38]⟩,⟨#[38,38]⟩];simpa using this) sQ dC dC).mono ?_;rintro V W ⟨e,rfl,s,t,u⟩;replace a:=((a.ne' (sz l) (nk 0 (d.pos c) nl)).alloc _).below s;clear s;replace b:=a.f2
 cases H:e.toList.isEmpty
 ·have v:Hid (bS d c o 0 e=true/\e∈[⟨#[45]⟩,⟨#[33]⟩,⟨#[42]⟩,⟨#[38]⟩,⟨#[38,38]⟩]):=u H;clear u;have K:Hid (o=0):=(du h.ar h.lt v.out.1).1;have j:Hid (∀x y z,(y=0->c<x)->z<64->Bd k d x y z):=q.out.dh K.out h.lt;go_wp2_with fail;refine a.wn (aI · _) ?_;clear a b;intro L X Y Z _ a;have b:=a.f2
  cases aa:(e.toList==[45])
  ·cases ab:(e.toList==[33])
   ·cases ac:(e.toList==[42])
    ·cases ad:(e.toList==[38])
     ·cases ae:(e.toList==[38,38])
      ·exfalso
       have:=v.out.2;simp only[List.mem_cons,List.not_mem_nil,or_false] at this;rcases this with rfl|rfl|rfl|rfl|rfl<;>simp[Lib.toList_data] at*
      ·go_wp2_with fail;refine((a.fA 27).ne' (sz L) (nk 27 (↑(d.pos c)+1) nl)).et (aU · _) ?_;clear a b;intro af ag ah ai a;have b:=a.f3;go_wp2_with fail
       ·go_wp2_with fail;replace a:=a.jV 1;refine a.nd (f · (a.bd j.out dC)) ?_;clear a b;intro m aj ak al ao ap _ a;have b:=a.f3;go_wp2_with fail;go_light;refine((((a.dT (sl (sz m) 1)).iU (sl ((sz m)+1) 1)).l1 (sz m) 27 (↑(d.pos c)+1) 1 0 ⟨#[]⟩ r).l1 ((sz m)+1) 27 (d.pos c) 0 0 ⟨#[]⟩ i).rt Tryz.results116 2 ?_;simp[aK,World.setCell_alloc_past,b,sL]
       ·go_wp2_with fail;refine a.nd (f · (a.bd j.out dC)) ?_;clear a b;intro n aq ar au av aw _ a;have b:=a.f3;go_wp2_with fail;go_light;refine((((a.dT (sl (sz n) 1)).iU (sl ((sz n)+1) 1)).l1 (sz n) 27 (↑(d.pos c)+1) 0 0 ⟨#[]⟩ r).l1 ((sz n)+1) 27 (d.pos c) 0 0 ⟨#[]⟩ i).rt Tryz.results116 2 ?_;simp[aK,World.setCell_alloc_past,b,sL]
     ·go_wp2_with fail;refine(a.fA 27).et (aU · _) ?_;clear a b;intro ax ay az aA a;have b:=a.f2;go_wp2_with fail
      ·go_wp2_with fail;replace a:=a.jV 1;refine a.nd (f · (a.bd j.out dC)) ?_;clear a b;intro A aC aD aE aG aH _ a;have b:=a.f2;go_wp2_with fail;go_light;refine((a.dT (sl (sz A) 1)).l1 (sz A) 27 (d.pos c) 1 0 ⟨#[]⟩ i).rt Tryz.results116 1 ?_;simp[aK,World.setCell_alloc_past,b,sL]
      ·go_wp2_with fail;refine a.nd (f · (a.bd j.out dC)) ?_;clear a b;intro B aJ aL aM aN aO _ a;have b:=a.f2;go_wp2_with fail;go_light;refine((a.dT (sl (sz B) 1)).l1 (sz B) 27 (d.pos c) 0 0 ⟨#[]⟩ i).rt Tryz.results116 1 ?_;simp[aK,World.setCell_alloc_past,b,sL]
    ·go_wp2_with fail;replace a:=a.fA 26;refine a.nd (f · (a.bd j.out dC)) ?_;clear a b;intro C aP aQ aR aS aT _ a;have b:=a.f2;go_wp2_with fail;go_light;refine((a.dT (sl (sz C) 1)).l1 (sz C) 26 (d.pos c) 0 0 ⟨#[]⟩ i).rt Tryz.results116 1 ?_;simp[aK,World.setCell_alloc_past,b,sL]
   ·go_wp2_with fail;replace a:=(a.fA 28).gI e;refine a.nd (f · (a.bd j.out dC)) ?_;clear a b;intro D aV aW aX aY aZ _ a;have b:=a.f2;go_wp2_with fail;go_light;refine((a.dT (sl (sz D) 1)).l1 (sz D) 28 (d.pos c) 0 0 e i (lT t dC)).rt Tryz.results116 1 ?_;simp[aK,World.setCell_alloc_past,b,sL]
  ·go_wp2_with fail;replace a:=(a.fA 28).gI e;refine a.nd (f · (a.bd j.out dC)) ?_;clear a b;intro F a0 a1 a2 a3 a4 _ a;have b:=a.f2;go_wp2_with fail;go_light;refine((a.dT (sl (sz F) 1)).l1 (sz F) 28 (d.pos c) 0 0 e i (lT t dC)).rt Tryz.results116 1 ?_;simp[aK,World.setCell_alloc_past,b,sL]
 ·go_wp2_with fail;refine a.nd (G · (q.out.down a.le a.ok dC)) ?_;clear a b;intro a5 a6 a7 a8 a9 a' _ a;have b:=a.f2;go_wp2_with fail;go_light;exact a.rt Tryz.results116 1
end Go.Proofs.YtdghkacbpebcoaaGreat
