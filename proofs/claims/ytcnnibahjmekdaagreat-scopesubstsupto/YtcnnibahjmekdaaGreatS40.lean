import Derived.Lib.SliceRun
import Derived.Test.YtcnnibahjmekdaaGreatS27
namespace Go.Proofs.YtcnnibahjmekdaaGreat
open Go.RowKit
open Value renaming slice→J
open List renaming length→O
open Option renaming none→I
open World renaming heap→U
open _root_.Array renaming size→E
open Obj renaming cells→Ob
set_option linter.all false
set_option maxRecDepth 100000
set_option maxHeartbeats 0
section
variable{ls:List Int} {c:Nat} {S:Nat->Prop} {ao:OA} {w:World}
theorem yg:(Tryz.prog.info? 3).map (λa=>(a.zero,a.size,a.bytes))=some (some (vN 0),1,8):=by kernel_rfl
def l9 (w:World) (ls:List Int) (e:Ending) (w':World):Prop:=∃(ao:OA) (n c:Nat),e=.returned (J ao n c)/\ro w' (λb=>E (U w)<=b) 1 (J ao n c) (O ls) (aC ls)/\Below (E (U w)) w w'
theorem uk (g j:Nat):(⟨g,0,I⟩:Addr).add j=⟨g,j,I⟩:=by unfold Addr.add;split<;>simp_all
theorem uJ {W:World} {e:Array Oper} {f:List Oper} {o:Oper} {a:Act} {i:Exit->Act->World->Prop} (j:o.guard=I) {s x:Operand} (k:o.op=.call {callee:=.builtin .append,args:=#[s,x],argTypes:=#[22,22]}) {v xv:Value} (l:a.eval s=v) (m:a.eval x=xv) {R:Value->World->Prop}
 (d:∃b w',(Builtin.append_ #[22,22] o.type #[v,xv]).run Tryz.prog W=.ok b w'/\R b w') (h:∀b w',R b w'->wpList Tryz.prog e i f (a.put o.dst b) w'):wpList Tryz.prog e i (o::f) a W:=by
  refine wpList_plain j λp hK=>?_;obtain⟨b,w',d,n⟩:=d;unfold Oper.wp execOp;simp only[k,resolve,invoke,builtin,Sem.run_bind,Sem.run_pure,Result.andThen_ok,List.map_toArray,List.map_cons,List.map_nil,l,m,d];exact hK _ _ (h b w' n)
theorem re {ad:Addr} (h:ro w S 1 (J (some ad) (O ls) c) (O ls) (aC ls)) (hl:O ls<=30000) (o:TypeId):
 ∃j f,(Builtin.append_ #[22,22] o #[J (aS (E (U w))) 0 0,J (some ad) (O ls) c]).run Tryz.prog (w.alloc (Ob #[] 3))=.ok j f/\∃ao k c,j=J ao k c/\ro f (λm=>E (U w)<=m) 1 (J ao k c) (O ls) (aC ls)/\Below (E (U w)) w f:=by
 obtain⟨r,s,t,u,v⟩:=info_parts yg;have x:(w.alloc (Ob #[] 3)).ownsRow (E (U w)) 3 1 (J (aS (E (U w))) 0 0) 0 []:=World.ownsRow_lit w #[] 0 (lR _) dC Q;have z:O (aC ls)=O ls*1:=by simp[aC]
 have A:∀b e,(aC ls)[b]? =some e->(w.alloc (Ob #[] 3)).cell? (ad.add b)=some e:=by
  intro b e p
  have V:b<O ls:=by
   have:=(gS p).1;omega
  obtain⟨a,q,l,i,d⟩:=h;obtain⟨g,B,_,C,D⟩:=d oM;simp only[Value.slice.injEq] at l;obtain rfl:ad=⟨g,0,I⟩:=Option.some.inj (l.1.trans B);have F:=uk g b;rw[F];exact(World.cell?_of_block (w:=w) (a:=⟨g,b,I⟩) (Below.heap_alloc _ _ _ C)).trans ((D b oM).trans p)
 have one:∀e∈aC ls,e.oneCell'=true:=by
  intro e G;obtain⟨H,_,rfl⟩:=List.mem_map.1 G;rfl
 obtain⟨j,f,K,i,d,_,_⟩:=run_append_own_at (P:=Tryz.prog) (w.alloc (Ob #[] 3)) (E (U w)) 22 o 3 r _ 1 8 Tryz.underlying22 s t u v Q dC (J (aS (E (U w))) 0 0) 0 [] x ad (O ls) c (aC ls) z A one (by unfold maxLen;omega) oM sQ;rw[Nat.zero_add,List.nil_append] at i
 have L:∃ao k c,j=J ao k c:=by
  rcases i.2 with⟨n,W⟩|⟨H,y,zz,n,_⟩
  ·exact⟨_,_,_,n⟩
  ·exact⟨_,_,_,n⟩
 obtain⟨ao,M,q,rfl⟩:=L;refine⟨_,f,K,ao,M,q,Q,ro.bJ i (λm N=>(i.lt m N).1),⟨d.os,d.tape,d.output,lT sQ d.size,λR T=>(d.block R (by simp;omega) (λl=>by simp[Value.ownBlock] at l;omega)).trans (Below.heap_alloc _ _ _ T)⟩⟩
theorem vD {n:Nat} (h:ro w S 1 (J ao n c) (O ls) (aC ls)) (hl:O ls<=30000):Calls Tryz.prog 36 #[J ao n c] w (l9 w ls):=by
 have x:=λ(w:World) (d:OA) (n c i e:Nat)=>Lib.run_eql_slice_nil (P:=Tryz.prog) w 22 3 d n c i e Tryz.underlying22;obtain rfl:=h.len
 cases ao with
 |none=>
  have j:ls=[]:=by
   rcases Nat.eq_zero_or_pos (O ls) with b|b
   ·exact List.eq_nil_of_length_eq_zero b
   ·obtain⟨d,e,a,_,k⟩:=h;obtain⟨g,l,_⟩:=k b;simp at a;rw[l] at a;exact absurd a.1 sQ
  subst j;go_enter Tryz.func36,Tryz.ntmps36
  go_wp2_with fail;go_ret;exact⟨I,0,0,Q,⟨I,0,Q,Q,λa=>absurd a sQ⟩,Below.refl _ _⟩
 |some m=>
  go_enter Tryz.func36,Tryz.ntmps36
  go_wp2_with (at_builtin;refine uJ (v:=J (aS (E (U w))) 0 0) (xv:=J (some m) (O ls) c) (R:=λo f=>∃ao n c,o=J ao n c/\ro f (λp=>E (U w)<=p) 1 (J ao n c) (O ls) (aC ls)/\Below (E (U w)) w f) rQ rQ rQ rQ (re h hl _) ?_;rintro y z ⟨q,r,s,rfl,t,u⟩)
  go_ret;exact⟨q,r,s,Q,t,u⟩
def jr (w:World) (kind n:Int) (ls:List Int) (e:Ending) (w':World):Prop:=∃(ao:OA) (m c:Nat),e=.returned (.agg (ai kind n (J ao m c) (J I 0 0)))/\ro w' (λb=>E (U w)<=b) 1 (J ao m c) (O ls) (aC ls)/\Below (E (U w)) w w'
theorem pL {kind n:Int} {m:Nat} {f:Value} (h:ro w S 1 (J ao m c) (O ls) (aC ls)) (hl:O ls<=30000):Calls Tryz.prog 18 #[.agg (ai kind n (J ao m c) f)] w (jr w kind n ls):=by
 have p:Hid (∀b,Below (E (U w)) w b->Calls Tryz.prog 36 #[J ao m c] b (l9 b ls)):=λb a=>vD (h.frame (al.below a) a.size) hl;have o:Hid (∀i j,Below (E (U w)) w ((w.alloc i).alloc j).drew):=λi j=>(bV w i j).drew;clear h;go_enter Tryz.func18,Tryz.ntmps18
 go_wp2_with fail;go_region_with (go_at_call 36;refine(p.out _ (o.out _ _)).mono ?_;rintro u v ⟨q,r,s,rfl,t,d⟩;have k:=aN.below ((aN.at w (ai kind n (J ao m c) f) Q).alloc (Ob dF 39)).drew d (by simp;omega);have e:=aN.below (aN.at (w.alloc (Ob (ai kind n (J ao m c) f) 39)) dF (ad:=E (U w)+1) sQ).drew d sQ;have x:=k.cell;have y:=k.fz;have z:=k.lt;have A:=e.cell;have B:=e.fz;have C:=e.lt)
 all_goals
  go_wp2_with fail;go_light;refine bodyPost_ret (dQ Tryz.results18 Q (aN.bQ e _ _ _ _)) Q ⟨q,r,s,Q,?_,Below.bQ ((o.out _ _).trans (d.mono (by simp;omega))) (Nat.le_succ _) _ _ _ _⟩;have D:=d.size;exact(t.weaken (S':=λl=>E (U w)+2<=l) (λl a _=>sU a)).frame (al.bQ oM _ _ _ _) sQ |>.weaken (λl a _=>by omega)
end
end Go.Proofs.YtcnnibahjmekdaaGreat
