/- impl. -/
import Derived.Test.YtagdihffmjopaaaGreatDoorZGenst
import Derived.Test.YtagdihffmjopaaaGreatDoorApp
namespace Go.Proofs.YtagdihffmjopaaaGreatDoor
set_option linter.all false
open Go.RowKit
set_option maxRecDepth 100000 in
set_option maxHeartbeats 2000000 in
theorem gensZ_false (hLi:noQ 1 102 True 8 fun x=>x=19) {w:World} {rb tb cap i:Nat} {t:Tk} {k a:Int} (h:Rd w rb tb cap t i k a):Calls Tryz.prog 77 #[.pointer (some ⟨rb,0,none⟩),.bool false] w (NodeZ 1 w rb tb cap t i k False (-1) (fun x=>x=9)):=by
 have hl:=h.l
 have hposI:(0:Int)≤(t.pos i:Int)∧(t.pos i:Int)≤7000:=by have:=h.good.posb i;omega
 go_enter Tryz.func77,Tryz.ntmps77
 have hfd4:=fld46_4
 have q:=Mz.start (wt:=1) h
 go_wp2_with fail
 refine(q.ne' (sz w) (zeroC)).lf (node20 · 9) ?_
 clear q
 intro w1 q
 have F:=q.f1
 go_wp2_with fail
 refine(q.ne' (sz w1) (nk 9 (t.pos i) nl)).et (eat42 · _) ?_
 clear q F
 intro w2 b2 i2 hE2 q
 have F:=q.f2
 go_wp2_with fail
 ·go_wp2_with fail
  go_light
  exact Mz.retb (C:=fun x=>x=9) (d:= -1) Tryz.results77 rfl rfl (q.lk 9 (t.pos i) 0 0 ⟨#[]⟩ hposI (by decide) (fun _=>Gr.of_gens (fun x hx=>by cases hx))) 1 rfl (fun _=>rfl) (by omega) rfl
 ·obtain rfl:b2=true:=by have hb:= ‹(!b2)=false›;simpa using hb
  have hgo2:Hid (i<i2):=by have:=(hE2.yes rfl).1;show i<i2;omega
  go_wp2_with fail
  go_loopg [6] (ml t i2 k) (fun g u wr=>∃(v:Value) (vs:List (List Value)) (tyb:Bool) (j:Nat) (kj aj:Int),g=ml t j kj∧Few 0 vs j kj∧(u=.bool tyb∧(kj=0→∀x∈vs.map labOf,x=10∨x=11))∧Mz 1 w rb tb cap t i k True (0) wr j kj aj [(sz w1,nk 9 (t.pos i) v),(sz w,zeroC)] [] v vs)
  case atStart=>exact⟨nl,[],false,i2,k,a,rfl,⟨fun _=>by simp,by simp⟩,⟨rfl,fun _ x hx=>by cases hx⟩,((q.up (g':=True) (fun _ _=>hgo2.out)).less (by omega))⟩
  case round=>
   clear F q
   obtain⟨v,vs,tyb,j,kj,aj,hgk,hF,⟨rfl,HC⟩,q⟩:=hrel
   have hj:=q.st.rd.lt
   have hposJ:(0:Int)≤(t.pos j:Int)∧(t.pos j:Int)≤7000:=by have:=h.good.posb j;omega
   have HG:Hid (gk=ml t j kj):=hgk
   clear hgk
   obtain⟨ao3,cp3,rfl⟩:=q.shape
   have F:=q.f2
   cases hk0:(kj==0)
   ·go_wp2_with fail
    refine q.lf ok21b ?_
    clear q F
    intro w4 q
    have F:=q.f2
    go_wp2_with fail
    go_light
    exact Mz.retb (C:=fun x=>x=9) (d:= -1) Tryz.results77 rfl rfl ((q.fk 9 (t.pos i) (Nat.le_trans hF.2 (by decide)) hposI (fun e=>absurd e (by simpa using hk0))).up (g':=False) (fun x=>x.elim)) 1 rfl (fun _=>rfl) (by omega) rfl
   ·obtain rfl:kj=0:=by simpa using hk0
    have hb1:Hid (i≤j∧k=0∧i<j):=⟨q.le,q.ok rfl,q.go trivial rfl⟩
    replace HC:Hid (∀x∈vs.map labOf,x=10∨x=11):=HC rfl
    have hFl:vs.length≤6001:=by have:=hF.1 rfl;have:=h.good.few;omega
    replace q:=q.rebase
    go_wp2_with fail
    refine q.lf ok21b ?_
    clear q F
    intro w5 q
    have F:=q.f2
    go_wp2_with fail
    refine q.lf (node20 · 10) ?_
    clear q F
    intro w6 q
    have F:=q.f2
    cases hq:kindB t j 0 0 4
    ·go_wp2_with fail
     refine(q.ne' (sz w6) (nk 10 (t.pos j) nl)).lf (kind22 · 0 (by decide) 4) ?_
     clear q F
     intro w7 q
     have F:=q.f3
     go_wp2_with fail
     refine(q.p00 11).nm name40 ?_
     clear q F
     intro w8 s8 i8 k8 a8 hs8 ho8 ok8 q
     have F:=q.f3
     go_wp2_with (at_builtin;refine((q.p04 s8).lk 11 (t.pos j) 0 0 s8 hposJ (Nat.le_trans hs8 (by decide)) (fun _=>Gr.of_gtype (fun x hx=>by cases hx))).ap (sz w8) (Nat.le_trans hFl (by decide)) ?_;clear q F;intro w9 ao9 cp9 q;have F:=q.f3)
     go_wp2_with fail
     refine(q.p15 (.slice ao9 (vs.length+1) cp9)).et (eat42 · _) ?_
     clear q F
     intro w10 b10 i10 hE10 q
     have F:=q.f3
     go_wp2_with fail
     ·go_wp2_with fail
      go_light
      exact Mz.retb (C:=fun x=>x=9) (d:= -1) Tryz.results77 rfl rfl ((q.fk 9 (t.pos i) (by have:=hFl;simp;omega) hposI (fun e=>Gr.of_gens (hl:=by have:=hFl;simp;omega) ((fun e=>by rw[List.map_append];exact all_snoc HC.out (.inr rfl)) e))).unbase (i':=i) (k':=k) (g':=False) (s':= -14) hb1.out.1 (fun _=>hb1.out.2.1) (fun x=>x.elim) (by omega)) 2 rfl (fun _=>rfl) (by omega) rfl
     ·go_wp2_with fail
      refine q.wn (want39 · _) ?_
      clear q F
      intro w11 i11 k11 a11 ok11 q
      have F:=q.f3
      go_wp2_with fail
      replace q:=q.pop
      go_roundg (ml t i11 k11)
      case measure=>rw[HG.out];exact ml_lt hj q.le (q.go trivial)
      case rel=>exact⟨(.slice ao9 (vs.length+1) cp9),(vs++[(nodeC 11 (t.pos j) 0 0 s8 nl).toList]),true,i11,k11,a11,rfl,Few.snoc (t:=t) hF rfl hj h.good (q.go trivial),⟨rfl,(fun e=>by rw[List.map_append];exact all_snoc HC.out (.inr rfl))⟩,q.unbase (s':=0) (g':=True) hb1.out.1 (fun _=>hb1.out.2.1) (fun _ _=>hb1.out.2.2) (by omega)⟩
    ·cases tyb
     ·go_wp2_with fail
      refine(q.ne' (sz w6) (nk 10 (t.pos j) nl)).lf (kind22 · 0 (by decide) 4) ?_
      clear q F
      intro w12 q
      have F:=q.f3
      go_wp2_with fail
      refine(hLi q.st.rd).mono ?_
      rintro e w13 ⟨q13,p13,n13,m13,s13,ko13,kl13,kc13,i13,k13,a13,rfl,hx13,hn13,hc13,hz13⟩
      have hnm13:=hn13.name
      replace q:=q.nxm hx13
      clear hx13 hn13 hc13 hz13
      replace F:=q.f3
      go_wp2_with (at_builtin;refine((q.p04 s13).lk 10 (t.pos j) 0 0 s13 hposJ hnm13 (fun _=>Gr.of_glife (fun x hx=>by cases hx))).ap (sz w13) (Nat.le_trans hFl (by decide)) ?_;clear q F;intro w14 ao14 cp14 q;have F:=q.f3)
      go_wp2_with fail
      refine(q.p15 (.slice ao14 (vs.length+1) cp14)).et (eat42 · _) ?_
      clear q F
      intro w15 b15 i15 hE15 q
      have F:=q.f3
      go_wp2_with fail
      ·go_wp2_with fail
       go_light
       exact Mz.retb (C:=fun x=>x=9) (d:= -1) Tryz.results77 rfl rfl ((q.fk 9 (t.pos i) (by have:=hFl;simp;omega) hposI (fun e=>Gr.of_gens (hl:=by have:=hFl;simp;omega) ((fun e=>by rw[List.map_append];exact all_snoc HC.out (.inl rfl)) e))).unbase (i':=i) (k':=k) (g':=False) (s':= -14) hb1.out.1 (fun _=>hb1.out.2.1) (fun x=>x.elim) (by omega)) 2 rfl (fun _=>rfl) (by omega) rfl
      ·go_wp2_with fail
       refine q.wn (want39 · _) ?_
       clear q F
       intro w16 i16 k16 a16 ok16 q
       have F:=q.f3
       go_wp2_with fail
       replace q:=q.pop
       go_roundg (ml t i16 k16)
       case measure=>rw[HG.out];exact ml_lt hj q.le (q.go trivial)
       case rel=>exact⟨(.slice ao14 (vs.length+1) cp14),(vs++[(nodeC 10 (t.pos j) 0 0 s13 nl).toList]),false,i16,k16,a16,rfl,Few.snoc (t:=t) hF rfl hj h.good (q.go trivial),⟨rfl,(fun e=>by rw[List.map_append];exact all_snoc HC.out (.inl rfl))⟩,q.unbase (s':=0) (g':=True) hb1.out.1 (fun _=>hb1.out.2.1) (fun _ _=>hb1.out.2.2) (by omega)⟩
     ·go_wp2_with fail
      refine(q.ne' (sz w6) (nk 10 (t.pos j) nl)).lf (kind22 · 0 (by decide) 4) ?_
      clear q F
      intro w17 q
      have F:=q.f3
      go_wp2_with fail
      refine(q.p00 11).nm name40 ?_
      clear q F
      intro w18 s18 i18 k18 a18 hs18 ho18 ok18 q
      have F:=q.f3
      go_wp2_with (at_builtin;refine((q.p04 s18).lk 11 (t.pos j) 0 0 s18 hposJ (Nat.le_trans hs18 (by decide)) (fun _=>Gr.of_gtype (fun x hx=>by cases hx))).ap (sz w18) (Nat.le_trans hFl (by decide)) ?_;clear q F;intro w19 ao19 cp19 q;have F:=q.f3)
      go_wp2_with fail
      refine(q.p15 (.slice ao19 (vs.length+1) cp19)).et (eat42 · _) ?_
      clear q F
      intro w20 b20 i20 hE20 q
      have F:=q.f3
      go_wp2_with fail
      ·go_wp2_with fail
       go_light
       exact Mz.retb (C:=fun x=>x=9) (d:= -1) Tryz.results77 rfl rfl ((q.fk 9 (t.pos i) (by have:=hFl;simp;omega) hposI (fun e=>Gr.of_gens (hl:=by have:=hFl;simp;omega) ((fun e=>by rw[List.map_append];exact all_snoc HC.out (.inr rfl)) e))).unbase (i':=i) (k':=k) (g':=False) (s':= -14) hb1.out.1 (fun _=>hb1.out.2.1) (fun x=>x.elim) (by omega)) 2 rfl (fun _=>rfl) (by omega) rfl
      ·go_wp2_with fail
       refine q.wn (want39 · _) ?_
       clear q F
       intro w21 i21 k21 a21 ok21 q
       have F:=q.f3
       go_wp2_with fail
       replace q:=q.pop
       go_roundg (ml t i21 k21)
       case measure=>rw[HG.out];exact ml_lt hj q.le (q.go trivial)
       case rel=>exact⟨(.slice ao19 (vs.length+1) cp19),(vs++[(nodeC 11 (t.pos j) 0 0 s18 nl).toList]),true,i21,k21,a21,rfl,Few.snoc (t:=t) hF rfl hj h.good (q.go trivial),⟨rfl,(fun e=>by rw[List.map_append];exact all_snoc HC.out (.inr rfl))⟩,q.unbase (s':=0) (g':=True) hb1.out.1 (fun _=>hb1.out.2.1) (fun _ _=>hb1.out.2.2) (by omega)⟩
end Go.Proofs.YtagdihffmjopaaaGreatDoor
namespace Go.Proofs.YtagdihffmjopaaaGreatDoor
set_option linter.all false
open Go.RowKit
theorem gensZ:gensQ:=by
 intro w rb tb cap i t k a h b
 cases b
 ·exact gensZ_false lifeZ1 h
 ·exact gensZ_true lifeZ1 (boundsZ lifeZ1) h
theorem lab_var0 {n m:Int} {l:Nat}:lab 4 n m ⟨#[]⟩ l=104:=by
 unfold lab
 rw[if_neg (by decide),if_pos rfl,if_pos (show(⟨#[]⟩:ByteArray).size=0 from rfl)]
theorem lab_field0 {po:Int} {v:Value}:labOf (nodeC 5 po 0 0 ⟨#[]⟩ v).toList=5:=by
 show lab 5 0 0 ⟨#[]⟩ (lenOf v)=5
 unfold lab
 rw[if_neg (by decide),if_neg (by decide),if_pos rfl,if_pos (show(⟨#[]⟩:ByteArray).size=0 from rfl),if_pos rfl]
def HeadZ (w:World) (rb tb cap:Nat) (t:Tk) (i:Nat) (k:Int) (e:Ending) (w':World):Prop:=
 ∃(pos n:Int) (name:ByteArray) (ao:Option Addr) (cp:Nat) (vs:List (List Value)) (i':Nat) (k' a':Int),e=.returned (.agg (nodeC 8 pos n 0 name (.slice ao vs.length cp)))∧Nx w rb tb cap t i k True w' i' k' a'∧Kids w.heap.size (k'=0) w' (.slice ao vs.length cp) vs∧vs.length≤6010∧name.size≤20000∧(0≤pos∧pos≤7000)∧
  (k'=0→∃ps x,vs.map labOf=9::(ps++[x])∧(ps.length:Int)=n∧(∀p∈ps,p=12)∧tyK x)∧(k'=0→∀f,tot 1 f w' vs+16≤16*((i':Int) - (i:Int)))
theorem HeadZ.node {w:World} {rb tb cap:Nat} {t:Tk} {i:Nat} {k:Int} {e:Ending} {w':World} (h:HeadZ w rb tb cap t i k e w'):NodeZ 1 w rb tb cap t i k True 8 (fun x=>x=8) e w':=by
 obtain⟨pos,n,name,ao,cp,vs,i',k',a',rfl,hx,hK,hl,hn,hp,hC,hz⟩:=h
 refine⟨8,pos,n,0,name,ao,vs.length,cp,i',k',a',rfl,hx,hK.node (by omega) hn hp (fun e=>?_),fun e=>?_,fun e f=>?_⟩
 ·obtain⟨ps,x,h1,h2,h3,h4⟩:=hC e
  exact Gr.of_fn ⟨.inl rfl,ps,x,[],by rw[h1],h2,h3,h4,by simp,by simp⟩
 ·obtain⟨ps,x,h1,h2,h3,h4⟩:=hC e
  have h5:vs.length=ps.length+2:=by have:=congrArg List.length h1;simpa using this
  show lab 8 n 0 name (lenOf (.slice ao vs.length cp))=8
  unfold lab lenOf
  rw[if_pos rfl,if_neg (show ¬(vs.length:Int)=n+3 by omega),if_pos rfl]
 ·obtain⟨hr,h,ha⟩:=hK
  cases f with
  |zero=>
   have h0:=hz e 0
   have h2:nsy 1 0 w' (nodeC 8 pos n 0 name (.slice ao vs.length cp)).toList=0:=rfl
   have h3:=tot_nonneg 1 0 w' vs
   rw[h2]
   omega
  |succ f=>
   have e1:nsy 1 (f+1) w' (nodeC 8 pos n 0 name (.slice ao vs.length cp)).toList=1+(vs.map (nsy 1 f w')).sum:=nsy_eq hr ha
   have e2:=hz e f
   rw[e1]
   unfold tot at e2
   omega
section
variable{w W w':World} {rb tb cap i j:Nat} {t:Tk} {k kj aj:Int} {g:Prop} {s:Int} {L:List (Nat × Array Value)} {T:List (List Value)} {kv:Value} {vs:List (List Value)}
theorem Mz.ret_head {fn:Func} {r:Nat} (hf:fn.results=#[.cell r 28]) {act:Act} (hd:act.defers=[]) (ht:act.tmps.getD r undef=.pointer (some ⟨w.heap.size,0,none⟩)) {ao:Option Addr} {cp len:Nat} (hlen:len=vs.length) (q:Mz 1 w rb tb cap t i k True s W j kj aj L T (.slice ao len cp) vs) (N:Nat) (hz:L[N]? =some (w.heap.size,zeroC)) {pos n:Int} {name:ByteArray} (hl:vs.length≤6010) (hn:name.size≤20000) (hp:0≤pos∧pos≤7000)
 (hC:kj=0→∃ps x,vs.map labOf=9::(ps++[x])∧(ps.length:Int)=n∧(∀p∈ps,p=12)∧tyK x) (hs:s+16≤0):
 bodyPost Tryz.prog fn (HeadZ w rb tb cap t i k) .ret act (Go.Proofs.YtagdihffmjopaaaGreatDoor.set11 W w.heap.size (.int .i64 8) (.int .i64 pos) (.int .i64 n) (.int .i64 0) (.string name) (.slice ao len cp) (.int .i64 0) (.int .i64 0) (.slice none 0 0) (.slice none 0 0) (.slice none 0 0)):=by
 subst hlen
 have q1:=q.put11 N hz (.int .i64 8) (.int .i64 pos) (.int .i64 n) (.int .i64 0) (.string name) (.slice ao vs.length cp) (.int .i64 0) (.int .i64 0) (.slice none 0 0) (.slice none 0 0) (.slice none 0 0)
 have hB:Blk _ w.heap.size _:=(q1.mid.blk N (w.heap.size,_) (by rw[List.getElem?_set,if_pos rfl,if_pos (List.getElem?_eq_some_iff.1 hz).1])).2
 refine bodyPost_ret (results_node hf ht hB) hd ⟨pos,n,name,ao,cp,vs,j,kj,aj,rfl,⟨q1.st.rd,q1.st.kp,q1.le,q1.ok,q1.go⟩,q1.mid.kids,hl,hn,hp,hC,fun e f=>?_⟩
 have h1:=q1.sz e f
 have h2:=tot_nonneg 1 f (set11 W w.heap.size (.int .i64 8) (.int .i64 pos) (.int .i64 n) (.int .i64 0) (.string name) (.slice ao vs.length cp) (.int .i64 0) (.int .i64 0) (.slice none 0 0) (.slice none 0 0) (.slice none 0 0)) T
 omega
end
end Go.Proofs.YtagdihffmjopaaaGreatDoor
namespace Go.Proofs.YtagdihffmjopaaaGreatDoor
set_option linter.all false
open Go.RowKit
set_option maxRecDepth 100000 in
set_option maxHeartbeats 1000000 in
theorem headZp {w:World} {rb tb cap i:Nat} {t:Tk} {k a:Int} (h:Rd w rb tb cap t i k a):Calls Tryz.prog 44 #[.pointer (some ⟨rb,0,none⟩),.bool false] w (HeadZ w rb tb cap t i k):=by
 have hl:=h.l
 have hposI:(0:Int)≤(t.pos i:Int)∧(t.pos i:Int)≤7000:=by have:=h.good.posb i;omega
 go_enter Tryz.func44,Tryz.ntmps44
 have q:=Mz.start (wt:=1) h
 go_wp2_with fail
 refine(q.ne' (sz w) (zeroC)).lf (node20 · 8) ?_
 clear q
 intro w1 q
 have F:=q.f1
 go_wp2_with fail
 refine(q.ne' (sz w1) (nk 8 (t.pos i) nl)).wn (want39 · _) ?_
 clear q F
 intro w2 i2 k2 a2 ok2 q
 have F:=q.f2
 go_wp2_with fail
 refine q.nm name40 ?_
 clear q F
 intro w3 s3 i3 k3 a3 hs3 ho3 ok3 q
 have F:=q.f2
 go_wp2_with fail
 refine(q.p04 s3).lf (node20 · 9) ?_
 clear q F
 intro w4 q
 have F:=q.f2
 have hposG:(0:Int)≤((t.pos i3):Int)∧((t.pos i3):Int)≤7000:=by have:=h.good.posb i3;omega
 go_wp2_with fail
 replace q:=(((q.lk 9 (t.pos i3) 0 0 ⟨#[]⟩ hposG (by decide) (fun _=>Gr.of_gens (fun x hx=>by cases hx))).p05 (sl ((sz w4)+1) 1)).ne' (sz w4) (nk 9 (t.pos i3) nl)).m1 ((sz w4)+1)
 have lB:=(q.at 1 rfl).2.2.1
 refine(parZ q.st.rd).mono ?_
 rintro e w5 ⟨ao5,cp5,vs5,i5,k5,a5,rfl,hx5,hK5,hl5,hP5,hz5⟩
 have ok5:Hid (k5=0→k3=0):=hx5.ok
 replace q:=(q.holds hx5 hK5 hz5).up (g':=True) (fun _ e=>Nat.lt_of_le_of_lt q.le (hx5.go trivial e))
 clear hx5
 replace F:=q.f3
 have hK2:=hK5.put (b:=(sz w1)) lB 2 (.int .i64 (vs5.length:Int))
 go_wp2_with (at_builtin;refine wp_run (v:=(sl ((sz w4)+1) 1)) (xv:=.slice ao5 vs5.length cp5) (R:=fun vv ww=>∃ao6 cp6,vv=(.slice ao6 (1+vs5.length) cp6)∧Mz 1 w rb tb cap t i k True (-31) ww i5 k5 a5 [(sz w4,nk 9 (t.pos i3) nl),(sz w1,nodeC 8 (t.pos i) (vs5.length:Int) 0 s3 (sl ((sz w4)+1) 1)),(sz w,zeroC)] [] (.slice ao6 (1+vs5.length) cp6) ([(nk 9 (t.pos i3) nl).toList]++vs5)) (by rfl) (by rfl) (by rfl) (by rfl) (Mz.run_apps (us:=vs5) (q.p12 (vs5.length:Int)) hK2 (by simp) (Nat.le_trans hl5 (by decide)) _) ?_;rintro v' w6 ⟨ao6,cp6,rfl,q'⟩;replace q:=q';clear q';replace F:=q.f3)
 go_wp2_with fail
 go_region_law (first|(refine q.as (sz w7) (by have:=hl5;simp;omega) ?_;clear q F;intro w8 ao8 cp8 q;have F:=q.f3)|(go_simp;refine(q.p15 (.slice ao6 (1+vs5.length) cp6)).drew.nn resZ ?_;clear q F;intro w7 x7 i7 k7 a7 hc7 ok7 q;have F:=q.f3))
 all_goals
  go_wp2_with fail
  go_light
  exact Mz.ret_head (vs:=(([(nk 9 (t.pos i3) nl).toList]++vs5)++[x7.t])) (n:=(vs5.length:Int)) Tryz.results44 rfl rfl (by simp;omega) (q.p15 (.slice ao8 ((1+vs5.length)+1) cp8)) 2 rfl (by have:=hl5;simp;omega) (Nat.le_trans hs3 (by decide)) hposI (fun e=>⟨vs5.map labOf,_,by rw[List.map_append,List.map_append];show labOf _::_=_;rfl,by simp,hP5 (ok7.out e),hc7 e⟩) (by omega)
end Go.Proofs.YtagdihffmjopaaaGreatDoor
namespace Go.Proofs.YtagdihffmjopaaaGreatDoor
set_option linter.all false
open Go.RowKit
set_option maxRecDepth 100000 in
set_option maxHeartbeats 1000000 in
theorem implZ {w:World} {rb tb cap i:Nat} {t:Tk} {k a:Int} (h:Rd w rb tb cap t i k a):Calls Tryz.prog 41 #[.pointer (some ⟨rb,0,none⟩)] w (NodeZ 1 w rb tb cap t i k True 8 (fun x=>x=7)):=by
 have hl:=h.l
 have hposI:(0:Int)≤(t.pos i:Int)∧(t.pos i:Int)≤7000:=by have:=h.good.posb i;omega
 go_enter Tryz.func41,Tryz.ntmps41
 have q:=Mz.start (wt:=1) h
 go_wp2_with fail
 refine(q.ne' (sz w) (zeroC)).lf (node20 · 7) ?_
 clear q
 intro w1 q
 have F:=q.f1
 go_wp2_with fail
 refine(q.ne' (sz w1) (nk 7 (t.pos i) nl)).wn (want39 · _) ?_
 clear q F
 intro w2 i2 k2 a2 ok2 q
 have F:=q.f2
 go_wp2_with fail
 refine q.nn (gensZ · true) ?_
 clear q F
 intro w3 x3 i3 k3 a3 hc3 ok3 q
 have F:=q.f2
 go_wp2_with fail
 refine(q.ne' (sz w3) x3.a).nm (path80 · 2 (by decide) (by decide)) ?_
 clear q F
 intro w4 s4 i4 k4 a4 hs4 ho4 ok4 q
 have F:=q.f3
 go_wp2_with fail
 refine(q.p14 s4).wn (want39 · _) ?_
 clear q F
 intro w5 i5 k5 a5 ok5 q
 have F:=q.f3
 go_upto_region 6 with fail
 go_cut [] (fun wx=>∃(kv:Value) (vs:List (List Value)) (j6:Nat) (k6 a6:Int),(vs.length=2∧(k6=0→pathOK 2 s4∧∃x,vs.map labOf=[9,x]∧tyK x))∧Mz 1 w rb tb cap t i k True (-55) wx j6 k6 a6 [(sz w3,x3.a),(sz w1,nodeC 7 (t.pos i) 0 0 s4 kv),(sz w,zeroC)] [] kv vs)
 case first=>
  go_wp2_with fail
  go_region_law (go_simp;refine q.drew.nd (typ_anyZ _ · (bd_some _ _ _ 3)) ?_;clear q F;intro w7 x7 i7 k7 a7 hc7 ok7 q;have F:=q.f3)
  all_goals
   go_wp2_with fail
   go_meet
   exact⟨(sl (sz w7) 2),[x3.t,x7.t],i7,k7,a7,⟨rfl,fun e=>⟨ho4 (ok5.out (ok7.out e)),_,by show [labOf x3.t,_]=_;rw[hc3 (ok4.out (ok5.out (ok7.out e)))],hc7 e⟩⟩,((((q.swap).p15 (sl (sz w7) 2)).m2 (sz w7)).less (by omega))⟩
 case rest=>
  clear F q
  obtain⟨kv,vs,j6,k6,a6,hV,q⟩:=hcut
  obtain⟨w8,hw⟩:∃x,x=wc:=⟨_,rfl⟩
  subst hw
  have F:=q.f3
  have HV:Hid (k6=0→pathOK 2 s4∧∃x,vs.map labOf=[9,x]∧tyK x):=hV.2
  have hV2:=hV.1
  clear hV
  obtain⟨ao9,cp9,rfl⟩:=q.shape
  replace F:=q.f3
  go_wp2_with fail
  refine q.wn (want39 · _) ?_
  clear q F
  intro w10 i10 k10 a10 ok10 q
  have F:=q.f3
  go_wp2_with fail
  go_loopg [5] (ml t i10 k10) (fun g _ wr=>∃(v:Value) (vs:List (List Value)) (j:Nat) (kj aj:Int),g=ml t j kj∧Few 4 vs j kj∧(1≤vs.length∧(kj=0→pathOK 2 s4∧∃x fs,vs.map labOf=9::x::fs∧tyK x∧∀f∈fs,f=208))∧Mz 1 w rb tb cap t i k True (-71) wr j kj aj [(sz w3,x3.a),(sz w1,nodeC 7 (t.pos i) 0 0 s4 v),(sz w,zeroC)] [] v vs)
  case atStart=>exact⟨(.slice ao9 vs.length cp9),vs,i10,k10,a10,rfl,⟨fun _=>by omega,by omega⟩,⟨by omega,fun e=>by obtain⟨h1,x,h2,h3⟩:=HV.out (ok10.out e);exact⟨h1,x,[],h2,h3,fun f hf=>by cases hf⟩⟩,(q.less (by omega))⟩
  case round=>
   clear F q
   obtain⟨v,vs,j,kj,aj,hgk,hF,hE,q⟩:=hrel
   have hj:=q.st.rd.lt
   have hposJ:(0:Int)≤(t.pos j:Int)∧(t.pos j:Int)≤7000:=by have:=h.good.posb j;omega
   have HG:Hid (gk=ml t j kj):=hgk
   clear hgk
   obtain⟨ao11,cp11,rfl⟩:=q.shape
   have F:=q.f3
   cases hk0:(kj==0)
   ·go_wp2_with fail
    refine q.lf ok21b ?_
    clear q F
    intro w12 q
    have F:=q.f3
    go_wp2_with fail
    go_light
    exact Mz.retb (C:=fun x=>x=7) (d:=8) Tryz.results41 rfl rfl (q.fo 7 (t.pos i) 0 0 s4 (Nat.le_trans hF.2 (by decide)) hposI hs4 (fun e=>absurd e (by simpa using hk0))) 2 rfl (fun _=>lab_ne (by decide)) (by omega) rfl
   ·obtain rfl:kj=0:=by simpa using hk0
    have hb1:Hid (i≤j∧k=0∧i<j):=⟨q.le,q.ok rfl,q.go trivial rfl⟩
    have HE:Hid (1≤vs.length∧pathOK 2 s4∧∃x fs,vs.map labOf=9::x::fs∧tyK x∧∀f∈fs,f=208):=⟨hE.1,hE.2 rfl⟩
    clear hE
    have hFl:vs.length≤6005:=by have:=hF.1 rfl;have:=h.good.few;omega
    replace q:=q.rebase
    go_wp2_with fail
    refine q.lf ok21b ?_
    clear q F
    intro w13 q
    have F:=q.f3
    go_wp2_with fail
    refine q.et (eat42 · _) ?_
    clear q F
    intro w14 b14 i14 hE14 q
    have F:=q.f3
    go_wp2_with fail
    ·obtain⟨gb15,rfl⟩:=q.shapeT HE.out.1
     clear F
     have F:=q.f3
     obtain⟨c16,hR16,q'⟩:=q.park
     clear q
     have q:=q'
     clear q'
     go_wp2_with fail
     refine(headZp q.st.rd).mono ?_
     rintro e w17 ⟨p17,n17,s17,ao17,cp17,vs17,i17,k17,a17,rfl,hx17,hK17,hl17,hs17,hp17,hC17,hz17⟩
     have HC:Hid (k17=0→∃ps x,vs17.map labOf=9::(ps++[x])∧(ps.length:Int)=n17∧(∀p∈ps,p=12)∧tyK x):=hC17
     clear hC17
     replace q:=(q.list hx17 hK17 hz17).up (g':=True) (fun _ e=>Nat.lt_of_le_of_lt q.le (hx17.go trivial e))
     clear hx17 hK17 hz17
     clear F
     obtain⟨c_g,f_g,l_g,r_g⟩:=q.at 1 rfl
     obtain⟨c_n,f_n,l_n,r_n⟩:=q.at 2 rfl
     obtain⟨c_z,f_z,l_z,r_z⟩:=q.at 3 rfl
     go_upto_region 10 with fail
     go_cut [] (fun wx=>∃(kvf:Value) (vsf:List (List Value)) (j18:Nat) (k18 a18:Int),(vsf.length≤6011∧(k18=0→(∃ps x rest,vsf.map labOf=9::(ps++x::rest)∧(ps.length:Int)=n17∧(∀p∈ps,p=12)∧tyK x∧rest.length≤1∧∀y∈rest,noK y)∧(vsf.length:Int)=n17+3))∧Mz 1 w rb tb cap t j 0 True (16*((j:Int) - (i:Int))+(-95)) wx j18 k18 a18 [(sz w17,nodeC 8 p17 n17 0 s17 kvf),(gb15,c16),(sz w3,x3.a),(sz w1,nodeC 7 (t.pos i) 0 0 s4 (.slice (some ⟨gb15,0,none⟩) vs.length cp11)),(sz w,zeroC)] ([]++(vs++[])) kvf vsf)
     case first=>
      go_wp2_with fail
      go_region_law (first|(refine q.as (sz w19) (Nat.le_trans hl17 (by decide)) ?_;clear q c_f f_f l_f r_f c_g f_g l_g r_g c_n f_n l_n r_n c_z f_z l_z r_z;intro w20 ao20 cp20 q;obtain⟨c_f,f_f,l_f,r_f⟩:=q.at 0 rfl;obtain⟨c_g,f_g,l_g,r_g⟩:=q.at 2 rfl;obtain⟨c_n,f_n,l_n,r_n⟩:=q.at 3 rfl;obtain⟨c_z,f_z,l_z,r_z⟩:=q.at 4 rfl)|(go_simp;refine(q.ne' (sz w17) (nodeC 8 p17 n17 0 s17 (.slice ao17 vs17.length cp17))).drew.nd blkZ ?_;clear q c_g f_g l_g r_g c_n f_n l_n r_n c_z f_z l_z r_z;intro w19 x19 i19 k19 a19 hc19 ok19 q;obtain⟨c_f,f_f,l_f,r_f⟩:=q.at 0 rfl;obtain⟨c_g,f_g,l_g,r_g⟩:=q.at 2 rfl;obtain⟨c_n,f_n,l_n,r_n⟩:=q.at 3 rfl;obtain⟨c_z,f_z,l_z,r_z⟩:=q.at 4 rfl;obtain⟨ne_f_g,ne_g_f⟩:=q.ne 0 2 rfl rfl (by decide);obtain⟨ne_f_n,ne_n_f⟩:=q.ne 0 3 rfl rfl (by decide);obtain⟨ne_f_z,ne_z_f⟩:=q.ne 0 4 rfl rfl (by decide)))
      all_goals
       go_wp2_with fail
       go_meet
       exact⟨(.slice ao20 (vs17.length+1) cp20),(vs17++[x19.t]),i19,k19,a19,⟨by have:=hl17;simp;omega,fun e=>by obtain⟨ps,x,h1,h2,h3,h4⟩:=HC.out (ok19.out e);exact⟨⟨ps,x,[labOf x19.t],by rw[List.map_append,h1];simp,h2,h3,h4,by simp,fun y hy=>by have h9:=List.mem_singleton.1 hy;rw[h9];exact hc19 e⟩,by have:=congrArg List.length h1;simp at this⊢;omega⟩⟩,((q.p05 (.slice ao20 (vs17.length+1) cp20)).less (by omega))⟩
     case rest=>
      clear c_g f_g l_g r_g c_n f_n l_n r_n c_z f_z l_z r_z q
      obtain⟨kvf,vsf,j18,k18,a18,hW,q⟩:=hcut
      obtain⟨w21,hw⟩:∃x,x=wc:=⟨_,rfl⟩
      subst hw
      obtain⟨c_f,f_f,l_f,r_f⟩:=q.at 0 rfl
      obtain⟨c_g,f_g,l_g,r_g⟩:=q.at 2 rfl
      obtain⟨c_n,f_n,l_n,r_n⟩:=q.at 3 rfl
      obtain⟨c_z,f_z,l_z,r_z⟩:=q.at 4 rfl
      obtain⟨ne_f_g,ne_g_f⟩:=q.ne 0 2 rfl rfl (by decide)
      obtain⟨ne_f_n,ne_n_f⟩:=q.ne 0 3 rfl rfl (by decide)
      obtain⟨ne_f_z,ne_z_f⟩:=q.ne 0 4 rfl rfl (by decide)
      have HW:Hid (k18=0→(∃ps x rest,vsf.map labOf=9::(ps++x::rest)∧(ps.length:Int)=n17∧(∀p∈ps,p=12)∧tyK x∧rest.length≤1∧∀y∈rest,noK y)∧(vsf.length:Int)=n17+3):=hW.2
      have hWl:=hW.1
      clear hW
      obtain⟨ao22,cp22,rfl⟩:=q.shape
      clear c_f f_f l_f r_f c_g f_g l_g r_g c_n f_n l_n r_n c_z f_z l_z r_z
      obtain⟨c_f,f_f,l_f,r_f⟩:=q.at 0 rfl
      obtain⟨c_g,f_g,l_g,r_g⟩:=q.at 2 rfl
      obtain⟨c_n,f_n,l_n,r_n⟩:=q.at 3 rfl
      obtain⟨c_z,f_z,l_z,r_z⟩:=q.at 4 rfl
      replace q:=Mz.unpark hR16 ((q.fo 8 p17 n17 0 s17 (Nat.le_trans hWl (by decide)) hp17 hs17 (fun e=>Gr.of_fn ⟨.inl rfl,(HW.out e).1⟩)).swapL.sub (T':=vs++[(nodeC 8 p17 n17 0 s17 (.slice ao22 vsf.length cp22)).toList]) (fun x hx=>by simp only[List.mem_append,List.mem_cons,List.not_mem_nil,or_false,List.nil_append,List.append_nil] at hx⊢;exact hx.symm) (fun f W=>by simp only[tot_append,tot_cons,tot_nil];omega))
      have F:=q.f4
      clear c_f f_f l_f r_f c_g f_g l_g r_g c_n f_n l_n r_n c_z f_z l_z r_z
      go_wp2_with (at_builtin;refine q.ap (sz w21) (Nat.le_trans hFl (by decide)) ?_;clear q F;intro w23 ao23 cp23 q;have F:=q.f4)
      go_wp2_with fail
      replace q:=(q.p25 (.slice ao23 (vs.length+1) cp23)).pop
      go_roundg (ml t j18 k18)
      case measure=>rw[HG.out];exact ml_lt hj q.le (q.go trivial)
      case rel=>exact⟨(.slice ao23 (vs.length+1) cp23),(vs++[(nodeC 8 p17 n17 0 s17 (.slice ao22 vsf.length cp22)).toList]),j18,k18,a18,rfl,Few.snoc (t:=t) hF rfl hj h.good (q.go trivial),⟨by simp,fun e=>by obtain⟨h1,x,fs,h2,h3,h4⟩:=HE.out.2;refine⟨h1,x,fs++[208],?_,h3,all_snoc (C:=fun f=>f=208) h4 rfl⟩;rw[List.map_append,h2];show _++[lab 8 n17 0 s17 vsf.length]=_;rw[show lab 8 n17 0 s17 vsf.length=208 by unfold lab;rw[if_pos rfl,if_pos (HW.out e).2,if_pos rfl]];rfl⟩,q.unbase (s':= -71) (g':=True) hb1.out.1 (fun _=>hb1.out.2.1) (fun _ _=>hb1.out.2.2) (by omega)⟩
    ·go_wp2_with fail
     go_light
     exact Mz.retb (C:=fun x=>x=7) (d:=8) Tryz.results41 rfl rfl ((q.fo 7 (t.pos i) 0 0 s4 (Nat.le_trans hF.2 (by decide)) hposI hs4 (fun e=>Gr.of_impl HE.out.2)).unbase (s':= -70) (g':=True) hb1.out.1 (fun _=>hb1.out.2.1) (fun _ _=>hb1.out.2.2) (by omega)) 2 rfl (fun _=>lab_ne (by decide)) (by omega) rfl
end Go.Proofs.YtagdihffmjopaaaGreatDoor
