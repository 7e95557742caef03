/- Parse of print: what is read is printed so that it is read back. -/
import Derived.Test.YtdplogkmkgekdaaGreatDoorBkq
set_option linter.all false
set_option maxRecDepth 100000
set_option maxHeartbeats 4000000
namespace Go.Proofs.YtdplogkmkgekdaaGreatDoor.Bk
theorem yR {α β γ:Type} (x:GP α) (f:α→GP β) (g:β→GP γ):bnd (bnd x f) g=bnd x (fun a=>bnd (f a) g):=by
 funext s
 unfold bnd
 cases x s<;>rfl
theorem Bd {α β γ:Type} (x:GP α) (f:GP β) (g:β→GP γ):bnd (seq x f) g=seq x (bnd f g):=yR x _ g
theorem EJ {α β:Type} (a:α) (f:α→GP β):bnd (ret a) f=f a:=rfl
structure Hp (gen:Bool) (s:ByteArray) (g:List Nr) (ps:List (List Nr)) (y:List Nr):Prop where
 nm:nI s
 gg:PG true g
 g0:gen=false→∃q,g=nd 9 q 0 0 E0 []
 pp:∀x∈ps,Dx x
 ty:PT y
structure Bh (gen:Bool) (s:ByteArray) (g:List Nr) (ps:List (List Nr)) (y:List Nr) (Kg:Kd) (Kp:List Kd) (Ky:Kd) (ws:List Wd):Prop where
 pg:Pt g Kg
 pp:Zip Pt ps Kp
 py:Pt y Ky
 gl:glue ws=glue ([102,110]::s.data.toList::(Kg.t++(bF [40] [41] Kp++kN Ky)))
 ok:∀u∈ws,okW u=true
 hd:∃r,ws=[102,110]::r
 lg:bA g=9
 lp:∀x∈ps.map bA,x=12
 ly:nN (bA y)
 rd:∀(t:Tk) (i:Nat),At t i ws→FoR t (i+ws.length)→∃g' ps' y',(er g'=er g∧ps'.map er=ps.map er∧er y'=er y)∧Ev (fun n=>fM t (gG t n 0) gen n) ⟨i,0,0⟩ (((t.pos i:Int),s,g'::(ps'++[y']),(ps'.length:Int)),⟨i+ws.length,0,0⟩)
theorem FH {gen:Bool} {s:ByteArray} {g:List Nr} {ps:List (List Nr)} {y:List Nr} (h:Hp gen s g ps y):∃Kg Kp Ky ws,Bh gen s g ps y Kg Kp Ky ws:=by
 obtain⟨Kg,ug,bg⟩:=h.gg
 obtain⟨Kp,Up,lp⟩:=Ke h.pp
 obtain⟨Ky,wy,qM⟩:=J7 h.ty
 have hug:gen=false→ug=[]:=fun h0=>by
  obtain⟨q,rfl⟩:=h.g0 h0
  obtain⟨h1,hp⟩:=bg.pt
  cases h1 with
  |zero=>exact hp.elim
  |succ h1=>
   obtain⟨k,p,n,m,s',F,Ks,e,rfl,hz,-⟩:=hp
   obtain⟨rfl,-,-,-,-,hl⟩:=Oa e
   have hF:F=[]:=List.length_eq_zero_iff.1 hl.symm
   subst hF
   cases Ks with
   |cons _ _=>exact hz.elim
   |nil=>
    have h2:glue ug=[]:=bg.gl
    cases ug with
    |nil=>rfl
    |cons a b=>rw[aQ] at h2;cases h2
 refine⟨Kg,Kp,Ky,[102,110]::s.data.toList::(ug++(([40]::(aS [44] Up++[[41]]))++wy)),bg.pt,lp.pt,qM.pt,?_,aV rfl (aV h.nm.2 (bE bg.ok (bE (aV rfl (bE (kF rfl lp.ok) (by decide))) qM.ok))),⟨_,rfl⟩,bg.lb,lp.lb,qM.lb,?_⟩
 ·unfold bF
  simp only[aQ,aN,bg.gl,iO lp.gl,qM.gl]
 ·rintro t i ⟨a1,a2,a3⟩ hf
  obtain⟨a4,a5⟩:=a3.app
  obtain⟨a6,a7⟩:=a5.app
  have l2:([40]::(aS [44] Up++[[41]])).length=1+(aS [44] Up).length+1:=by simp only[List.length_cons,List.length_append,List.length_nil];omega
  have e0:i+([102,110]::s.data.toList::(ug++(([40]::(aS [44] Up++[[41]]))++wy))).length=i+1+1+ug.length+([40]::(aS [44] Up++[[41]])).length+wy.length:=by simp only[List.length_cons,List.length_append];omega
  rw[e0] at hf⊢
  obtain⟨P',h3,h4⟩:=MQ lp a6
  obtain⟨y',h5,h6⟩:=qM.rd t _ a7 hf
  have h4':Ev (fun n=>iw t (gG t n 0) n) ⟨i+1+1+ug.length,0,0⟩ (P',⟨i+1+1+ug.length+([40]::(aS [44] Up++[[41]])).length,0,0⟩):=Ev.to h4 (by omega)
  have h6':Ev (fun n=>dQ t (gG t n 0)) _ (y',_):=h6
  obtain⟨g',h7,h8⟩:∃g',er g'=er g∧Ev (fun n=>cond gen (iT t true n) (ret (nd 9 (t.pos (i+1+1):Int) 0 0 E0 []))) ⟨i+1+1,0,0⟩ (g',⟨i+1+1+ug.length,0,0⟩):=by
   cases gen
   ·have:=hug rfl
    subst this
    obtain⟨q,rfl⟩:=h.g0 rfl
    exact⟨nd 9 (t.pos (i+1+1):Int) 0 0 E0 [],bD rfl,Ev.no rfl Ev.ret'⟩
   ·obtain⟨g',h7,h8⟩:=bg.rd t _ a4 (gY a6.1 rfl)
    exact⟨g',h7,Ev.yes rfl h8⟩
  refine⟨g',P',y',⟨h7,h3,h5⟩,?_⟩
  have hs:=h.nm
  unfold fM
  exact evs
theorem FI {t:Tk} {T:GP (List Nr)} {fu:Nat} {gen:Bool} (hg:GT t) (hT:uq T) (i:Nat):wp (fM t T gen fu) (fun h _=>∃g ps y,Hp gen h.2.1 g ps y∧h.2.2.1=g::(ps++[y])∧h.2.2.2=(ps.length:Int)) i:=by
 have sT:=hT.2
 unfold fM
 refine bM (aO aA fun _=>dF hg (fun _=>aA) fun s hs _=>bM ?_)
 refine av (R:=fun g _=>PG true g∧(gen=false→∃q,g=nd 9 q 0 0 E0 [])) (wp_cond (fun h=>(BQ hg _).mono fun g j hg=>⟨hg,fun h0=>by rw[h] at h0;cases h0⟩) (fun h=>wp_ret ⟨nG (A:=[]) (B:=[]) (fun _ h=>by cases h) (fun _ h=>by cases h) (by decide),fun _=>⟨_,rfl⟩⟩)) (fun _=>aA) ?_
 rintro g j ⟨h1,h2⟩
 exact av (MR hg hT _) (fun _=>aA) fun ps j2 hps=>av (J8 hT _) (fun _=>aA) fun y j3 hy=>wp_ret ⟨g,ps,y,⟨hs,h1,h2,hps,hy⟩,rfl,rfl⟩
theorem TA {Kg Ky:Kd} {Kp Kr:List Kd} {n:Int} (hn:n=(Kp.length:Int)):kd (Kg::(Kp++[Ky]++Kr)) 0=Kg∧((Kg::(Kp++[Ky]++Kr)).drop 1).take n.toNat=Kp∧kd (Kg::(Kp++[Ky]++Kr)) (1+n.toNat)=Ky∧(Kg::(Kp++[Ky]++Kr)).drop (2+n.toNat)=Kr:=by
 have e:n.toNat=Kp.length:=by rw[hn];simp
 rw[e]
 refine⟨rfl,?_,?_,?_⟩
 ·show(Kp++[Ky]++Kr).take Kp.length=Kp
  rw[List.append_assoc,List.take_left]
 ·unfold kd
  rw[show 1+Kp.length=Kp.length+1 by omega,List.getElem?_cons_succ,List.append_assoc,List.getElem?_append_right (Nat.le_refl _)]
  simp
 ·rw[show 2+Kp.length=(Kp.length+1)+1 by omega,List.drop_succ_cons]
  have:(Kp++[Ky]).length=Kp.length+1:=by simp
  rw[←this,List.drop_left]
theorem Ol {gen:Bool} {p m:Int} {s:ByteArray} {g y:List Nr} {ps R:List (List Nr)} {Kg Ky:Kd} {Kp Kr:List Kd} {ws:List Wd} (b:Bh gen s g ps y Kg Kp Ky ws) (hm:m=0∨m=1) (hR:Zip Pt R Kr) (hl:R.length≤1) (hn:∀x∈R.map bA,dB x):Pt (nd 8 p (ps.length:Int) m s (g::(ps++[y])++R)) ⟨8,(g::(ps++[y])++R).length,aC (m==1) [[112,117,98]]++([102,110]::s.data.toList::(Kg.t++(bF [40] [41] Kp++(kN Ky++bB Kr))))⟩:=by
 have hz:Zip Pt (g::(ps++[y])++R) (Kg::(Kp++[Ky]++Kr)):=⟨b.pg,(Zip.app b.pp (show Zip Pt [y] [Ky] from⟨b.py,trivial⟩)).app hR⟩
 have hg:Gr 8 (ps.length:Int) m s ((g::(ps++[y])++R).map bA):=by
  constructor<;>intro e<;>first|exact absurd e (by decide)|exact⟨hm,ps.map bA,bA y,R.map bA,by simp[b.lg],by simp,b.lp,b.ly,by simpa using hl,hn⟩
 have h:=Pt.nd (p:=p) hz hg
 obtain⟨e1,e2,e3,e4⟩:=TA (Kg:=Kg) (Ky:=Ky) (Kp:=Kp) (Kr:=Kr) (n:=(ps.length:Int)) (by rw[b.pp.len])
 have:asm 8 (ps.length:Int) m s.data.toList (Kg::(Kp++[Ky]++Kr))=aC (m==1) [[112,117,98]]++([102,110]::s.data.toList::(Kg.t++(bF [40] [41] Kp++(kN Ky++bB Kr)))):=by
  show aC (m==1) [[112,117,98]]++([102,110]::s.data.toList::((kd (Kg::(Kp++[Ky]++Kr)) 0).t++(bF [40] [41] (((Kg::(Kp++[Ky]++Kr)).drop 1).take (ps.length:Int).toNat)++(kN (kd (Kg::(Kp++[Ky]++Kr)) (1+(ps.length:Int).toNat))++bB ((Kg::(Kp++[Ky]++Kr)).drop (2+(ps.length:Int).toNat))))))=_
  rw[e1,e2,e3,e4]
 rw[this] at h
 exact h
def MW (t:Tk) (T:GP (List Nr)) (n:Nat):GP (List Nr):=bnd (bnd (fM t T false n) (fun h=>ret (nd 8 h.1 h.2.2.2 0 h.2.1 h.2.2.1))) (fun y=>seq (aM t ⟨#[59]⟩) (ret y))
structure Bm (m:Tk→Nat→GP (List Nr)) (L:List Wd) (lb:Int→Prop) (x:List Nr) (K:Kd) (us:List Wd) (tl:List Wd):Prop where
 pt:Pt x K
 gl:glue us=glue (K.t++tl)
 ok:∀u∈us,okW u=true
 hd:∃u r,us=u::r∧(L.contains u||([]:List Nat).contains (wk u))=true
 rd:qC m Ez x us
 lb:lb (bA x)
abbrev mMt:Tk→Nat→GP (List Nr):=fun t n=>MW t (gG t n 0) n
def QZ (x:List Nr):Prop:=∃K us,Bm mMt [[102,110]] (fun z=>z=8) x K us [[59]]
theorem nMt {p:Int} {s:ByteArray} {g y:List Nr} {ps:List (List Nr)} (h:Hp false s g ps y):QZ (nd 8 p (ps.length:Int) 0 s (g::(ps++[y]))):=by
 obtain⟨Kg,Kp,Ky,ws,b⟩:=FH h
 have h1:=Ol (p:=p) (m:=0) (R:=[]) (Kr:=[]) b (.inl rfl) trivial (by simp) (fun _ h=>by cases h)
 have e1:g::(ps++[y])++[]=g::(ps++[y]):=by simp
 rw[e1] at h1
 refine⟨_,ws++[[59]],h1,?_,bE b.ok (by decide),?_,?_,?_⟩
 ·show glue (ws++[[59]])=glue (([]++([102,110]::s.data.toList::(Kg.t++(bF [40] [41] Kp++(kN Ky++[])))))++[[59]])
  rw[aN,b.gl]
  simp only[aN,aQ,List.nil_append,List.append_nil]
 ·obtain⟨r,e⟩:=b.hd
  exact⟨_,_,by rw[e];rfl,rfl⟩
 ·intro t i hat _
  obtain⟨a1,a2,-⟩:=hat.app
  obtain⟨g',ps',y',⟨h2,h3,h4⟩,h5⟩:=b.rd t i a1 ⟨_,a2,.inl rfl⟩
  have hl:(ps'.length:Int)=(ps.length:Int):=by have:=congrArg List.length h3;simp at this;omega
  refine⟨nd 8 (t.pos i) (ps'.length:Int) 0 s (g'::(ps'++[y'])),by rw[hl];exact bD (by simp[h2,h3,h4]),?_⟩
  have e0:i+(ws++[[59]]).length=i+ws.length+1:=by simp only[List.length_append,List.length_cons,List.length_nil];omega
  rw[e0]
  show Ev (fun n=>MW t (gG t n 0) n) _ _
  unfold MW
  exact evs
 ·rw[dA]
  have:¬(((g::(ps++[y])).length:Nat):Int)=(ps.length:Int)+3:=by simp;omega
  unfold lab
  rw[if_pos rfl,if_neg this,if_pos rfl]
def MX (t:Tk) (T B:GP (List Nr)) (n:Nat):GP (List Nr):=bnd (fM t T false n) (fun h=>bnd (B) (fun z=>ret (nd 8 h.1 h.2.2.2 0 h.2.1 (h.2.2.1++[z]))))
abbrev mFi:Tk→Nat→GP (List Nr):=fun t n=>MX t (gG t n 0) (gG t n 3) n
def VA (x:List Nr):Prop:=∃K us,Bm mFi [[102,110]] (fun z=>z=208) x K us []
theorem EI {K:Kd} {u:List Wd} (h:glue u=glue K.t):glue u=glue (bB [K]):=by
 simp only[bB,List.map_cons,List.map_nil,List.flatten_cons,List.flatten_nil,List.append_nil,h]
theorem nFi {p:Int} {s:ByteArray} {g y z:List Nr} {ps:List (List Nr)} (h:Hp false s g ps y) (hz:PB z):VA (nd 8 p (ps.length:Int) 0 s (g::(ps++[y])++[z])):=by
 obtain⟨Kg,Kp,Ky,ws,b⟩:=FH h
 obtain⟨Kz,uz,bz⟩:=hz
 have h1:=Ol (p:=p) (m:=0) (R:=[z]) (Kr:=[Kz]) b (.inl rfl) ⟨bz.pt,trivial⟩ (by simp) (fun x h=>by rw[List.mem_singleton.1 h,bz.lb];unfold dB;omega)
 refine⟨_,ws++uz,h1,?_,bE b.ok bz.ok,?_,?_,?_⟩
 ·show glue (ws++uz)=glue (([]++([102,110]::s.data.toList::(Kg.t++(bF [40] [41] Kp++(kN Ky++bB [Kz])))))++[])
  rw[aN,b.gl]
  simp only[aN,aQ,List.nil_append,List.append_nil,EI bz.gl,List.cons_append,List.append_assoc]
 ·obtain⟨r,e⟩:=b.hd
  exact⟨_,_,by rw[e];rfl,rfl⟩
 ·intro t i hat _
  obtain⟨a1,a2⟩:=hat.app
  obtain⟨g',ps',y',⟨h2,h3,h4⟩,h5⟩:=b.rd t i a1 ((a2.head bz.hd).sub rfl)
  obtain⟨z',h6,h7⟩:=bz.rd t _ a2 trivial
  have h7':Ev (fun n=>gG t n 3) _ (z',_):=h7
  have hl:(ps'.length:Int)=(ps.length:Int):=by have:=congrArg List.length h3;simp at this;omega
  refine⟨nd 8 (t.pos i) (ps'.length:Int) 0 s (g'::(ps'++[y'])++[z']),by rw[hl];exact bD (by simp[h2,h3,h4,h6]),?_⟩
  have e0:i+(ws++uz).length=i+ws.length+uz.length:=by simp only[List.length_append];omega
  rw[e0]
  show Ev (fun n=>MX t (gG t n 0) (gG t n 3) n) _ _
  unfold MX
  exact evs
 ·rw[dA]
  have:(((g::(ps++[y])++[z]).length:Nat):Int)=(ps.length:Int)+3:=by simp;omega
  unfold lab
  rw[if_pos rfl,if_pos this,if_pos rfl]
structure zR (t:Tk) (X:Nat→GP (List Nr)) (e:ByteArray) (B:Nat→List (List Nr)→GP (Bool × List (List Nr))):Prop where
 stop:∀{o:List (List Nr)} {i:Nat},au t i 0 0 e=true→Ev (fun n=>B n o) ⟨i,0,0⟩ ((false,o),⟨i+1,0,0⟩)
 step:∀{o:List (List Nr)} {i j:Nat} {y:List Nr},au t i 0 0 e=false→Ev X ⟨i,0,0⟩ (y,⟨j,0,0⟩)→Ev (fun n=>B n o) ⟨i,0,0⟩ ((true,o++[y]),⟨j,0,0⟩)
structure LsB (m:Tk→Nat→GP (List Nr)) (L:List Wd) (lb:Int→Prop) (tl:List Wd) (F:List (List Nr)) (Ks:List Kd) (Us:List (List Wd)):Prop where
 pt:Zip Pt F Ks
 gl:glue Us.flatten=glue (Ks.map (fun k=>k.t++tl)).flatten
 ok:∀us∈Us,∀u∈us,okW u=true
 rd:Zip (fun x us=>qC m Ez x us∧∃u r,us=u::r∧(L.contains u||([]:List Nat).contains (wk u))=true) F Us
 lb:∀x∈F.map bA,lb x
theorem yS {m:Tk→Nat→GP (List Nr)} {L:List Wd} {lb:Int→Prop} {tl:List Wd}:∀{F:List (List Nr)},(∀x∈F,∃K us,Bm m L lb x K us tl)→∃Ks Us,LsB m L lb tl F Ks Us
 |[],_=>⟨[],[],⟨trivial,rfl,(fun _ h=>nomatch h),trivial,(fun _ h=>nomatch h)⟩⟩
 |x::F,h=>by
  obtain⟨K,us,b⟩:=h x (List.mem_cons_self ..)
  obtain⟨Ks,Us,l⟩:=yS (F:=F) (fun y hy=>h y (List.mem_cons_of_mem _ hy))
  refine⟨K::Ks,us::Us,⟨b.pt,l.pt⟩,?_,?_,⟨⟨b.rd,b.hd⟩,l.rd⟩,?_⟩
  ·simp only[List.flatten_cons,List.map_cons]
   rw[aN,b.gl,l.gl,←aN]
  ·intro v hv
   rcases List.mem_cons.1 hv with rfl|hv
   ·exact b.ok
   ·exact l.ok v hv
  ·intro v hv
   rcases List.mem_cons.1 hv with rfl|hv
   ·exact b.lb
   ·exact l.lb v hv
theorem Dy {Ks:List Kd}:(Ks.map (fun k=>k.t++([]:List Wd))).flatten=bB Ks:=by
 unfold bB
 simp
theorem zR.run {t:Tk} {m:Tk→Nat→GP (List Nr)} {L:List Wd} {e:Wd} {B:Nat→List (List Nr)→GP (Bool × List (List Nr))} (hB:zR t (m t) ⟨e.toArray⟩ B) (he:lT e ⟨e.toArray⟩=true) (hne:∀j,cu t j L []→au t j 0 0 ⟨e.toArray⟩=false):∀{F:List (List Nr)} {Us:List (List Wd)},Zip (fun x us=>qC m Ez x us∧∃u r,us=u::r∧(L.contains u||([]:List Nat).contains (wk u))=true) F Us→∀(i:Nat) (o:List (List Nr)),At t i (Us.flatten++[e])→∃F',F'.map er=F.map er∧EvL B o ⟨i,0,0⟩ (o++F',⟨i+Us.flatten.length+1,0,0⟩)
 |[],[],_,i,o,hat=>⟨[],rfl,by
  have:=EvL.stop (hB.stop (o:=o) (fD hat.1 he))
  rw[List.append_nil]
  exact this⟩
 |x::F,u::Us,hz,i,o,hat=>by
  rw[List.flatten_cons,List.append_assoc] at hat
  obtain⟨a1,a2⟩:=hat.app
  obtain⟨x',h1,h2⟩:=hz.1.1 t i a1 trivial
  obtain⟨F',h3,h4⟩:=zR.run hB he hne hz.2 (i+u.length) (o++[x']) a2
  refine⟨x'::F',by rw[List.map_cons,List.map_cons,h1,h3],?_⟩
  rw[List.append_assoc] at h4
  have e2:i+(u::Us).flatten.length+1=i+u.length+Us.flatten.length+1:=by rw[List.flatten_cons,List.length_append];omega
  rw[e2]
  exact EvL.on (hB.step (hne _ (a1.head hz.1.2)) h2) h4
 |[],_::_,hz,_,_,_=>hz.elim
 |_::_,[],hz,_,_,_=>hz.elim
theorem aez {t:Tk} {T X:Nat→GP (List Nr)} (hX:X=fun n=>MW t (T n) n):zR t X ⟨#[125]⟩ (fun n=>iP t (T n) n):=by
 have e:∀n o,iP t (T n) n o=bnd (gN) (fun Ig=>bnd (cond (Ig) (aY t ⟨#[125]⟩) (ret (true))) (fun Ih=>cond (Ih) (ret (false,o)) (bnd (MW t (T n) n) (fun y=>ret (true,o++[y]))))):=by
  intro n o
  unfold iP MW
  simp only[yR,Bd,EJ]
 subst hX
 exact⟨fun h=>by simp only[e];exact evs,fun h1 h2=>by simp only[e];exact evs⟩
theorem aeA {t:Tk} {T B X:Nat→GP (List Nr)} (hX:X=fun n=>MX t (T n) (B n) n):zR t X ⟨#[125]⟩ (fun n=>jJ t (T n) (B n) n):=by
 have e:∀n o,jJ t (T n) (B n) n o=bnd (gN) (fun Ig=>bnd (cond (Ig) (aY t ⟨#[125]⟩) (ret (true))) (fun Ih=>cond (Ih) (ret (false,o)) (bnd (MX t (T n) (B n) n) (fun y=>ret (true,o++[y]))))):=by
  intro n o
  unfold jJ MX
  simp only[yR,Bd,EJ]
 subst hX
 exact⟨fun h=>by simp only[e];exact evs,fun h1 h2=>by simp only[e];exact evs⟩
def Dz (t:Tk) (T:GP (List Nr)):GP (List Nr):=bnd (dh t) (fun f=>bnd (bnd (aY t ⟨#[112,117,98]⟩) (fun Ak=>cond (Ak) (ret ((1:Int))) (ret ((0:Int))))) (fun fm=>bnd (bG t) (fun fs=>seq (aM t ⟨#[58]⟩) (bnd (T) (fun y=>ret (nd 5 f 0 fm fs [y]))))))
abbrev mFd:Tk→Nat→GP (List Nr):=fun t n=>Dz t (gG t n 0)
def VB (x:List Nr):Prop:=∃K us,Bk mFd Vo [[112,117,98]] [2] (fun z=>z=105) x K us
theorem nFd {p m:Int} {s:ByteArray} {y:List Nr} (hs:nI s) (hm:m=0∨m=1) (hy:PT y):VB (nd 5 p 0 m s [y]):=by
 obtain⟨⟨K,u,b⟩,-⟩:=hy
 have hg:Gr 5 0 m s ([y].map bA):=by
  constructor<;>intro e<;>first|exact absurd e (by decide)|exact⟨_,rfl,b.lb⟩
 refine⟨_,aC (m==1) [[112,117,98]]++(s.data.toList::[58]::u),Pt.nd (Ks:=[K]) ⟨b.pt,trivial⟩ hg,?_,?_,?_,?_,?_⟩
 ·show glue _=glue (aC (m==1) [[112,117,98]]++(aC (s.data.toList.length !=0) [s.data.toList,[58]]++bB [K]))
  rw[hs.when]
  simp only[aQ,aN,bB,List.map_cons,List.map_nil,List.flatten_cons,List.flatten_nil,List.append_nil,b.gl,List.cons_append,List.nil_append]
 ·refine bE ?_ (aV hs.2 (aV rfl b.ok))
  rcases hm with rfl|rfl<;>decide
 ·rcases hm with rfl|rfl
  ·exact⟨_,_,rfl,by rw[hs.1];exact Bool.or_true _⟩
  ·exact⟨_,_,rfl,rfl⟩
 ·intro t i hat hf
  have hf0:cu t (i+(aC (m==1) [[112,117,98]]++(s.data.toList::[58]::u)).length) [[44],[125]] []:=hf
  have e0:i+(aC (m==1) [[112,117,98]]++(s.data.toList::[58]::u)).length=i+(aC (m==1) [[112,117,98]]).length+1+1+u.length:=by simp only[List.length_append,List.length_cons];omega
  rw[e0] at hf0⊢
  obtain⟨a0,a1,a2,a3⟩:=hat.app
  obtain⟨y',h1,h2⟩:=b.rd t _ a3 (hf0.sub rfl)
  refine⟨nd 5 (t.pos i) 0 m s [y'],bD (by simp[h1]),?_⟩
  show Ev (fun n=>Dz t (gG t n 0)) _ _
  rcases hm with rfl|rfl
  ·have a1':dI t i s.data.toList:=a1
   have a2':dI t (i+1) [58]:=a2
   have c0:cu t i [] [2]:=⟨_,a1',.inr (by rw[hs.1];rfl)⟩
   have h2':Ev (fun n=>gG t n 0) ⟨i+1+1,0,0⟩ (y',⟨i+1+1+u.length,0,0⟩):=h2
   unfold Dz;exact evs
  ·have a0':dI t i [112,117,98]:=a0.1
   have a1':dI t (i+1) s.data.toList:=a1
   have a2':dI t (i+1+1) [58]:=a2
   have h2':Ev (fun n=>gG t n 0) ⟨i+1+1+1,0,0⟩ (y',⟨i+1+1+1+u.length,0,0⟩):=h2
   unfold Dz;exact evs
 ·rw[dA]
  have:=hs.sz
  simp[lab,this]
theorem acw {t:Tk} {T X:Nat→GP (List Nr)} (hX:X=fun n=>Dz t (T n)):wQ t X ⟨#[44]⟩ ⟨#[125]⟩ (fun n=>lK t (T n)):=by
 have e:∀n o,lK t (T n) o=bnd (gN) (fun Ai=>bnd (cond (Ai) (aY t ⟨#[125]⟩) (ret (true))) (fun b32=>cond (b32) (ret (false,o)) (bnd (Dz t (T n)) (fun y=>bnd (bY t 0 ⟨#[125]⟩) (fun Aj=>cond (Aj) (ret (true,o++[y])) (seq (aM t ⟨#[44]⟩) (ret (true,o++[y])))))))):=by
  intro n o
  unfold lK Dz
  simp only[yR,Bd,EJ]
 subst hX
 exact⟨fun h1=>by simp only[e];exact evs,fun h1 h2 h3=>by simp only[e];exact evs,fun h1 h2 h3 h4=>by simp only[e];exact evs⟩
def vQ (y:List Nr):List Nr:=nd 5 (match y with|[]=>0|z::_=>z.p) 0 0 E0 [y]
def lN (t:Tk) (T:GP (List Nr)) (fu:Nat):GP (List Nr):=bnd (dh t) (fun q=>bnd (bG t) (fun vs=>bnd (bnd (bY t 0 ⟨#[40]⟩) (fun DI=>cond (DI) (seq (aM t ⟨#[40]⟩) (bnd (bY t 0 ⟨#[41]⟩) (fun c=>seq (cond c (jB t) (ret ())) (fC t T ⟨#[41]⟩ fu)))) (ret ([])))) (fun ks=>ret (nd 4 q 0 0 vs (ks.map vQ)))))
abbrev mVr:Tk→Nat→GP (List Nr):=fun t n=>lN t (gG t n 0) n
def VD (x:List Nr):Prop:=∃K us,Bk mVr Vo [] [2] (fun z=>z=4) x K us
theorem acy {F F':List (List Nr)} (h:F'.map er=F.map er):(F'.map vQ).map er=(F.map vQ).map er:=by
 induction F' generalizing F with
 |nil=>
  cases F with
  |nil=>rfl
  |cons _ _=>cases h
 |cons x F' ih=>
  cases F with
  |nil=>cases h
  |cons y F=>
   simp only[List.map_cons,List.cons.injEq] at h⊢
   exact⟨bD (by simp[h.1]),ih h.2⟩
theorem Q5:∀{F:List (List Nr)} {Ks:List Kd},Zip Pt F Ks→(∀x∈F.map bA,nN x)→∃K5,Zip Pt (F.map vQ) K5∧K5.map (·.t)=Ks.map (·.t)∧∀x∈(F.map vQ).map bA,x=5
 |[],[],_,_=>⟨[],trivial,rfl,fun _ h=>nomatch h⟩
 |x::F,K::Ks,hz,hl=>by
  obtain⟨K5,h1,h2,h3⟩:=Q5 hz.2 (fun y hy=>hl y (List.mem_cons_of_mem _ hy))
  have hg:Gr 5 0 0 E0 ([x].map bA):=by
   constructor<;>intro e<;>first|exact absurd e (by decide)|exact⟨_,rfl,hl _ (List.mem_cons_self ..)⟩
  have h:Pt (vQ x) ⟨5,[x].length,asm 5 0 0 E0.data.toList [K]⟩:=Pt.nd (Ks:=[K]) (show Zip Pt [x] [K] from⟨hz.1,trivial⟩) hg
  refine⟨_::K5,⟨h,h1⟩,?_,?_⟩
  ·simp only[List.map_cons,List.cons.injEq]
   refine⟨?_,h2⟩
   show bB [K]=K.t
   simp[bB]
  ·intro z hz
   rcases List.mem_cons.1 hz with rfl|hz
   ·rfl
   ·exact h3 z hz
 |[],_::_,hz,_=>hz.elim
 |_::_,[],hz,_=>hz.elim
theorem acz {s:List UInt8} {K5 Ks:List Kd} (h:K5.map (·.t)=Ks.map (·.t)):pSep s K5=pSep s Ks:=by
 have hm:∀{A B:List Kd},A.map (·.t)=B.map (·.t)→oK s A=oK s B:=fun{A B} h=>by
  unfold oK
  have e:∀L:List Kd,L.map (fun k=>s::k.t)=(L.map (·.t)).map (fun t=>s::t):=fun L=>by simp
  rw[e,e,h]
 cases K5 with
 |nil=>
  cases Ks with
  |nil=>rfl
  |cons _ _=>cases h
 |cons a A=>
  cases Ks with
  |nil=>cases h
  |cons b B=>
   simp only[List.map_cons,List.cons.injEq] at h
   show a.t++oK s A=b.t++oK s B
   rw[h.1,hm h.2]
theorem nVr {p:Int} {s:ByteArray} {F:List (List Nr)} (hs:nI s) (hF:∀x∈F,PT x):VD (nd 4 p 0 0 s (F.map vQ)):=by
 obtain⟨Ks,Us,l⟩:=Fw hF
 obtain⟨K5,h51,h52,h53⟩:=Q5 l.pt l.lb
 have hg:Gr 4 0 0 s ((F.map vQ).map bA):=by
  have h9:∀x∈(F.map vQ).map bA,x=if s.size=0 then 105 else 5:=fun x hx=>by rw[if_neg hs.sz];exact h53 x hx
  constructor<;>intro e<;>first|exact absurd e (by decide)|exact h9
 obtain⟨ws,hws⟩:∃ws:List Wd,ws=if F=[] then [] else [40]::(aS [44] Us++[[41]]):=⟨_,rfl⟩
 have hl5:K5.length=Ks.length:=by have:=congrArg List.length h52;simpa using this
 refine⟨_,s.data.toList::ws,Pt.nd h51 hg,?_,?_,⟨_,_,rfl,by rw[hs.1];rfl⟩,?_,by rw[dA];simp[lab,hs.sz]⟩
 ·show glue _=glue (if s.data.toList.length=0 then bF [123] [125] K5 else s.data.toList::ql K5)
  rw[if_neg (fun e=>hs.ne.1 (List.length_eq_zero_iff.1 e)),aQ,aQ,hws]
  congr 1
  by_cases h0:F=[]
  ·rw[if_pos h0]
   have:K5=[]:=by
    have:=l.pt.len
    rw[h0] at this
    exact List.length_eq_zero_iff.1 (hl5.trans this.symm)
   rw[this];rfl
  ·have hK:K5≠[]:=fun e=>by
    rw[e] at hl5
    exact l.pt.ne h0 (List.length_eq_zero_iff.1 hl5.symm)
   rw[if_neg h0,MJ hK]
   unfold bF
   rw[aQ,aQ,aN,aN,iO l.gl,acz h52]
 ·rw[hws]
  by_cases h0:F=[]
  ·rw[if_pos h0];exact aV hs.2 iZ
  ·rw[if_neg h0];exact aV hs.2 (aV rfl (bE (kF rfl l.ok) (by decide)))
 ·rintro t i ⟨a1,a2⟩ hf
  have e0:i+(s.data.toList::ws).length=i+1+ws.length:=by simp only[List.length_cons];omega
  rw[e0] at hf⊢
  have hf0:cu t (i+1+ws.length) [[44],[125]] []:=hf
  subst hws
  by_cases h0:F=[]
  ·rw[if_pos h0] at hf0⊢
   have hf':cu t (i+1) [[44],[125]] []:=hf0
   refine⟨nd 4 (t.pos i) 0 0 s ([].map vQ),by rw[h0];exact bD rfl,?_⟩
   show Ev (fun n=>lN t (gG t n 0) n) ⟨i,0,0⟩ (nd 4 (t.pos i) 0 0 s ([].map vQ),⟨i+1,0,0⟩)
   unfold lN;exact evs
  ·rw[if_neg h0] at a2⊢
   obtain⟨a3,a4⟩:=a2
   obtain⟨F',h1,h2⟩:=Ob l a4
   have c1:cu t (i+1+1) LT [2]:=by
    have hz:=l.rd
    cases F with
    |nil=>exact absurd rfl h0
    |cons x B=>
     cases Us with
     |nil=>exact hz.elim
     |cons u UB=>
      have:At t (i+1+1) (u++(jP [44] UB++[[41]])):=by rw[←List.append_assoc];exact a4
      exact this.app.1.head hz.1.2
   refine⟨nd 4 (t.pos i) 0 0 s (F'.map vQ),bD (acy h1),?_⟩
   have h2':Ev (fun n=>fC t (gG t n 0) ⟨#[41]⟩ n) ⟨i+1+1,0,0⟩ (F',⟨i+1+([40]::(aS [44] Us++[[41]])).length,0,0⟩):=Ev.to h2 (by simp only[List.length_cons,List.length_append,List.length_nil];omega)
   show Ev (fun n=>lN t (gG t n 0) n) _ _
   unfold lN;exact evs
theorem acA {t:Tk} {T X:Nat→GP (List Nr)} (hX:X=fun n=>lN t (T n) n):wQ t X ⟨#[44]⟩ ⟨#[125]⟩ (fun n=>og t (T n) n):=by
 have e:∀n o,og t (T n) n o=bnd (gN) (fun Ai=>bnd (cond (Ai) (aY t ⟨#[125]⟩) (ret (true))) (fun b32=>cond (b32) (ret (false,o)) (bnd (lN t (T n) n) (fun y=>bnd (bY t 0 ⟨#[125]⟩) (fun Aj=>cond (Aj) (ret (true,o++[y])) (seq (aM t ⟨#[44]⟩) (ret (true,o++[y])))))))):=by
  intro n o
  unfold og lN
  simp only[yR,Bd,EJ]
  rfl
 subst hX
 exact⟨fun h1=>by simp only[e];exact evs,fun h1 h2 h3=>by simp only[e];exact evs,fun h1 h2 h3 h4=>by simp only[e];exact evs⟩
abbrev mIt:Tk→Nat→GP (List Nr):=fun t n=>eO t (gG t n 0) (gG t n 3) n
abbrev LI:List Wd:=[[112,117,98],[99,111,112,121],[115,116,114,117,99,116],[101,110,117,109],[116,114,97,105,116],[105,109,112,108],[102,110]]
def itK (z:Int):Prop:=z=3∨z=6∨z=7∨z=108∨z=208
def PI (x:List Nr):Prop:=∃K us,Bm mIt LI itK x K us []
abbrev vF (m:Int):List Wd:=aC (m%2==1) [[112,117,98]]++aC (decide (2≤m)) [[99,111,112,121]]
abbrev MZ (t:Tk) (n:Nat) (p m:Int):GP (List Nr):=bnd (aY t ⟨#[115,116,114,117,99,116]⟩) (fun Ib=>cond (Ib) (jS t (gG t n 0) p m n) (bnd (aY t ⟨#[101,110,117,109]⟩) (fun Ic=>cond (Ic) (lX t (gG t n 0) p m n) (bnd (aY t ⟨#[116,114,97,105,116]⟩) (fun Ie=>cond (Ie) (bnd (bG t) (fun s=>seq (aM t ⟨#[123]⟩) (bnd (loop (iP t (gG t n 0) n) n []) (fun r=>ret (nd 6 p 0 m s r))))) (bnd (fM t (gG t n 0) true n) (fun h=>bnd (gG t n 3) (fun z=>ret (nd 8 p h.2.2.2 m h.2.1 (h.2.2.1++[z]))))))))))
section
variable {t:Tk} {i:Nat} {r:List Nr × Rs}
theorem zS {m:Int} {w:Wd} {rest:List Wd} (hat:At t i (vF m++(w::rest))) (hw:(w=[115,116,114,117,99,116]∨w=[101,110,117,109])∧(m=0∨m=1∨m=2∨m=3)∨(w=[116,114,97,105,116]∨w=[102,110])∧(m=0∨m=1)) (h:Ev (fun n=>MZ t n (t.pos i:Int) m) ⟨i+(vF m).length,0,0⟩ r):Ev (fun n=>eO t (gG t n 0) (gG t n 3) n) ⟨i,0,0⟩ r:=by
 have e:∀n,eO t (gG t n 0) (gG t n 3) n=bnd (dh t) (fun p=>bnd (bY t 0 ⟨#[105,109,112,108]⟩) (fun OD=>cond (OD) (kg t (gG t n 0) (gG t n 3) n) (bnd (bnd (aY t ⟨#[112,117,98]⟩) (fun Ak=>cond (Ak) (ret ((1:Int))) (ret ((0:Int))))) (fun m1=>bnd (bY t 0 ⟨#[99,111,112,121]⟩) (fun c0=>bnd (bY t 1 ⟨#[115,116,114,117,99,116]⟩) (fun c1=>bnd (bY t 1 ⟨#[101,110,117,109]⟩) (fun c2=>bnd (cond (c0&&(c1||c2)) (seq (dK 1) (ret (m1+2))) (ret (m1))) (fun m=>MZ t n p m)))))))):=fun n=>rfl
 simp only[e]
 have wch:∀(j:Nat),dI t j w→au t j 0 0 ⟨#[105,109,112,108]⟩=false∧au t j 0 0 ⟨#[112,117,98]⟩=false∧au t j 0 0 ⟨#[99,111,112,121]⟩=false:=fun j hj=>by
  have:w=[115,116,114,117,99,116]∨w=[101,110,117,109]∨w=[116,114,97,105,116]∨w=[102,110]:=by
   rcases hw with⟨h|h,-⟩|⟨h|h,-⟩
   ·exact .inl h
   ·exact .inr (.inl h)
   ·exact .inr (.inr (.inl h))
   ·exact .inr (.inr (.inr h))
  rcases this with rfl|rfl|rfl|rfl<;>exact⟨gY hj rfl,gY hj rfl,gY hj rfl⟩
 have h2:∀(j:Nat),dI t (j+1) w→2≤m→(au t j 0 1 ⟨#[115,116,114,117,99,116]⟩||au t j 0 1 ⟨#[101,110,117,109]⟩)=true:=fun j hj hm=>by
  rcases hw with⟨h|h,-⟩|⟨-,h⟩
  ·subst h;exact mW (fD hj rfl)
  ·subst h;exact dZ (fD hj rfl)
  ·omega
 have hm:m=0∨m=1∨m=2∨m=3:=by
  rcases hw with⟨-,h⟩|⟨-,h⟩
  ·exact h
  ·rcases h with h|h
   ·exact .inl h
   ·exact .inr (.inl h)
 rcases hm with rfl|rfl|rfl|rfl
 ·have a1:dI t i w:=hat.1
  obtain⟨w1,w2,w3⟩:=wch i a1
  have h':Ev (fun n=>MZ t n (t.pos i:Int) 0) ⟨i,0,0⟩ r:=h
  exact Ev.ak bL (Ev.ak aI (Ev.no w1 (Ev.ak (Ev.ak (dn w2) (Ev.no rfl Ev.ret')) (Ev.ak aI (Ev.ak aI (Ev.ak aI (Ev.ak (Ev.no (oL w3) Ev.ret') h')))))))
 ·obtain⟨a0,a1,-⟩:At t i ([112,117,98]::w::rest):=hat
  obtain⟨w1,w2,w3⟩:=wch _ a1
  have h':Ev (fun n=>MZ t n (t.pos i:Int) 1) ⟨i+1,0,0⟩ r:=h
  exact Ev.ak bL (Ev.ak aI (Ev.no (gY a0 rfl) (Ev.ak (Ev.ak (iV (fD a0 rfl)) (Ev.yes rfl Ev.ret')) (Ev.ak aI (Ev.ak aI (Ev.ak aI (Ev.ak (Ev.no (oL w3) Ev.ret') h')))))))
 ·obtain⟨a0,a1,-⟩:At t i ([99,111,112,121]::w::rest):=hat
  have h':Ev (fun n=>MZ t n (t.pos i:Int) 2) ⟨i+1,0,0⟩ r:=h
  have k1:=h2 i a1 (by decide)
  exact Ev.ak bL (Ev.ak aI (Ev.no (gY a0 rfl) (Ev.ak (Ev.ak (dn (gY a0 rfl)) (Ev.no rfl Ev.ret')) (Ev.ak aI (Ev.ak aI (Ev.ak aI (Ev.ak (Ev.yes (dR (fD a0 rfl) k1) (Ev.seq iJ Ev.ret')) h')))))))
 ·obtain⟨a0,a1,a2,-⟩:At t i ([112,117,98]::[99,111,112,121]::w::rest):=hat
  have h':Ev (fun n=>MZ t n (t.pos i:Int) 3) ⟨i+1+1,0,0⟩ r:=h
  have k1:=h2 (i+1) a2 (by decide)
  exact Ev.ak bL (Ev.ak aI (Ev.no (gY a0 rfl) (Ev.ak (Ev.ak (iV (fD a0 rfl)) (Ev.yes rfl Ev.ret')) (Ev.ak aI (Ev.ak aI (Ev.ak aI (Ev.ak (Ev.yes (dR (fD a1 rfl) k1) (Ev.seq iJ Ev.ret')) h')))))))
end
theorem EK {m:Int} (hm:m=0∨m=1∨m=2∨m=3):∀u∈vF m,okW u=true:=by
 rcases hm with rfl|rfl|rfl|rfl<;>decide
theorem EL {m:Int} {w:Wd} {rest:List Wd} (hm:m=0∨m=1∨m=2∨m=3) (hw:LI.contains w=true):∃u r,vF m++(w::rest)=u::r∧(LI.contains u||([]:List Nat).contains (wk u))=true:=by
 rcases hm with rfl|rfl|rfl|rfl
 ·exact⟨w,_,rfl,by rw[hw];rfl⟩
 ·exact⟨_,_,rfl,rfl⟩
 ·exact⟨_,_,rfl,rfl⟩
 ·exact⟨_,_,rfl,rfl⟩
theorem Q6 {p q m:Int} {s:ByteArray} {g:List Nr} {F:List (List Nr)} (hm:m=0∨m=1∨m=2∨m=3) (hs:nI s) (hgn:PG false g) (hF:∀x∈F,VB x):PI (nd 3 p 0 m s [g,nd 4 q 0 0 E0 F]):=by
 obtain⟨Kg,ug,bg⟩:=hgn
 obtain⟨Ks,Us,l⟩:=nJ hF
 have hg4:Gr 4 0 0 E0 (F.map bA):=by
  have h9:∀x∈F.map bA,x=if E0.size=0 then 105 else 5:=fun x hx=>by rw[if_pos (show E0.size=0 from rfl)];exact l.lb x hx
  constructor<;>intro e<;>first|exact absurd e (by decide)|exact h9
 have p4:=Pt.nd (p:=q) l.pt hg4
 have hg:Gr 3 0 m s ([g,nd 4 q 0 0 E0 F].map bA):=by
  constructor<;>intro e<;>first|exact absurd e (by decide)|exact⟨by omega,.inl ⟨rfl,by show [bA g,lab 4 0 0 E0 F.length]=_;rw[bg.lb];rfl⟩⟩
 refine⟨_,vF m++([115,116,114,117,99,116]::s.data.toList::(ug++([123]::(aS [44] Us++[[125]])))),Pt.nd (Ks:=[Kg,_]) ⟨bg.pt,p4,trivial⟩ hg,?_,bE (EK hm) (aV rfl (aV hs.2 (bE bg.ok (aV rfl (bE (kF rfl l.ok) (by decide)))))),EL hm rfl,?_,?_⟩
 ·show glue _=glue ((aC (m%2==1) [[112,117,98]]++aC (decide (2≤m)) [[99,111,112,121]]++([115,116,114,117,99,116]::s.data.toList::(Kg.t++(bF [123] [125] Ks++[]))))++[])
  unfold bF
  simp only[aN,aQ,bg.gl,iO l.gl,List.append_nil]
 ·intro t i hat _
  obtain⟨a0,a1,a2,a3⟩:=hat.app
  obtain⟨a4,a5,a6⟩:=a3.app
  obtain⟨g',h1,h2⟩:=bg.rd t _ a4 (gY a5 rfl)
  obtain⟨F',h3,h4⟩:=wQ.run (m:=mFd) (s:=[44]) (e:=[125]) (acw (T:=fun n=>gG t n 0) rfl) ⟨rfl,rfl,rfl⟩ (fun j h=>⟨_,h,.inl rfl⟩) (fun j h=>⟨_,h,.inl rfl⟩) (fun j h=>bQ h rfl) l.rd _ [] a6
  have h2':Ev (fun n=>iT t false n) _ (g',_):=h2
  have h5:Ev (fun n=>loop (lK t (gG t n 0)) n []) _ (F',_):=h4.ev
  have hv:er (nd 4 (t.pos (i+(vF m).length+1+1+ug.length):Int) 0 0 E0 F')=er (nd 4 q 0 0 E0 F):=bD h3
  refine⟨nd 3 (t.pos i) 0 m s [g',nd 4 (t.pos (i+(vF m).length+1+1+ug.length)) 0 0 E0 F'],bD (by simp only[List.map_cons,List.map_nil,h1,hv]),?_⟩
  refine zS hat (.inl ⟨.inl rfl,hm⟩) (Ev.to (Ev.ak (iV (fD a1 rfl)) (Ev.yes rfl ?_)) (j:=i+(vF m).length+1+1+ug.length+1+(aS [44] Us).length+1) (by simp only[List.length_append,List.length_cons,List.length_nil];omega))
  show Ev (fun n=>bnd (bG t) (fun s=>bnd (iT t false n) (fun g=>bnd (dh t) (fun q=>seq (aM t ⟨#[123]⟩) (bnd (loop (lK t (gG t n 0)) n []) (fun r=>ret (nd 3 (t.pos i:Int) 0 m s [g,nd 4 q 0 0 E0 r]))))))) _ _
  exact evs
 ·rw[dA];exact .inl (by simp[lab])
theorem YA {p m:Int} {s:ByteArray} {g:List Nr} {F:List (List Nr)} (hm:m=0∨m=1∨m=2∨m=3) (hs:nI s) (hgn:PG false g) (hF:∀x∈F,VD x):PI (nd 3 p 1 m s (g::F)):=by
 obtain⟨Kg,ug,bg⟩:=hgn
 obtain⟨Ks,Us,l⟩:=nJ hF
 have hg:Gr 3 1 m s ((g::F).map bA):=by
  constructor<;>intro e<;>first|exact absurd e (by decide)|exact⟨by omega,.inr ⟨rfl,F.map bA,by simp[bg.lb],l.lb⟩⟩
 refine⟨_,vF m++([101,110,117,109]::s.data.toList::(ug++([123]::(aS [44] Us++[[125]])))),Pt.nd (Ks:=Kg::Ks) ⟨bg.pt,l.pt⟩ hg,?_,bE (EK hm) (aV rfl (aV hs.2 (bE bg.ok (aV rfl (bE (kF rfl l.ok) (by decide)))))),EL hm rfl,?_,?_⟩
 ·show glue _=glue ((aC (m%2==1) [[112,117,98]]++aC (decide (2≤m)) [[99,111,112,121]]++([101,110,117,109]::s.data.toList::(Kg.t++bF [123] [125] Ks)))++[])
  unfold bF
  simp only[aN,aQ,bg.gl,iO l.gl,List.append_nil]
 ·intro t i hat _
  obtain⟨a0,a1,a2,a3⟩:=hat.app
  obtain⟨a4,a5,a6⟩:=a3.app
  obtain⟨g',h1,h2⟩:=bg.rd t _ a4 (gY a5 rfl)
  obtain⟨F',h3,h4⟩:=wQ.run (m:=mVr) (s:=[44]) (e:=[125]) (acA (T:=fun n=>gG t n 0) rfl) ⟨rfl,rfl,rfl⟩ (fun j h=>⟨_,h,.inl rfl⟩) (fun j h=>⟨_,h,.inl rfl⟩) (fun j h=>bQ h rfl) l.rd _ [g'] a6
  have h2':Ev (fun n=>iT t false n) _ (g',_):=h2
  have h5:Ev (fun n=>loop (og t (gG t n 0) n) n [g']) _ (g'::F',_):=h4.ev
  refine⟨nd 3 (t.pos i) 1 m s (g'::F'),bD (by simp[h1,h3]),?_⟩
  refine zS hat (.inl ⟨.inr rfl,hm⟩) (Ev.to (Ev.ak (dn (gY a1 rfl)) (Ev.no rfl (Ev.ak (iV (fD a1 rfl)) (Ev.yes rfl ?_)))) (j:=i+(vF m).length+1+1+ug.length+1+(aS [44] Us).length+1) (by simp only[List.length_append,List.length_cons,List.length_nil];omega))
  show Ev (fun n=>bnd (bG t) (fun s=>bnd (iT t false n) (fun g=>seq (aM t ⟨#[123]⟩) (bnd (loop (og t (gG t n 0) n) n [g]) (fun r=>ret (nd 3 (t.pos i:Int) 1 m s r)))))) _ _
  exact evs
 ·rw[dA];exact .inl (by simp[lab])
theorem VE {m:Int} (hm:m=0∨m=1):vF m=aC (m==1) [[112,117,98]]:=by
 rcases hm with rfl|rfl<;>rfl
theorem TB {p m:Int} {s:ByteArray} {F:List (List Nr)} (hm:m=0∨m=1) (hs:nI s) (hF:∀x∈F,QZ x):PI (nd 6 p 0 m s F):=by
 obtain⟨Ks,Us,l⟩:=yS hF
 have GX:m=0∨m=1∨m=2∨m=3:=by omega
 have hg:Gr 6 0 m s (F.map bA):=by
  constructor<;>intro e<;>first|exact absurd e (by decide)|exact⟨hm,l.lb⟩
 refine⟨_,vF m++([116,114,97,105,116]::s.data.toList::[123]::(Us.flatten++[[125]])),Pt.nd l.pt hg,?_,bE (EK GX) (aV rfl (aV hs.2 (aV rfl (bE (AZ l.ok) (by decide))))),EL GX rfl,?_,?_⟩
 ·show glue _=glue ((aC (m==1) [[112,117,98]]++([116,114,97,105,116]::s.data.toList::[123]::((Ks.map (fun k=>k.t++[[59]])).flatten++[[125]])))++[])
  rw[VE hm]
  simp only[aN,aQ,l.gl,List.append_nil]
 ·intro t i hat _
  obtain⟨a0,a1,a2,a3,a4⟩:=hat.app
  obtain⟨F',h3,h4⟩:=zR.run (m:=mMt) (e:=[125]) (aez (T:=fun n=>gG t n 0) rfl) rfl (fun j h=>bQ h rfl) l.rd _ [] a4
  have h5:Ev (fun n=>loop (iP t (gG t n 0) n) n []) _ (F',_):=h4.ev
  refine⟨nd 6 (t.pos i) 0 m s F',bD h3,?_⟩
  refine zS hat (.inr ⟨.inl rfl,hm⟩) (Ev.to (Ev.ak (dn (gY a1 rfl)) (Ev.no rfl (Ev.ak (dn (gY a1 rfl)) (Ev.no rfl (Ev.ak (iV (fD a1 rfl)) (Ev.yes rfl ?_)))))) (j:=i+(vF m).length+1+1+1+Us.flatten.length+1) (by simp only[List.length_append,List.length_cons,List.length_nil];omega))
  exact evs
 ·rw[dA];exact .inr (.inl (by simp[lab]))
theorem VF {p m:Int} {s:ByteArray} {g y z:List Nr} {ps:List (List Nr)} (hm:m=0∨m=1) (h:Hp true s g ps y) (hz:PB z):PI (nd 8 p (ps.length:Int) m s (g::(ps++[y])++[z])):=by
 obtain⟨Kg,Kp,Ky,ws,b⟩:=FH h
 obtain⟨Kz,uz,bz⟩:=hz
 have GX:m=0∨m=1∨m=2∨m=3:=by omega
 have h1:=Ol (p:=p) (m:=m) (R:=[z]) (Kr:=[Kz]) b hm ⟨bz.pt,trivial⟩ (by simp) (fun x h=>by rw[List.mem_singleton.1 h,bz.lb];unfold dB;omega)
 obtain⟨r,er_⟩:=b.hd
 refine⟨_,vF m++(ws++uz),h1,?_,bE (EK GX) (bE b.ok bz.ok),?_,?_,?_⟩
 ·show glue _=glue ((aC (m==1) [[112,117,98]]++([102,110]::s.data.toList::(Kg.t++(bF [40] [41] Kp++(kN Ky++bB [Kz])))))++[])
  rw[VE hm,aN,aN,b.gl]
  simp only[aN,aQ,List.append_nil,EI bz.gl,List.cons_append,List.append_assoc]
 ·rw[er_];exact EL GX rfl
 ·intro t i hat _
  obtain⟨a0,a1⟩:=hat.app
  obtain⟨a2,a3⟩:=a1.app
  obtain⟨g',ps',y',⟨h2,h3,h4⟩,h5⟩:=b.rd t _ a2 ((a3.head bz.hd).sub rfl)
  obtain⟨z',h6,h7⟩:=bz.rd t _ a3 trivial
  have h7':Ev (fun n=>gG t n 3) _ (z',_):=h7
  have hl:(ps'.length:Int)=(ps.length:Int):=by have:=congrArg List.length h3;simp at this;omega
  have af:dI t (i+(vF m).length) [102,110]:=by rw[er_] at a2;exact a2.1
  refine⟨nd 8 (t.pos i) (ps'.length:Int) m s (g'::(ps'++[y'])++[z']),by rw[hl];exact bD (by simp[h2,h3,h4,h6]),?_⟩
  have hat':At t i (vF m++([102,110]::(r++uz))):=by rw[er_] at hat;exact hat
  refine zS hat' (.inr ⟨.inr rfl,hm⟩) (Ev.to (Ev.ak (dn (gY af rfl)) (Ev.no rfl (Ev.ak (dn (gY af rfl)) (Ev.no rfl (Ev.ak (dn (gY af rfl)) (Ev.no rfl ?_)))))) (j:=i+(vF m).length+ws.length+uz.length) (by simp only[List.length_append];omega))
  exact evs
 ·rw[dA]
  have:(((g::(ps++[y])++[z]).length:Nat):Int)=(ps.length:Int)+3:=by simp;omega
  unfold lab itK
  rw[if_pos rfl,if_pos this]
  split<;>simp
theorem YB {p:Int} {s n:ByteArray} {r:List ByteArray} {g y:List Nr} {F:List (List Nr)} (hp:qD 2 s n r) (hgn:PG true g) (hy:PT y) (hF:∀x∈F,VA x):PI (nd 7 p 0 0 s (g::y::F)):=by
 obtain⟨Kg,ug,bg⟩:=hgn
 obtain⟨⟨Ky,uy,qM⟩,-⟩:=hy
 obtain⟨Ks,Us,l⟩:=yS hF
 have hg:Gr 7 0 0 s ((g::y::F).map bA):=by
  constructor<;>intro e<;>first|exact absurd e (by decide)|exact⟨hp.path,bA y,F.map bA,by simp[bg.lb],qM.lb,l.lb⟩
 refine⟨_,[105,109,112,108]::(ug++(pw n r++([102,111,114]::(uy++([123]::(Us.flatten++[[125]])))))),Pt.nd (Ks:=Kg::Ky::Ks) ⟨bg.pt,qM.pt,l.pt⟩ hg,?_,aV rfl (bE bg.ok (bE hp.ok (aV rfl (bE qM.ok (aV rfl (bE (AZ l.ok) (by decide))))))),⟨_,_,rfl,rfl⟩,?_,?_⟩
 ·show glue _=glue (([105,109,112,108]::(Kg.t++(jQ s.data.toList::[102,111,114]::(Ky.t++([123]::(bB Ks++[[125]]))))))++[])
  have hl:=l.gl
  rw[Dy] at hl
  have h9:glue (pw n r)=32::jQ s.data.toList:=by
   have:=hp.glue []
   rw[List.append_nil] at this
   rw[this,aQ,CS,List.append_nil]
  simp only[List.append_nil,aQ,aN,bg.gl,qM.gl,hl,h9]
 ·rintro t i ⟨a1,a2⟩ -
  obtain⟨a3,a4⟩:=a2.app
  obtain⟨a5,a6,a7⟩:=a4.app
  obtain⟨a8,a9,Cx⟩:=a7.app
  have c0:cu t (i+1+ug.length) [] [2]:=⟨_,a5.1,.inr (by rw[hp.nm.1];rfl)⟩
  obtain⟨g',h1,h2⟩:=bg.rd t _ a3 (bQ c0 rfl)
  have k1:=qY hp a5 (gY a6 rfl)
  obtain⟨y',h6,h7⟩:=qM.rd t _ a8 ⟨_,a9,.inl rfl⟩
  obtain⟨F',h3,h4⟩:=zR.run (m:=mFi) (e:=[125]) (aeA (T:=fun n=>gG t n 0) (B:=fun n=>gG t n 3) rfl) rfl (fun j h=>bQ h rfl) l.rd _ [g',y'] Cx
  have h2':Ev (fun n=>iT t true n) _ (g',_):=h2
  have h7':Ev (fun n=>gG t n 0) _ (y',_):=h7
  have h5:Ev (fun n=>loop (jJ t (gG t n 0) (gG t n 3) n) n [g',y']) _ (g'::y'::F',_):=h4.ev
  refine⟨nd 7 (t.pos i) 0 0 s (g'::y'::F'),bD (by simp[h1,h6,h3]),?_⟩
  have main:Ev (fun n=>kg t (gG t n 0) (gG t n 3) n) ⟨i,0,0⟩ (nd 7 (t.pos i) 0 0 s (g'::y'::F'),⟨i+([105,109,112,108]::(ug++(pw n r++([102,111,114]::(uy++([123]::(Us.flatten++[[125]]))))))).length,0,0⟩):=by
   show Ev (fun n=>bnd (dh t) (fun p=>seq (aM t ⟨#[105,109,112,108]⟩) (bnd (iT t true n) (fun g=>bnd (iq t n 2) (fun s=>seq (aM t ⟨#[102,111,114]⟩) (bnd (gG t n 0) (fun y=>seq (aM t ⟨#[123]⟩) (bnd (loop (jJ t (gG t n 0) (gG t n 3) n) n [g,y]) (fun r=>ret (nd 7 p 0 0 s r)))))))))) _ _
   exact evs
  show Ev (fun n=>eO t (gG t n 0) (gG t n 3) n) _ _
  exact Ev.ak bL (Ev.ak aI (Ev.yes (fD a1 rfl) main))
 ·rw[dA];exact .inr (.inr (.inl (by simp[lab])))
end Go.Proofs.YtdplogkmkgekdaaGreatDoor.Bk
