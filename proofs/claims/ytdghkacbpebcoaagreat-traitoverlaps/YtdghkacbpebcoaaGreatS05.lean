import Derived.Test.YtdghkacbpebcoaaGreatS02
import Derived.Test.YtdghkacbpebcoaaGreatS04
namespace Go.Proofs.YtdghkacbpebcoaaGreat
open Go.RowKit
open Value renaming slice→J
open List renaming length→O
open Option renaming none→I
open World renaming heap→U
open _root_.Array renaming size→E
open Obj renaming cells→Ob
set_option linter.all false
set_option maxRecDepth 100000
set_option maxHeartbeats 0
section
variable{s:ByteArray} {b k:Nat} {acc:VV} {v:Value} {w wr:World}
theorem wB:(Tryz.prog.info? 86).map (λa=>(a.zero,a.size,a.bytes))=some (some (.agg #[vN 0,vN 0,.string ⟨#[]⟩,vN 0]),4,40):=by kernel_rfl
theorem lI {c:World} {base:Nat} {e:TypeId} {size:Nat} {n:Nat} {xs:List Value} (h:w.ownsRow base e size v n xs) (d:Below (E (U w)) w c):c.ownsRow base e size v n xs:=by
 obtain⟨f,a⟩:=h;refine⟨f,?_⟩;rcases a with a|⟨g,cap,cur,hv,hbg,hg,rest⟩
 ·exact .inl a
 ·have i:g<E (U w):=(gE hg).1;exact .inr ⟨g,cap,cur,hv,hbg,by rw[d.block g i];exact hg,rest⟩
def fP (s:ByteArray) (base:Nat) (e:Ending) (w':World):Prop:=
 match eD s with
 |.inl (k,i)=>e=.returned (.tuple #[J I 0 0,.agg #[vN k,vN i]])
 |.inr ts=>∃v,e=.returned (.tuple #[v,.agg #[vN 0,vN 0]])/\w'.ownsRow base 86 4 v (O ts) ts.flatten
structure iq (s:ByteArray) (w wr:World) (v:Value) (k b:Nat) (acc:VV):Prop where
 le:k<=s.size
 own:wr.ownsRow (E (U w)+1) 86 4 v (O acc) acc.flatten
 below:Below (E (U w)+1) (w.alloc (Ob #[vN 0,vN 0] 32)) wr
 same:lexFrom b s k acc=lexFrom s.size s 0 []
 fuel:s.size<=k+b
 bj:O acc<=k
theorem kZ (w:World) (c0 c1 c2 c3:Value) (t:TypeId):∀c d,[c0,c1,c2,c3][c]? =some d->(w.alloc (Ob #[c0,c1,c2,c3] t)).cell? ((⟨E (U w),0,I⟩:Addr).add c)=some d:=by
 intro c d a;match c,a with
 |0,a=>simp at a;subst a;simp[Addr.add]
 |1,a=>simp at a;subst a;simp[Addr.add]
 |2,a=>simp at a;subst a;simp[Addr.add]
 |3,a=>simp at a;subst a;simp[Addr.add]
theorem kY {a b n:Int} {t:ByteArray}:∀c∈[Value.int .i64 a,vN b,.string t,vN n],c.oneCell'=true:=by
 intro c d;simp at d;rcases d with rfl|rfl|rfl|rfl<;>rfl
theorem kW (h:Below (E (U w)+1) (w.alloc (Ob #[vN 0,vN 0] 32)) wr):
 wr.cell? ⟨E (U w),0,I⟩=some (vN 0)/\wr.cell? ⟨E (U w),1,I⟩=some (vN 0)/\wr.frozen? ⟨E (U w),0,I⟩=false/\wr.frozen? ⟨E (U w),1,I⟩=false:=by
 refine⟨?_,?_,?_,?_⟩
 ·rw[h.cell (p:=⟨E (U w),0,I⟩) sQ];simp
 ·rw[h.cell (p:=⟨E (U w),1,I⟩) sQ];simp
 ·rw[h.frozen (p:=⟨E (U w),0,I⟩) sQ];simp
 ·rw[h.frozen (p:=⟨E (U w),1,I⟩) sQ];simp
theorem iq.step (h:iq s w wr v k b acc) (m:k<s.size) {k':Nat} {acc':VV} {c:World} {d:Value}
 (n:k<k') (e:k'<=s.size) (f:∀a,lexFrom (a+1) s k acc=lexFrom a s k' acc') (i:c.ownsRow (E (U w)+1) 86 4 d (O acc') acc'.flatten)
 (j:Below (E (U w)+1) (w.alloc (Ob #[vN 0,vN 0] 32)) c) (l:O acc'<=k'):∃a,iq s w c d k' a acc':=by
  obtain⟨a,rfl⟩:∃a,b=a+1:=⟨b - 1,oH h.fuel⟩;exact⟨a,e,i,j,by rw[<-f];exact h.same,oH h.fuel,l⟩
theorem iq.end_ (h:iq s w wr v k b acc) (c:s.size<=6000) (a:¬k<s.size):eD s=.inr (acc++[eV 0 s.size ⟨#[]⟩ 0]):=by
 have:=h.same;rw[mK a] at this;rw[eD,if_neg oM,<-this]
theorem iq.bad (h:iq s w wr v k b acc) (i:s.size<=6000) (c:k<s.size) (d:fH (cR s k)=false) (e:cR s k≠35) (f:(one s k).err≠0):eD s=.inl ((one s k).err,k):=by
 obtain⟨a,rfl⟩:∃a,b=a+1:=⟨b - 1,oH h.fuel⟩;have:=h.same;rw[mL c d e f] at this;rw[eD,if_neg oM,<-this]
theorem jn (acc:VV) (c:List Value):(acc++[c]).flatten=acc.flatten++c:=sQ
theorem uF (s:ByteArray) (w:World) (u:s.size<=6000):
 Calls Tryz.prog 14 #[.string s] w λo P=>fP s (E (U w)+1) o P/\Below (E (U w)) w P:=by
 obtain⟨R,S,T,V,W⟩:=info_parts wB;go_enter Tryz.func14,Tryz.ntmps14
 go_wp2_with fail;go_loopw [4,5] (λv z wr=>∃(k b:Nat) (acc:VV),z=vN k/\iq s w wr v k b acc) (λ_ z _=>s.size - (intOf z).toNat)
 case atStart=>exact⟨0,s.size,[],Q,⟨zL _,World.ownsRow_nil _ _ _ _,Below.refl _ _,Q,oM,sQ⟩⟩
 case round=>
  obtain⟨k,b,acc,rfl,c⟩:=hrel;have p:=c.le;have A:E (U w)+1<=E (U wr):=by have:=c.below.size;simpa using this
  by_cases a:k<s.size
  ·have m:Hid (cR s k=(s[k]'a).toNat):=dw a;rcases(show(s[k]'a).toNat=32\/(s[k]'a).toNat=9\/(s[k]'a).toNat=10\/(s[k]'a).toNat=35\/((s[k]'a).toNat≠32/\(s[k]'a).toNat≠9/\(s[k]'a).toNat≠10/\(s[k]'a).toNat≠35) by omega) with d|d|d|d|⟨B,hc2,hc3,hc4⟩
   ·have j:Hid ((s[k]'a).toNat=32):=d;have x:(((s[k]'a).toNat:Int)==32)=true:=by rw[d];rfl
    clear d;go_wp2_with fail;obtain⟨f,i⟩:=c.step a (k':=k+1) oM oM (λf=>gh a (by rw[m.out,j.out];rfl)) c.own c.below (oH c.bj);go_roundw
    case rel=>exact⟨k+1,f,acc,by go_num,i⟩
    case measure=>simp[intOf];omega
   ·have j:Hid ((s[k]'a).toNat=9):=d;have x:(((s[k]'a).toNat:Int)==32)=false:=by rw[d];rfl
    have C:(((s[k]'a).toNat:Int)==9)=true:=by rw[d];rfl
    clear d;go_wp2_with fail;obtain⟨f,i⟩:=c.step a (k':=k+1) oM oM (λf=>gh a (by rw[m.out,j.out];rfl)) c.own c.below (oH c.bj);go_roundw
    case rel=>exact⟨k+1,f,acc,by go_num,i⟩
    case measure=>simp[intOf];omega
   ·have j:Hid ((s[k]'a).toNat=10):=d;have x:(((s[k]'a).toNat:Int)==32)=false:=by rw[d];rfl
    have C:(((s[k]'a).toNat:Int)==9)=false:=by rw[d];rfl
    have X:(((s[k]'a).toNat:Int)==10)=true:=by rw[d];rfl
    clear d;go_wp2_with fail;obtain⟨f,i⟩:=c.step a (k':=k+1) oM oM (λf=>gh a (by rw[m.out,j.out];rfl)) c.own c.below (oH c.bj);go_roundw
    case rel=>exact⟨k+1,f,acc,by go_num,i⟩
    case measure=>simp[intOf];omega
   ·have j:Hid ((s[k]'a).toNat=35):=d;have x:(((s[k]'a).toNat:Int)==32)=false:=by rw[d];rfl
    have C:(((s[k]'a).toNat:Int)==9)=false:=by rw[d];rfl
    have X:(((s[k]'a).toNat:Int)==10)=false:=by rw[d];rfl
    have af:(((s[k]'a).toNat:Int)==35)=true:=by rw[d];rfl
    clear d;have aj:k<aC iG s k:=eP a (by rw[m.out,j.out];rfl);have ak:=eh iG s k p;go_wp2_with fail;go_loop [5] (λD=>∃e:Nat,k<=e/\e<=s.size/\D=vN e/\aC iG s e=aC iG s k) (λD=>s.size - (intOf D).toNat)
    case atStart=>exact⟨k,lR _,p,Q,Q⟩
    case round=>
     obtain⟨e,al,ao,rfl,Y⟩:=hrel;have F:Hid (aC iG s e=aC iG s k):=Y;clear Y;by_cases q:e<s.size
     ·have Z:Hid (cR s e=(s[e]'q).toNat):=dw q
      cases aa:(((s[e]'q).toNat:Int) !=10)
      ·go_wp2_with fail;have o:aC iG s e=e:=ju (by rw[Z.out];simp at aa;simp[iG];omega);have G:e=aC iG s k:=by rw[<-F.out,o]
       obtain⟨f,i⟩:=c.step a (k':=e) oM oM (λf=>by rw[j2 a (by rw[m.out,j.out]),<-G]) c.own c.below (oH c.bj);go_roundw
       case rel=>exact⟨e,f,acc,Q,i⟩
       case measure=>simp[intOf];omega
      ·go_wp2_with fail;go_round
       case rel=>exact⟨e+1,oM,oM,by go_num,by rw[<-F.out];exact(fy q (by rw[Z.out];simp at aa;simp[iG];omega)).symm⟩
       case measure=>simp[intOf];omega
     ·go_wp2_with fail;have o:aC iG s e=e:=iT q;have G:e=aC iG s k:=by rw[<-F.out,o]
      obtain⟨f,i⟩:=c.step a (k':=e) oM oM (λf=>by rw[j2 a (by rw[m.out,j.out]),<-G]) c.own c.below (oH c.bj);go_roundw
      case rel=>exact⟨e,f,acc,Q,i⟩
      case measure=>simp[intOf];omega
   ·have x:(((s[k]'a).toNat:Int)==32)=false:=by simp;omega
    have C:(((s[k]'a).toNat:Int)==9)=false:=by simp;omega
    have X:(((s[k]'a).toNat:Int)==10)=false:=by simp;omega
    have af:(((s[k]'a).toNat:Int)==35)=false:=by simp;omega
    have ab:Hid (fH (cR s k)=false):=by show fH (cR s k)=false;rw[m.out];simp[fH];omega
    have ac:Hid (cR s k≠35):=by show cR s k≠35;rw[m.out];exact hc4
    clear B hc2 hc3 hc4;by_cases r:(one s k).err=0
    ·have y:Hid ((one s k).err=0):=r;have ad:=kM a r;clear r;go_wp2_with (first|(go_at_call 31;refine(sV s k _ u a y.out).mono ?_;rintro o n ⟨rfl,l⟩;have B:=lI c.own l)|(at_builtin;refine wpList_append_own _ Q (.tmp 59) (.tmp 61) 53 Q (E (U w)+1) 86 R _ 4 40 Tryz.underlying53 S T V W Q dC _ _ _ Q ((B.alloc _).alloc _) ⟨E (U n)+1,0,I⟩ 1 1 (fY s k) Q Q ?c1 kY (by have:=c.bj;unfold maxLen;omega) (oH c.bj) ?c5 ?_;rotate_left 2;intro H ag K L _))
     case c1=>have:=kZ (n.alloc (Ob #[vN (one s k).kind,vN k,.string (cO s k (one s k)),vN (one s k).n] 86)) (vN (one s k).kind) (vN k) (.string (cO s k (one s k))) (vN (one s k).n) 86;simpa[fY,eV] using this
     case c5=>have:=l.size;simp;omega
     have ae:E (U wr)<=E (U n):=l.size;have t:Below (E (U w)+1) (w.alloc (Ob #[vN 0,vN 0] 32)) ag:=((((c.below.trans (l.mono A)).alloc oM _).alloc (by simp;omega) _)).grown L (by simp;omega) (λk p=>(c.own.lt k p).1);obtain⟨f,i⟩:=c.step a (k':=(one s k).stop) (acc':=acc++[fY s k]) ad.1 ad.2 (λf=>mJ a ab.out ac.out y.out) (by rw[jn,List.length_append];exact K) t (by have:=c.bj;simp;omega);go_roundw
     case rel=>exact⟨_,f,_,Q,i⟩
     case measure=>simp[intOf];omega
    ·have y:Hid ((one s k).err≠0):=r;have ap:(((one s k).err:Int) !=0)=true:=by simp;omega
     clear r;go_wp2_with (go_at_call 31;refine(qU s k _ u a).mono ?_;rintro o n ⟨⟨aq,ar,au,av,aw,rfl⟩,l⟩;have t:Below (E (U w)+1) (w.alloc (Ob #[vN 0,vN 0] 32)) n:=c.below.trans (l.mono A);obtain⟨M,N,ah,ai⟩:=kW t;have ae:E (U w)<E (U n):=(by have:=t.size;simp at this;omega))
     refine bodyPost_ret (v:=.tuple #[J I 0 0,.agg #[vN (one s k).err,vN k]]) (by simp[results,Tryz.results14,go_sem,M,N,ae]) Q ⟨?_,?_⟩
     ·unfold fP;rw[c.bad u a ab.out ac.out y.out]
     ·exact(((((Below.refl _ _).alloc (lR _) _).trans (t.mono sQ)).setCell sQ _).setCell sQ _).alloc (by simp;omega) _
  ·go_wp2_with (first|(at_builtin;refine wpList_append_own _ Q (.tmp 64) (.tmp 68) 53 Q (E (U w)+1) 86 R _ 4 40 Tryz.underlying53 S T V W Q dC _ _ _ Q (c.own.alloc _) ⟨E (U wr),0,I⟩ 1 1 [vN 0,vN s.size,.string ⟨#[]⟩,vN 0] rfl Q (kZ _ _ _ _ _ _) kY (by have:=c.bj;unfold maxLen;omega) (oH c.bj) (by simp;omega) ?_;intro H n K L _;have l:Below (E (U w)+1) (w.alloc (Ob #[vN 0,vN 0] 32)) n:=(c.below.alloc A _).grown L (by simp;omega) (λk p=>(c.own.lt k p).1);obtain⟨M,N,ah,ai⟩:=kW l)|fail)
   refine bodyPost_ret (v:=.tuple #[H,.agg #[vN 0,vN 0]]) (by simp[results,Tryz.results14,go_sem,M,N]) Q ⟨?_,?_⟩
   ·unfold fP;rw[c.end_ u a];refine⟨H,Q,?_⟩;rw[jn,List.length_append];exact ownsRow_setCell_below (ownsRow_setCell_below K sQ _) sQ _
   ·exact((((Below.refl _ _).alloc (lR _) _).trans (l.mono sQ)).setCell sQ _).setCell sQ _
theorem mf (s:ByteArray) (w:World) (c:6000<s.size) (d:s.size<=maxLen):
 Calls Tryz.prog 14 #[.string s] w λe a=>fP s (E (U w)+1) e a/\Below (E (U w)) w a:=by
 unfold maxLen at d;go_enter Tryz.func14,Tryz.ntmps14
 go_wp2_with fail;refine bodyPost_ret (v:=.tuple #[J I 0 0,.agg #[vN 1,vN 0]]) (by simp[results,Tryz.results14,go_sem]) Q ⟨?_,(Below.refl _ _).alloc (lR _) _⟩;unfold fP;rw[eD,if_pos c];rfl
theorem jF (s:ByteArray) (w:World) (c:s.size<=maxLen):Calls Tryz.prog 14 #[.string s] w λd a=>fP s (E (U w)+1) d a/\Below (E (U w)) w a:=by
 by_cases e:s.size<=6000
 ·exact uF s w e
 ·exact mf s w oM c
end
theorem zf {e:Nat} (A:eS 82 18 e) (r:eS 63 7 e) (B:gz 101 8 e):gz 101 8 (e+1):=by
 intro w C D F c d ab h k;obtain⟨f,l⟩:∃f:Int,f=0:=⟨_,Q⟩;rw[<-l] at h k⊢;have G:Hid (f=0):=l;clear l;have ac:=h.l;have H:Hid (Bd (e+1) d c f 8):=k;clear k;have j:Hid (∀s t u,(t=0->c<s)->u<64->Bd e d s t u):=H.out.dh G.out h.lt;have m:(0:Int)<=(d.pos c:Int)/\(d.pos c:Int)<=7000:=oH (h.ar.aQ c);go_enter Tryz.func101,Tryz.ntmps101
 have a:=Mz.start (wt:=1) h;go_wp2_with fail;refine(a.ne' (sz w) (aB)).lf (aF · 33) ?_;clear a;intro v a;have b:=a.f1;go_wp2_with fail;refine(a.ne' (sz v) (nk 33 (d.pos c) nl)).wn (aI · _) ?_;clear a b;intro ad ae af ag _ a;have b:=a.f2;go_wp2_with fail;refine a.nd (A · (a.bd j.out dC)) ?_;clear a b;intro x n ah ai aj ak _ a;have b:=a.f2;go_upto_region 4 with fail
 go_cut [] (λK=>∃(o:Value) (i:List (List Value)) (y:Nat) (p z:Int),O i<=2/\Mz 1 w C D F d c f True (-32) K y p z [(sz x,n.a),(sz v,nk 33 (d.pos c) o),(sz w,aB)] [] o i)
 case first=>
  go_wp2_with fail;go_region_law (replace a:=(a.ne' (sz x) n.a).drew;go_simp;refine a.nd (r · (a.bd j.out dC)) ?_;clear a b;intro q L M N P al _ a;have b:=a.f3)
  all_goals
   go_wp2_with fail;go_meet;exact⟨(sl (sz q) 2),[n.t,L.t],M,N,P,sQ,((((a.swap).iU (sl (sz q) 2)).m2 (sz q)).less oM)⟩
 case rest=>
  clear b a;obtain⟨o,i,y,p,z,ao,a⟩:=hcut;obtain⟨ap,R⟩:∃S,S=wc:=⟨_,Q⟩;subst R;have b:=a.f3;obtain⟨aq,ar,rfl⟩:=a.shape;replace b:=a.f3;go_wp2_with fail;refine a.et (aU · _) ?_;clear a b;intro au av aw ax a;have b:=a.f3;go_wp2_with fail
  ·go_wp2_with fail;refine a.lf (aX · 0 dC _) ?_;clear a b;intro ay a;have b:=a.f3;go_wp2_with fail
   ·have T:Hid (p=0):=(du h.ar a.st.rd.lt ‹_›).1;go_wp2_with fail;go_region_law (first|(refine a.as (sz V) oM ?_;clear a b;intro az W X a;have b:=a.f3)|(replace a:=a.drew;go_simp;refine a.nd (B.qj T.out · (a.bd j.out dC)) ?_;clear a b;intro V aA aC aD aE aG _ a;have b:=a.f3))
    all_goals
     go_wp2_with fail;go_light;exact((a.iU (J W (O i+1) X)).fk 33 (d.pos c) (by first|(simp;omega)|omega) m).rt Tryz.results101 2
   ·go_wp2_with fail;go_region_law (first|(refine a.as (sz Y) oM ?_;clear a b;intro aH Z aa a;have b:=a.f3)|(replace a:=a.drew;go_simp;refine a.nd (r · (a.bd j.out dC)) ?_;clear a b;intro Y aJ aK aL aM aN _ a;have b:=a.f3))
    all_goals
     go_wp2_with fail;go_light;exact((a.iU (J Z (O i+1) aa)).fk 33 (d.pos c) (by first|(simp;omega)|omega) m).rt Tryz.results101 2
  ·go_wp2_with fail;go_light;exact(a.fk 33 (d.pos c) (by first|(simp;omega)|omega) m).rt Tryz.results101 2
theorem zw {k:Nat} (q:eS 106 16 k):eS 98 17 (k+1):=by
 intro w D F G i b l V h r;have W:=h.l;have s:Hid (Bd (k+1) b i l 17):=r;clear r;have X:(0:Int)<=(b.pos i:Int)/\(b.pos i:Int)<=7000:=oH (h.ar.aQ i);go_enter Tryz.func98,Tryz.ntmps98
 have a:=Mz.start (wt:=1) h;go_wp2_with fail;replace a:=a.ne' (sz w) (aB);refine a.nd (q · (s.out.down a.le a.ok dC)) ?_;clear a;intro t u v x H Y _ a;have d:=a.f1;go_wp2_with fail;go_loopg [4] (ml b v x) (λg _ wr=>∃(m:Nf) (c:Nat) (j y:Int),g=ml b c j/\Mz 1 w D F G b i l True (-8) wr c j y [(sz t,m.a),(sz w,aB)] [m.t] nl [])
 case atStart=>exact⟨u,v,x,H,Q,(a.ne' (sz t) u.a).less oM⟩
 case round=>
  clear d a;obtain⟨m,c,j,y,z,a⟩:=hrel;have K:=a.st.rd.lt;have n:(0:Int)<=(b.pos c:Int)/\(b.pos c:Int)<=7000:=oH (h.ar.aQ c);have L:Hid (gk=ml b c j):=z;clear z;have d:=a.f2
  cases M:(j==0)
  ·go_wp2_with fail;refine a.lf aW ?_;clear a d;intro Z a;have d:=a.f2;go_wp2_with fail;go_light;exact a.rt Tryz.results98 1
  ·obtain rfl:j=0:=sU M;have f:Hid (i<=c/\l=0/\i<c):=⟨a.le,a.ok Q,a.go trivial Q⟩;have N:Hid (∀o A p,c<=o->p<64->Bd k b o A p):=λo A p P R=>s.out.dh f.out.2.1 h.lt _ _ _ (λ_=>Nat.lt_of_lt_of_le f.out.2.2 P) R;replace a:=a.bP;go_wp2_with fail;refine a.lf aW ?_;clear a d;intro aa a;have d:=a.f2;go_wp2_with fail;refine a.lf (aX · 0 dC _) ?_;clear a d;intro ab a;have d:=a.f2;go_wp2_with fail
   ·go_wp2_with fail;refine a.lf (aF · 31) ?_;clear a d;intro S a;have d:=a.f2;go_wp2_with fail;refine(a.ne' (sz S) (nk 31 (b.pos c) nl)).wn (aI · _) ?_;clear a d;intro ac ad ae af _ a;have d:=a.f3;go_wp2_with fail;go_region_law (replace a:=a.drew;go_simp;refine a.nd (q · (N.out _ _ _ a.le dC)) ?_;clear a d;intro e ag B C T ah _ a;have d:=a.f3)
    all_goals
     go_wp2_with fail;go_roundg (ml b B C)
     case measure=>rw[L.out];exact bN K ((((a.swap).dT (sl (sz e) 2)).mX 31 (b.pos c) 0 0 ⟨#[]⟩ (sl (sz e) 2)).l2 (sz e) 31 (b.pos c) 0 0 ⟨#[]⟩ n).pop.le (((((a.swap).dT (sl (sz e) 2)).mX 31 (b.pos c) 0 0 ⟨#[]⟩ (sl (sz e) 2)).l2 (sz e) 31 (b.pos c) 0 0 ⟨#[]⟩ n).pop.go trivial)
     case rel=>exact⟨⟨31,(b.pos c),0,0,⟨#[]⟩,(some ⟨(sz e),0,I⟩),2,2⟩,B,C,T,Q,((((a.swap).dT (sl (sz e) 2)).mX 31 (b.pos c) 0 0 ⟨#[]⟩ (sl (sz e) 2)).l2 (sz e) 31 (b.pos c) 0 0 ⟨#[]⟩ n).pop.aE (s':= -8) (g':=True) f.out.1 (λ_=>f.out.2.1) (λ_ _=>f.out.2.2) oM⟩
   ·go_wp2_with fail;go_light;exact(a.aE (s':= -8) (g':=True) f.out.1 (λ_=>f.out.2.1) (λ_ _=>f.out.2.2) oM).rt Tryz.results98 1
end Go.Proofs.YtdghkacbpebcoaaGreat
