import Derived.Test.YtdghkacbpebcoaaGreatS20
namespace Go.Proofs.YtdghkacbpebcoaaGreat
open Go.RowKit
open Value renaming slice→J
open List renaming length→O
open Option renaming none→I
open World renaming heap→U
open _root_.Array renaming size→E
open Obj renaming cells→Ob
set_option linter.all false
set_option maxRecDepth 100000
set_option maxHeartbeats 0
section
variable{D T:Nat}
def NQ (D T:Nat) (r:Nm):Prop:=0<=r.n/\(r.sort=0->r.n<(D:Int))/\(r.sort=2->r.n<(T:Int))
theorem NQ.zero (b:1<=D):NQ D T gJ:=⟨dC,λ_=>by show(0:Int)<(D:Int);omega,λa=>absurd a dC⟩
def mU (w:World) (e:Ending) (w':World):Prop:=∃s:ByteArray,e=.returned (.string s)/\w'=w
theorem se (n:Int) (w:World):Calls Tryz.prog 21 #[vN n] w (mU w):=by
 go_enter Tryz.func21,Tryz.ntmps21
 go_wp2_with fail
 all_goals
  go_ret;exact⟨_,Q,Q⟩
theorem vJ (n:Int) (w:World):Calls Tryz.prog 107 #[vN n] w (mU w):=by
 go_enter Tryz.func107,Tryz.ntmps107
 go_wp2_with fail
 all_goals
  go_ret;exact⟨_,Q,Q⟩
theorem vI (n:Int) (w:World):Calls Tryz.prog 108 #[vN n] w (mU w):=by
 go_enter Tryz.func108,Tryz.ntmps108
 go_wp2_with fail
 all_goals
  go_ret;exact⟨_,Q,Q⟩
def ue (w:World) (D T:Nat) (e:Ending) (w':World):Prop:=
 ∃(r:Nm) (b:Bool),e=.returned (.tuple #[.agg (dF r),.bool b])/\NQ D T r/\Below (E (U w)) w w'
theorem vK (r:1<=D) (s:4<=T) (x:ByteArray) (w:World):Calls Tryz.prog 99 #[.string x] w (ue w D T):=by
 have q:Hid (1<=D/\4<=T):=⟨r,s⟩;clear r s;obtain⟨t,v⟩:=al1 w (Ob (dF gJ) 104);have b:bx (w.alloc (Ob (dF gJ) 104)) (E (U w)) (dF gJ):=v;clear v
 cases C:(x.toList==[79,112,116,105,111,110])
 rotate_left
 ·go_enter Tryz.func99,Tryz.ntmps99
  go_wp2_with fail;go_light;exact mz Tryz.results99 Q Q ⟨x,0,0,true⟩ (al1 _ _).2 (al1 _ _).1 (u:=.bool true) Q (λm e=>⟨_,_,Q,⟨sQ,λ_=>by have:=q.out.1;show(0:Int)<_;omega,λc=>(by simp at c)⟩,e⟩)
 ·go_enter Tryz.func99,Tryz.ntmps99
  go_wp2_with fail;go_loopg [4] 15 (λj u wr=>∃a:Nat,j=15 - a/\u=vN a/\a<=15/\Below (E (U w)) w wr/\bx wr (E (U w)) (dF gJ))
  case atStart=>exact⟨0,Q,Q,zL _,t,b⟩
  case round=>
   clear t b;obtain⟨a,f,rfl,y,d,b⟩:=hrel;have k:Hid (gk=15 - a):=f;clear f;have n:=b.cell;have o:=b.fz;have p:=b.lt;by_cases l:a<15
   ·have i:(a:Int)<15:=oM;go_wp2_with (go_at_call 107;refine(vJ _ _).mono ?_;rintro c z ⟨A,rfl,rfl⟩)
    ·go_light;exact gV Tryz.results99 Q Q b (lR _) d (u:=.bool true) Q ⟨x,1,a,true⟩ (λm e=>⟨_,_,Q,⟨sQ,λc=>(by simp at c),λc=>(by simp at c)⟩,e⟩)
    ·go_roundg (15 - (a+1))
     case measure=>rw[k.out];omega
     case rel=>exact⟨a+1,Q,by go_num,l,d,b⟩
   ·have i:¬(a:Int)<15:=oM;have B:decide ((a:Int)<15)=false:=sU i;go_wp2_with fail;go_loopg [5] 4 (λj u wr=>∃a:Nat,j=4 - a/\u=vN a/\a<=4/\Below (E (U w)) w wr/\bx wr (E (U w)) (dF gJ))
    case atStart=>exact⟨0,Q,Q,zL _,d,b⟩
    case round=>
     clear d b n o p;obtain⟨a,f,rfl,y,d,b⟩:=hrel;have k:Hid (gk=4 - a):=f;clear f;have n:=b.cell;have o:=b.fz;have p:=b.lt;by_cases l:a<4
     ·have i:(a:Int)<4:=oM;go_wp2_with (go_at_call 21;refine(se _ _).mono ?_;rintro c z ⟨A,rfl,rfl⟩)
      ·go_light;exact gV Tryz.results99 Q Q b (lR _) d (u:=.bool true) Q ⟨x,2,a,true⟩ (λm e=>⟨_,_,Q,⟨sQ,λc=>(by simp at c),λ_=>by have:=q.out.2;show(a:Int)<_;omega⟩,e⟩)
      ·go_roundg (4 - (a+1))
       case measure=>rw[k.out];omega
       case rel=>exact⟨a+1,Q,by go_num,l,d,b⟩
     ·have i:¬(a:Int)<4:=oM;have B:decide ((a:Int)<4)=false:=sU i;go_wp2_with fail;go_loopg [6] 41 (λj u wr=>∃a:Nat,j=41 - a/\u=vN a/\a<=41/\Below (E (U w)) w wr/\bx wr (E (U w)) (dF gJ))
      case atStart=>exact⟨0,Q,Q,zL _,d,b⟩
      case round=>
       clear d b n o p;obtain⟨a,f,rfl,y,d,b⟩:=hrel;have k:Hid (gk=41 - a):=f;clear f;have n:=b.cell;have o:=b.fz;have p:=b.lt;by_cases l:a<41
       ·have i:(a:Int)<41:=oM;go_wp2_with (go_at_call 108;refine(vI _ _).mono ?_;rintro c z ⟨A,rfl,rfl⟩)
        ·go_light;exact gV Tryz.results99 Q Q b (lR _) d (u:=.bool true) Q ⟨x,4,a,true⟩ (λm e=>⟨_,_,Q,⟨sQ,λc=>(by simp at c),λc=>(by simp at c)⟩,e⟩)
        ·go_roundg (41 - (a+1))
         case measure=>rw[k.out];omega
         case rel=>exact⟨a+1,Q,by go_num,l,d,b⟩
       ·have i:¬(a:Int)<41:=oM;have B:decide ((a:Int)<41)=false:=sU i;go_wp2_with fail;go_light;exact gV Tryz.results99 Q Q b (lR _) d (u:=.bool false) Q gJ (λm e=>⟨_,_,Q,NQ.zero q.out.1,e⟩)
end
theorem sq {D T:Nat} (v:1<=D) (y:4<=T) {w:World} {mo:OA} {ml mc:Nat} {ms:List Md} (j:di w (J mo ml mc) ms) (z A B C F:Value) (G:Int) {i:Nat} {m:Md} (k:ms[i]? =some m) (o:∀a∈m.ns,NQ D T a) (x:ByteArray):
 Calls Tryz.prog 86 #[.agg (eL (J mo ml mc) z A B C G F),vN i,.string x] w (ue w D T):=by
 obtain rfl:=j.len;have ar:=j.bj;have au:i<O ms:=(gS k).1;have av:(i:Int)<(O ms:Int):=oM;obtain⟨p,V,W⟩:=j.names m (mG k);obtain⟨g,X,q,Y,H,K,L⟩:=j.nth k;obtain⟨rfl,rfl⟩:mo=some ⟨g,0,I⟩/\mc=X:=sU q;clear q k j V;obtain⟨aw,Z,aa,b,ax⟩:=m;simp only at p W H K L o⊢;have ab:Hid (w.ownsRow 0 104 4 (J Z (O b) aa) (O b) (b.map Nm.c).flatten):=p;have r:Hid ((∀a∈b,NQ D T a)/\1<=D/\4<=T):=⟨o,v,y⟩;clear p o v y;go_enter Tryz.func86,Tryz.ntmps86
 go_wp2_with fail;go_loopg [9,17] (O b) (λac _ u wr=>∃c:Nat,ac=O b - c/\u=vN c/\c<=O b/\Below (E (U w)) w wr/\bx wr (E (U w)+1) (dF gJ))
 case atStart=>
  obtain⟨ad,ay,ae⟩:=dW w (Ob (eL (J (aS g) (O ms) mc) z A B C G F) 29) (Ob (dF gJ) 104);exact⟨0,Q,Q,zL _,ad,ae⟩
 case round=>
  obtain⟨c,M,rfl,az,d,e⟩:=hrel;have af:Hid (gk=O b - c):=M;clear M H K L Y;have ah:=e.cell;have ai:=e.fz;have l:=e.lt;by_cases aj:c<O b
  ·obtain⟨a,s⟩:∃a,b[c]? =some a:=⟨_,gG oM⟩;obtain⟨aA,rfl,aB,aC,aD,aE,aF⟩:=lU (ag ab.out (KT.below (P:=λ_=>True) d) trivial) s;have ak:Hid (NQ D T a):=r.out.1 a (mG s);clear s;have N:(c:Int)<(O b:Int):=oM;have n:Below (E (U w)) w (wr.alloc (Ob (dF a) 104)):=d.alloc d.size _;have f:bx (wr.alloc (Ob (dF a) 104)) (E (U w)+1) (dF gJ):=(Below.heap_alloc _ _ _ l).trans e;have aG:E (U w)+1≠E (U wr):=oM;have aH:E (U wr)≠E (U w)+1:=oM;go_wp2_with fail
   ·go_light;exact mz Tryz.results86 Q Q a ((Below.heap_alloc _ _ _ (sU l)).trans (bx.bQ e (.string a.name) (vN a.sort) (vN a.n) (.bool a.eZ))) ((Below.cM d oM _ _ _ _).alloc (by have:=d.size;simpa using this) _) (u:=.bool true) Q (λal t=>⟨a,true,Q,ak.out,t⟩)
   ·go_roundg (O b - (c+1))
    case measure=>rw[af.out];omega
    case rel=>exact⟨c+1,Q,by go_num,aj,n,f⟩
  ·have N:¬(c:Int)<(O b:Int):=oM;have aI:decide ((c:Int)<(O b:Int))=false:=sU N;go_wp2_with (go_at_call 99;refine(vK (D:=D) (T:=T) r.out.2.1 r.out.2.2 _ _).mono ?_;rintro q ao ⟨R,S,rfl,ap,n⟩;have f:bx ao (E (U w)+1) (dF gJ):=(n.block _ l).trans e;have aq:=d.trans (n.mono d.size);have ah:=f.cell;have ai:=f.fz;have l:=f.lt)
   go_light;exact gV Tryz.results86 Q Q f oM aq (u:=.bool S) Q R (λal t=>⟨R,S,Q,ap,t⟩)
def wM (w:World) (D T:Nat) (e:Ending) (w':World):Prop:=
 ∃(r:Nm) (k:Int),e=.returned (.tuple #[.agg (dF r),vN k])/\NQ D T r/\Below (E (U w)) w w'
theorem pI {D T:Nat} (M:1<=D) {w:World} {mo:OA} {ml mc:Nat} {ms:List Md} (B:di w (J mo ml mc) ms) (N:∀m∈ms,∀C∈m.ns,NQ D T C) (d e f j k:Value) (l:Int) (i:Int) (m x:ByteArray):
 Calls Tryz.prog 41 #[.agg (eL (J mo ml mc) d e f j l k),vN i,.string m,.string x] w (wM w D T):=by
 obtain rfl:=B.len;have n:Hid (di w (J mo (O ms) mc) ms/\(∀m∈ms,∀C∈m.ns,NQ D T C)/\1<=D):=⟨B,N,M⟩;clear B N M;obtain⟨q,F,G⟩:=dW w (Ob (eL (J mo (O ms) mc) d e f j l k) 29) (Ob (dF gJ) 104);go_enter Tryz.func41,Tryz.ntmps41
 go_wp2_with fail;refine(kP (n.out.1.below q) d e f j k l m).mono ?_;rintro H r ⟨o,rfl,aj,s⟩;have p:=q.trans (s.mono q.size);have b:bx r (E (U w)+1) (dF gJ):=(s.block _ (gE G).1).trans G;have K:r.heap[E (U w)]? =some (Ob (eL (J mo (O ms) mc) d e f j l k) 29 (0,0)):=(s.block _ (gE F).1).trans F;clear q F G s;have P:=b.cell;have R:=b.fz;have aa:=b.lt;have ab:=λac=>cell_of_row r _ ac _ 29 (0,0) K;have ak:E (U w)<E (U r):=(gE K).1;by_cases S:o<0
 ·have ad:decide (o<0)=true:=sU S;go_wp2_with fail;go_light;exact gV Tryz.results41 Q Q b oM p (u:=vN 7) Q gJ (λae c=>⟨gJ,7,Q,NQ.zero n.out.2.2,c⟩)
 ·have ad:decide (o<0)=false:=sU S;obtain⟨t,rfl⟩:∃t:Nat,o=(t:Int):=⟨o.toNat,oM⟩;obtain⟨v,V⟩:∃v,ms[t]? =some v:=⟨_,gG oM⟩;have W:Hid (ms[t]? =some v):=V;clear V;go_wp2_with fail;refine(pR (n.out.1.below p) d e f j k l W.out x).mono ?_;rintro H y ⟨a,af,rfl,X,Y,L⟩
  have ag:Hid (NQ D T a):=by
   show NQ D T a
   cases af
   ·rw[(Y Q).1];exact NQ.zero n.out.2.2
   ·exact n.out.2.1 v (mG W.out) a (List.mem_of_mem_take (X Q).1)
  have c:=p.trans (L.mono p.size);have z:bx y (E (U w)+1) (dF gJ):=(L.block _ aa).trans b;clear P R b ab K p L X Y;have P:=z.cell;have R:=z.fz;have ah:=z.lt;have al:E (U w)+1≠E (U y):=oM;have ao:E (U y)≠E (U w)+1:=oM
  have Z:Hid (∀ai:Int,∀A,A=(cM y (E (U w)+1) (.string a.name) (vN a.sort) (vN a.n) (.bool a.eZ)).alloc (Ob (dF a) 104)->bx A (E (U w)+1) (dF a)/\Below (E (U w)) w A):=by
   intro ai A H;subst H;exact⟨(Below.heap_alloc _ _ _ (sU ah)).trans (bx.bQ z _ _ _ _),(Below.cM c oM _ _ _ _).alloc (by have:=c.size;simpa using this) _⟩
  go_wp2_with fail
  all_goals
   go_light;exact mz Tryz.results41 Q Q a (Z.out 0 _ Q).1 (Z.out 0 _ Q).2 Q (λae c=>⟨a,_,Q,ag.out,c⟩)
def rF (s:ByteArray) (i:Nat):Prop:=∃h:i+1<s.size,(((s[i]'(by omega)).toNat:Int)==58)=true/\(((s[i+1]'h).toNat:Int)==58)=true
def bX (ns:List ByteArray):List Value:=ns.map Value.string
def wN (w:World) (s:ByteArray) (e:Ending) (w':World):Prop:=
 ∃(ao:OA) (cp:Nat) (ns:List ByteArray),e=.returned (J ao (O ns) cp)/\w'.ownsRow (E (U w)) 9 1 (J ao (O ns) cp) (O ns) (bX ns)/\(1<=O ns/\O ns<=s.size+1)/\((∃i,rF s i)->2<=O ns)/\Below (E (U w)) w w'
structure SL (w:World) (s:ByteArray) (idx from_:Nat) (wr:World) (v:Value) (ns:List ByteArray):Prop where
 below:Below (E (U w)) w wr
 row:wr.ownsRow (E (U w)) 9 1 v (O ns) (bX ns)
 bj:O ns<=idx
 gj:(∃i,i<idx/\rF s i)->1<=O ns
 fr:from_=0\/∃j,from_=j+2/\j<idx/\rF s j
theorem pL (s:ByteArray) (w:World) (Z:s.size<=20000) (r:∀i,rF s i->¬rF s (i+1)):Calls Tryz.prog 40 #[.string s] w (wN w s):=by
 have K:Hid (∀i,rF s i->¬rF s (i+1)):=r;clear r;go_enter Tryz.func40,Tryz.ntmps40
 go_wp2_with fail;go_loopg [3,4,5] s.size (λL v M n wr=>∃(a b:Nat) (c:List ByteArray) (e:OA) (f:Nat),L=s.size - a/\n=vN a/\M=vN b/\v=J e (O c) f/\a<=s.size/\SL w s a b wr (J e (O c) f) c)
 case atStart=>exact⟨0,0,[],I,0,Q,Q,Q,Q,zL _,⟨Below.refl _ _,World.ownsRow_nil _ _ _ _,zL _,λ⟨i,o,_⟩=>absurd o (Nat.not_lt_zero _),.inl Q⟩⟩
 case round=>
  obtain⟨a,b,c,e,f,D,rfl,rfl,rfl,aa,d⟩:=hrel;have t:Hid (gk=s.size - a):=D;clear D
  have ab:b<=s.size/\b<=a+1:=by
   rcases d.fr with k|⟨p,k,l,h2,r⟩<;>omega
  have ac:=d.bj;have F:∀q,(Value.slice e (O c) f).ownBlock=some q->E (U w)<=q:=λq N=>(d.row.lt q N).1
  have G:∀{u:ByteArray},∀n∈(#[Value.string u]:Array Value).toList,n.oneCell'=true:=by
   intro u n P;obtain rfl:n=.string u:=sU P;rfl
  by_cases x:a+1<s.size
  ·have H:(a:Int)+1<(s.size:Int):=oM;have S:a<s.size:=oM
   have NO:Hid (¬rF s a->SL w s (a+1) b wr (J e (O c) f) c):=λT=>⟨d.below,d.row,oM,λ⟨i,o,j⟩=>by
    rcases Nat.lt_or_ge i a with h|h
    ·exact d.gj ⟨i,h,j⟩
    ·obtain rfl:i=a:=oM;exact absurd j T,d.fr.imp (λk=>k) (λ⟨p,k,h,j⟩=>⟨p,k,oM,j⟩)⟩
   cases j:(((s[a]'S).toNat:Int)==58)
   ·go_wp2_with fail;go_roundg (s.size - (a+1))
    case measure=>rw[t.out];omega
    case rel=>exact⟨a+1,b,c,e,f,Q,by go_num,Q,Q,oM,NO.out (λ⟨_,l,_⟩=>by rw[j] at l;exact absurd l dC)⟩
   ·cases y:(((s[a+1]'x).toNat:Int)==58)
    ·go_wp2_with fail;go_roundg (s.size - (a+1))
     case measure=>rw[t.out];omega
     case rel=>exact⟨a+1,b,c,e,f,Q,by go_num,Q,Q,oM,NO.out (λ⟨_,_,l⟩=>by rw[y] at l;exact absurd l dC)⟩
    ·have ad:b<=a:=by
      rcases d.fr with k|⟨p,k,l,h2⟩
      ·omega
      ·rcases Nat.lt_or_ge a b with h|h
       ·obtain rfl:a=p+1:=oM;exact absurd ⟨x,j,y⟩ (K.out p h2)
       ·exact h
     have V:(b:Int)<=(a:Int):=oM;have W:Hid (rF s a):=⟨x,j,y⟩;clear NO;go_wp2_with (at_builtin;refine bG 105 (v:=J e (O c) f) (xv:=J (aS (E (U wr))) 1 1) (R:=λz A=>App (wr.alloc (Ob #[.string (s.extract b a)] 9)) (E (U w)) 9 1 (J e (O c) f) (O c) (bX c) [.string (s.extract b a)] 1 z A) rQ rQ rQ rQ (fj Tryz.underlying105 tL Q dC d.row d.below.size #[.string (s.extract b a)] rfl G (by unfold maxLen;omega) oM _ Q) ?_;rintro X Y m;obtain⟨B,C,rfl⟩:=m.shape)
     go_roundg (s.size - (a+1))
     case measure=>rw[t.out];omega
     case rel=>
      refine⟨a+1,a+2,c++[s.extract b a],B,C,Q,by go_num,by go_num,sQ,oM,⟨m.below (d.below.alloc d.below.size _) (by have:=d.below.size;simp;omega) F,by have:=m.row;simpa[bX] using this,by simp;omega,λ_=>by simp,.inr ⟨a,Q,oM,W.out⟩⟩⟩
  ·have H:¬(a:Int)+1<(s.size:Int):=oM;have ae:decide ((a:Int)+1<(s.size:Int))=false:=sU H;have V:(b:Int)<=(s.size:Int):=oM;go_wp2_with (at_builtin;refine bG 105 (v:=J e (O c) f) (xv:=J (aS (E (U wr))) 1 1) (R:=λz A=>App (wr.alloc (Ob #[.string (s.extract b s.size)] 9)) (E (U w)) 9 1 (J e (O c) f) (O c) (bX c) [.string (s.extract b s.size)] 1 z A) rQ rQ rQ rQ (fj Tryz.underlying105 tL Q dC d.row d.below.size #[.string (s.extract b s.size)] rfl G (by unfold maxLen;omega) oM _ Q) ?_;rintro X Y m;obtain⟨B,C,rfl⟩:=m.shape)
   go_ret;refine⟨B,C,c++[s.extract b s.size],sQ,by have:=m.row;simpa[bX] using this,⟨sQ,by simp;omega⟩,λ⟨i,o⟩=>?_,m.below (d.below.alloc d.below.size _) (by have:=d.below.size;simp;omega) F⟩;have:=d.gj ⟨i,oH o.1,o⟩;simp;omega
theorem wG {w:World} {rb r s i:Nat} {t:Tk} {k a:Int} (h:Rd w rb r s t i k a):Calls Tryz.prog 62 #[.pointer (some ⟨rb,0,I⟩),.bool true] w (ox w rb r s t i k):=by
 have ag:=h.l;have F:(0:Int)<=(t.pos i:Int)/\(t.pos i:Int)<=7000:=oH (h.ar.aQ i);go_enter Tryz.func62,Tryz.ntmps62
 have c:=Mz.start (wt:=1) h;go_wp2_with fail;refine(c.ne' (sz w) (aB)).lf (aF · 8) ?_;clear c;intro u c;have d:=c.f1;go_wp2_with fail;refine(c.ne' (sz u) (nk 8 (t.pos i) nl)).wn (aI · _) ?_;clear c d;intro ah ai aj ak al c;have d:=c.f2;go_wp2_with fail;refine c.nm cD ?_;clear c d;intro ao y l ap aq G ar au c;have d:=c.f2;go_wp2_with fail;refine(c.gI y).lf (aF · 9) ?_;clear c d;intro z c;have d:=c.f2;have av:(0:Int)<=((t.pos l):Int)/\((t.pos l):Int)<=7000:=oH (h.ar.aQ l);go_wp2_with fail;refine(c.ne' (sz z) (nk 9 (t.pos l) nl)).nn (pZ · true) ?_;clear c d;intro m f aw H ax K ay c;have d:=c.f3;go_wp2_with fail;replace c:=((c.yS f.k f.p f.n f.m f.s f.v).iU (sl (sz m) 1)).m1 (sz m);have L:=(c.at 1 Q).2.2.1;refine(vY c.st.rd).mono ?_;rintro j aA ⟨M,N,e,P,A,S,rfl,o,B,x,T,V⟩;have W:Hid (A=0->H=0):=o.ok;replace c:=(c.holds o B V).up (g':=True) (λ_ j=>Nat.lt_of_le_of_lt c.le (o.go trivial j));clear o;replace d:=c.f3;have X:=B.put (b:=(sz u)) L 2 (.int .i64 (O e:Int));go_wp2_with (at_builtin;refine oC (v:=(sl (sz m) 1)) (xv:=J M (O e) N) (R:=λY Z=>∃p q,Y=(J p (1+O e) q)/\Mz 1 w rb r s t i k True (-31) Z P A S [(sz z,f.a),(sz u,ae 8 (t.pos i) (O e:Int) 0 y (sl (sz m) 1)),(sz w,aB)] [] (J p (1+O e) q) ([f.t]++e)) rQ rQ rQ rQ (Mz.fX (us:=e) (c.qR (O e:Int)) X sQ (lT x dC) _) ?_;rintro aC aD ⟨p,q,rfl,C⟩;replace c:=C;clear C;replace d:=c.f3)
 go_wp2_with fail;go_region_law (first|(refine c.as (sz aa) (by have:=x;simp;omega) ?_;clear c d;intro aE ab ac c;have d:=c.f3)|(go_simp;refine(c.iU (J p (1+O e) q)).drew.nn uQ ?_;clear c d;intro aa ad aG aH aJ af D c;have d:=c.f3))
 all_goals
  go_wp2_with fail;go_light;exact Mz.kI (vs:=(([f.t]++e)++[ad.t])) (n:=(O e:Int)) Tryz.results62 Q Q (by simp;omega) (c.iU (J ab ((1+O e)+1) ac)) 2 Q (by have:=x;simp;omega) (lT G dC) F (λj=>⟨e.map az,_,by rw[List.map_append,List.map_append];show az _::_=_;rw[K (W.out (D.out j))];rfl,sQ,T (D.out j),af j⟩) oM
end Go.Proofs.YtdghkacbpebcoaaGreat
