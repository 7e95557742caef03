/- append, whatever the rows hold: what it leaves of a row that is one's own. -/
import Derived.Test.YtagdihffmjopaaaGreatDoorMze
import Derived.Test.YtagdihffmjopaaaGreatDoorMz
import Derived.Lib.Replace
import Derived.Lib.ItoaNum
import Derived.Lib.Strings
import Derived.Lib.AppendStr
namespace Go.Proofs.YtagdihffmjopaaaGreatDoor
set_option linter.all false
open Go.RowKit
variable{wt:Nat}
structure Nf where
 k:Int
 p:Int
 n:Int
 m:Int
 s:ByteArray
 o:Option Addr
 l:Nat
 c:Nat
abbrev Nf.v (x:Nf):Value:=.slice x.o x.l x.c
abbrev Nf.a (x:Nf):Array Value:=nodeC x.k x.p x.n x.m x.s (.slice x.o x.l x.c)
abbrev Nf.t (x:Nf):List Value:=(nodeC x.k x.p x.n x.m x.s (.slice x.o x.l x.c)).toList
abbrev sz (w:World):Nat:=w.heap.size
abbrev nl:Value:=.slice none 0 0
abbrev sl (b n:Nat):Value:=.slice (some ⟨b,0,none⟩) n n
abbrev nk (k p:Int) (v:Value):Array Value:=nodeC k p 0 0 ⟨#[]⟩ v
abbrev Fc (W:World) (rb b:Nat) (c:Array Value):Prop:=(∀o,W.cell? ⟨b,o,none⟩=c[o]?)∧(∀o,W.frozen? ⟨b,o,none⟩=false)∧b<W.heap.size∧b≠rb∧rb≠b
section
variable{w W w':World} {rb tb cap i j:Nat} {t:Tk} {k kj aj:Int} {g:Prop} {s:Int} {L:List (Nat × Array Value)} {T:List (List Value)} {kv:Value} {vs:List (List Value)} {a b c d:Nat} {x y z u:Array Value}
theorem Mz.fa (q:Mz wt w rb tb cap t i k g s W j kj aj L T kv vs) (n:Nat) {b:Nat} {c:Array Value} (hn:L[n]? =some (b,c)):Fc W rb b c:=by
 obtain⟨h1,h2,h3,h4⟩:=q.at n hn
 exact⟨h1,h2,h3,h4,fun e=>h4 e.symm⟩
theorem Mz.f1 (q:Mz wt w rb tb cap t i k g s W j kj aj ((a,x)::L) T kv vs):Fc W rb a x:=q.fa 0 rfl
theorem Mz.f2 (q:Mz wt w rb tb cap t i k g s W j kj aj ((a,x)::(b,y)::L) T kv vs):Fc W rb a x∧Fc W rb b y∧a≠b∧b≠a:=⟨q.fa 0 rfl,q.fa 1 rfl,q.ne 0 1 rfl rfl (by decide)⟩
theorem Mz.f3 (q:Mz wt w rb tb cap t i k g s W j kj aj ((a,x)::(b,y)::(c,z)::L) T kv vs):Fc W rb a x∧Fc W rb b y∧Fc W rb c z∧(a≠b∧b≠a)∧(a≠c∧c≠a)∧b≠c∧c≠b:=⟨q.fa 0 rfl,q.fa 1 rfl,q.fa 2 rfl,q.ne 0 1 rfl rfl (by decide),q.ne 0 2 rfl rfl (by decide),q.ne 1 2 rfl rfl (by decide)⟩
theorem Mz.f4 (q:Mz wt w rb tb cap t i k g s W j kj aj ((a,x)::(b,y)::(c,z)::(d,u)::L) T kv vs):Fc W rb a x∧Fc W rb b y∧Fc W rb c z∧Fc W rb d u∧(a≠b∧b≠a)∧(a≠c∧c≠a)∧(b≠c∧c≠b)∧(a≠d∧d≠a)∧(b≠d∧d≠b)∧c≠d∧d≠c:=⟨q.fa 0 rfl,q.fa 1 rfl,q.fa 2 rfl,q.fa 3 rfl,q.ne 0 1 rfl rfl (by decide),q.ne 0 2 rfl rfl (by decide),q.ne 1 2 rfl rfl (by decide),q.ne 0 3 rfl rfl (by decide),q.ne 1 3 rfl rfl (by decide),q.ne 2 3 rfl rfl (by decide)⟩
variable{b0 b1 b2 b3:Nat} {c0 c1 c2 c3:Array Value} {ki po n m:Int} {na:ByteArray} {v:Value}
theorem Mz.p00 (q:Mz wt w rb tb cap t i k g s W j kj aj ((b,nodeC ki po n m na v)::L) T kv vs) (X:Int):Mz wt w rb tb cap t i k g s (W.setCell ⟨b,0,none⟩ (.int .i64 X)) j kj aj ((b,nodeC X po n m na v)::L) T kv vs:=q.put 0 rfl 0 (.int .i64 X)
theorem Mz.p02 (q:Mz wt w rb tb cap t i k g s W j kj aj ((b,nodeC ki po n m na v)::L) T kv vs) (X:Int):Mz wt w rb tb cap t i k g s (W.setCell ⟨b,2,none⟩ (.int .i64 X)) j kj aj ((b,nodeC ki po X m na v)::L) T kv vs:=q.put 0 rfl 2 (.int .i64 X)
theorem Mz.p03 (q:Mz wt w rb tb cap t i k g s W j kj aj ((b,nodeC ki po n m na v)::L) T kv vs) (X:Int):Mz wt w rb tb cap t i k g s (W.setCell ⟨b,3,none⟩ (.int .i64 X)) j kj aj ((b,nodeC ki po n X na v)::L) T kv vs:=q.put 0 rfl 3 (.int .i64 X)
theorem Mz.p04 (q:Mz wt w rb tb cap t i k g s W j kj aj ((b,nodeC ki po n m na v)::L) T kv vs) (X:ByteArray):Mz wt w rb tb cap t i k g s (W.setCell ⟨b,4,none⟩ (.string X)) j kj aj ((b,nodeC ki po n m X v)::L) T kv vs:=q.put 0 rfl 4 (.string X)
theorem Mz.p05 (q:Mz wt w rb tb cap t i k g s W j kj aj ((b,nodeC ki po n m na v)::L) T kv vs) (X:Value):Mz wt w rb tb cap t i k g s (W.setCell ⟨b,5,none⟩ (X)) j kj aj ((b,nodeC ki po n m na X)::L) T kv vs:=q.put 0 rfl 5 (X)
theorem Mz.pA0 (q:Mz wt w rb tb cap t i k g s W j kj aj ((b,nodeC ki po n m na v)::L) T kv vs) (K P N M:Int) (A:ByteArray) (V:Value):Mz wt w rb tb cap t i k g s (set11 W b (.int .i64 K) (.int .i64 P) (.int .i64 N) (.int .i64 M) (.string A) V (.int .i64 0) (.int .i64 0) nl nl nl) j kj aj ((b,nodeC K P N M A V)::L) T kv vs:=q.put11 0 rfl _ _ _ _ _ _ _ _ _ _ _
theorem Mz.p12 (q:Mz wt w rb tb cap t i k g s W j kj aj ((b0,c0)::(b,nodeC ki po n m na v)::L) T kv vs) (X:Int):Mz wt w rb tb cap t i k g s (W.setCell ⟨b,2,none⟩ (.int .i64 X)) j kj aj ((b0,c0)::(b,nodeC ki po X m na v)::L) T kv vs:=q.put 1 rfl 2 (.int .i64 X)
theorem Mz.p14 (q:Mz wt w rb tb cap t i k g s W j kj aj ((b0,c0)::(b,nodeC ki po n m na v)::L) T kv vs) (X:ByteArray):Mz wt w rb tb cap t i k g s (W.setCell ⟨b,4,none⟩ (.string X)) j kj aj ((b0,c0)::(b,nodeC ki po n m X v)::L) T kv vs:=q.put 1 rfl 4 (.string X)
theorem Mz.p15 (q:Mz wt w rb tb cap t i k g s W j kj aj ((b0,c0)::(b,nodeC ki po n m na v)::L) T kv vs) (X:Value):Mz wt w rb tb cap t i k g s (W.setCell ⟨b,5,none⟩ (X)) j kj aj ((b0,c0)::(b,nodeC ki po n m na X)::L) T kv vs:=q.put 1 rfl 5 (X)
theorem Mz.pA1 (q:Mz wt w rb tb cap t i k g s W j kj aj ((b0,c0)::(b,nodeC ki po n m na v)::L) T kv vs) (K P N M:Int) (A:ByteArray) (V:Value):Mz wt w rb tb cap t i k g s (set11 W b (.int .i64 K) (.int .i64 P) (.int .i64 N) (.int .i64 M) (.string A) V (.int .i64 0) (.int .i64 0) nl nl nl) j kj aj ((b0,c0)::(b,nodeC K P N M A V)::L) T kv vs:=q.put11 1 rfl _ _ _ _ _ _ _ _ _ _ _
theorem Mz.p22 (q:Mz wt w rb tb cap t i k g s W j kj aj ((b0,c0)::(b1,c1)::(b,nodeC ki po n m na v)::L) T kv vs) (X:Int):Mz wt w rb tb cap t i k g s (W.setCell ⟨b,2,none⟩ (.int .i64 X)) j kj aj ((b0,c0)::(b1,c1)::(b,nodeC ki po X m na v)::L) T kv vs:=q.put 2 rfl 2 (.int .i64 X)
theorem Mz.p24 (q:Mz wt w rb tb cap t i k g s W j kj aj ((b0,c0)::(b1,c1)::(b,nodeC ki po n m na v)::L) T kv vs) (X:ByteArray):Mz wt w rb tb cap t i k g s (W.setCell ⟨b,4,none⟩ (.string X)) j kj aj ((b0,c0)::(b1,c1)::(b,nodeC ki po n m X v)::L) T kv vs:=q.put 2 rfl 4 (.string X)
theorem Mz.p25 (q:Mz wt w rb tb cap t i k g s W j kj aj ((b0,c0)::(b1,c1)::(b,nodeC ki po n m na v)::L) T kv vs) (X:Value):Mz wt w rb tb cap t i k g s (W.setCell ⟨b,5,none⟩ (X)) j kj aj ((b0,c0)::(b1,c1)::(b,nodeC ki po n m na X)::L) T kv vs:=q.put 2 rfl 5 (X)
theorem Mz.p35 (q:Mz wt w rb tb cap t i k g s W j kj aj ((b0,c0)::(b1,c1)::(b2,c2)::(b,nodeC ki po n m na v)::L) T kv vs) (X:Value):Mz wt w rb tb cap t i k g s (W.setCell ⟨b,5,none⟩ (X)) j kj aj ((b0,c0)::(b1,c1)::(b2,c2)::(b,nodeC ki po n m na X)::L) T kv vs:=q.put 3 rfl 5 (X)
theorem Mz.ne' (q:Mz wt w rb tb cap t i k g s W j kj aj L T kv vs) (ad:Nat) (c:Array Value) (had:ad=W.heap.size:=by simp):Mz wt w rb tb cap t i k g s (W.alloc (.cells c 28)) j kj aj ((ad,c)::L) T kv vs:=q.newAt had c
theorem Mz.m1 (q:Mz wt w rb tb cap t i k g s W j kj aj L ((nodeC ki po n m na v).toList::T) nl []) (ad:Nat) (had:ad=W.heap.size:=by simp):Mz wt w rb tb cap t i k g s (W.alloc (.cells (nodeC ki po n m na v) 28)) j kj aj L T (sl ad 1) [(nodeC ki po n m na v).toList]:=Mz.made (us:=[(nodeC ki po n m na v).toList]) (T:=T) q _ (by simp) (by simp) (by simp) had rfl
theorem Mz.fo (q:Mz wt w rb tb cap t i k g s W j kj aj L T kv vs) (ki po n m:Int) (na:ByteArray) (hl:vs.length≤20000) (hp:0≤po∧po≤7000) (hn:na.size≤20000:=by decide) (hG:kj=0→Gr ki n m na (vs.map labOf):=by exact fun _=>Gr.free (by unfold frK;decide)):Mz wt w rb tb cap t i k g (s+(wt:Int)) W j kj aj L ((nodeC ki po n m na kv).toList::T) nl []:=q.fold hl hn hp hG
theorem Mz.fk (q:Mz wt w rb tb cap t i k g s W j kj aj L T kv vs) (ki po:Int) (hl:vs.length≤20000) (hp:0≤po∧po≤7000) (hG:kj=0→Gr ki 0 0 ⟨#[]⟩ (vs.map labOf):=by exact fun _=>Gr.free (by unfold frK;decide)):Mz wt w rb tb cap t i k g (s+(wt:Int)) W j kj aj L ((nk ki po kv).toList::T) nl []:=q.fold hl (by decide) hp hG
theorem Mz.lk (q:Mz wt w rb tb cap t i k g s W j kj aj L T kv vs) (ki po n m:Int) (na:ByteArray) (hp:0≤po∧po≤7000) (hn:na.size≤20000:=by decide) (hG:kj=0→Gr ki n m na []:=by exact fun _=>Gr.free (by unfold frK;decide)):Mz wt w rb tb cap t i k g (s+(wt:Int)) W j kj aj L ((nodeC ki po n m na nl).toList::T) kv vs:=q.leaf hn hp hG
variable{f:Nat} {args:Array Value} {R:Value} {Q:Ending→World→Prop}
theorem Mz.lf (q:Mz wt w rb tb cap t i k g s W j kj aj L T kv vs) (h:Rd W rb tb cap t j kj aj→Calls Tryz.prog f args W fun e w'=>e=.returned R∧Below W.heap.size W w') (K:∀w',Mz wt w rb tb cap t i k g s w' j kj aj L T kv vs→Q (.returned R) w'):Calls Tryz.prog f args W Q:=(h q.st.rd).mono fun e w' p=>p.1▸K w' (q.below p.2)
theorem Mz.wn (q:Mz wt w rb tb cap t i k g s W j kj aj L T kv vs) (h:Rd W rb tb cap t j kj aj→Calls Tryz.prog f args W fun e w'=>e=.returned R∧∃i' k' a',Nx W rb tb cap t j kj True w' i' k' a') (K:∀w' i' k' a',Hid (k'=0→kj=0)→Mz wt w rb tb cap t i k True (s - 16) w' i' k' a' L T kv vs→Q (.returned R) w'):Calls Tryz.prog f args W Q:=(h q.st.rd).mono fun e w' p=>by
 obtain⟨rfl,i',k',a',hx⟩:=p
 exact K w' i' k' a' hx.ok (q.nxm hx)
variable{kx px nx mx ky py ny my:Int} {ax ay:ByteArray} {vx vy:Value}
theorem Mz.l1 (q:Mz wt w rb tb cap t i k g s W j kj aj L ((nodeC kx px nx mx ax vx).toList::T) kv vs) (ad:Nat) (ki po n m:Int) (na:ByteArray) (hp:0≤po∧po≤7000) (hn:na.size≤20000:=by decide) (hG:kj=0→Gr ki n m na ([(nodeC kx px nx mx ax vx).toList].map labOf):=by exact fun _=>Gr.free (by unfold frK;decide)) (had:ad=W.heap.size:=by simp):Mz wt w rb tb cap t i k g (s+(wt:Int)) (W.alloc (.cells (nodeC kx px nx mx ax vx) 28)) j kj aj L ((nodeC ki po n m na (sl ad 1)).toList::T) kv vs:=Mz.lit (us:=[(nodeC kx px nx mx ax vx).toList]) (T:=T) q _ (by simp) (by simp) (by simp) had rfl hn hp hG
theorem Mz.l2 (q:Mz wt w rb tb cap t i k g s W j kj aj L ((nodeC kx px nx mx ax vx).toList::(nodeC ky py ny my ay vy).toList::T) kv vs) (ad:Nat) (ki po n m:Int) (na:ByteArray) (hp:0≤po∧po≤7000) (hn:na.size≤20000:=by decide) (hG:kj=0→Gr ki n m na ([(nodeC kx px nx mx ax vx).toList,(nodeC ky py ny my ay vy).toList].map labOf):=by exact fun _=>Gr.free (by unfold frK;decide)) (had:ad=W.heap.size:=by simp):Mz wt w rb tb cap t i k g (s+(wt:Int)) (W.alloc (.cells (nodeC2 kx px nx mx ax vx ky py ny my ay vy) 28)) j kj aj L ((nodeC ki po n m na (sl ad 2)).toList::T) kv vs:=Mz.lit (us:=[(nodeC kx px nx mx ax vx).toList,(nodeC ky py ny my ay vy).toList]) (T:=T) q (nodeC2 kx px nx mx ax vx ky py ny my ay vy) (by simp) (by simp) (by simp) had rfl hn hp hG
theorem Mz.m2 (q:Mz wt w rb tb cap t i k g s W j kj aj L ((nodeC kx px nx mx ax vx).toList::(nodeC ky py ny my ay vy).toList::T) nl []) (ad:Nat) (had:ad=W.heap.size:=by simp):Mz wt w rb tb cap t i k g s (W.alloc (.cells (nodeC2 kx px nx mx ax vx ky py ny my ay vy) 28)) j kj aj L T (sl ad 2) [(nodeC kx px nx mx ax vx).toList,(nodeC ky py ny my ay vy).toList]:=Mz.made (us:=[(nodeC kx px nx mx ax vx).toList,(nodeC ky py ny my ay vy).toList]) (T:=T) q (nodeC2 kx px nx mx ax vx ky py ny my ay vy) (by simp) (by simp) (by simp) had rfl
variable{B:Nat} {P:ByteArray→Prop}
theorem Mz.nm (q:Mz wt w rb tb cap t i k g s W j kj aj L T kv vs) (h:Rd W rb tb cap t j kj aj→Calls Tryz.prog f args W fun e w'=>∃x,e=.returned (.string x)∧x.size≤B∧∃i' k' a',Nx W rb tb cap t j kj True w' i' k' a'∧(k'=0→P x)) (K:∀w' x i' k' a',x.size≤B→(k'=0→P x)→Hid (k'=0→kj=0)→Mz wt w rb tb cap t i k True (s - 16) w' i' k' a' L T kv vs→Q (.returned (.string x)) w'):Calls Tryz.prog f args W Q:=(h q.st.rd).mono fun e w' p=>by
 obtain⟨x,rfl,hs,i',k',a',hx,ho⟩:=p
 exact K w' x i' k' a' hs ho hx.ok (q.nxm hx)
variable{xs:ByteArray}
theorem Mz.et (q:Mz wt w rb tb cap t i k g s W j kj aj L T kv vs) (h:Rd W rb tb cap t j kj aj→Calls Tryz.prog f args W fun e w'=>∃b i',e=.returned (.bool b)∧Eaten t xs j kj b i'∧Rd w' rb tb cap t i' kj aj∧Kp W.heap.size rb W w') (K:∀w' b i',Eaten t xs j kj b i'→Mz wt w rb tb cap t i k g s w' i' kj aj L T kv vs→Q (.returned (.bool b)) w'):Calls Tryz.prog f args W Q:=(h q.st.rd).mono fun e w' p=>by
 obtain⟨b,i',rfl,hE,h1,h2⟩:=p
 exact K w' b i' hE (q.rk h1 h2 hE.le (fun e=>e))
theorem Mz.ey (q:Mz wt w rb tb cap t i k g s W j kj aj L T kv vs) (h:Rd W rb tb cap t j kj aj→Calls Tryz.prog f args W fun e w'=>e=.returned R∧Nx W rb tb cap t j kj True w' (j+1) kj aj) (K:∀w',Mz wt w rb tb cap t i k True (s - 16) w' (j+1) kj aj L T kv vs→Q (.returned R) w'):Calls Tryz.prog f args W Q:=(h q.st.rd).mono fun e w' p=>p.1▸K w' (q.nxm p.2)
variable{D:Int} {C:Int→Prop} {E:List Int→Prop} {must:Prop}
theorem Mz.nd (q:Mz wt w rb tb cap t i k g s W j kj aj L T kv vs) (h:Rd W rb tb cap t j kj aj→Calls Tryz.prog f args W (NodeZ wt W rb tb cap t j kj True D C)) (K:∀w' (x:Nf) i' k' a',(k'=0→C (labOf x.t))→Hid (k'=0→kj=0)→Mz wt w rb tb cap t i k True (s - D) w' i' k' a' L (x.t::T) kv vs→Q (.returned (.agg x.a)) w'):Calls Tryz.prog f args W Q:=(h q.st.rd).mono fun e w' p=>by
 obtain⟨x1,x2,x3,x4,x5,x6,x7,x8,i',k',a',rfl,hx,hn,hc,hz⟩:=p
 exact K w' ⟨x1,x2,x3,x4,x5,x6,x7,x8⟩ i' k' a' hc hx.ok (q.nodem hx hn hz)
theorem Mz.nn (q:Mz wt w rb tb cap t i k g s W j kj aj L T kv vs) (h:Rd W rb tb cap t j kj aj→Calls Tryz.prog f args W (NodeZ wt W rb tb cap t j kj must D C)) (K:∀w' (x:Nf) i' k' a',(k'=0→C (labOf x.t))→Hid (k'=0→kj=0)→Mz wt w rb tb cap t i k g (s - D) w' i' k' a' L (x.t::T) kv vs→Q (.returned (.agg x.a)) w'):Calls Tryz.prog f args W Q:=(h q.st.rd).mono fun e w' p=>by
 obtain⟨x1,x2,x3,x4,x5,x6,x7,x8,i',k',a',rfl,hx,hn,hc,hz⟩:=p
 exact K w' ⟨x1,x2,x3,x4,x5,x6,x7,x8⟩ i' k' a' hc hx.ok (q.node hx hn hz)
theorem Mz.li (q:Mz wt w rb tb cap t i k g s W j kj aj L T nl []) (h:Rd W rb tb cap t j kj aj→Calls Tryz.prog f args W (ListZ wt W rb tb cap t j kj True D E)) (K:∀w' ao cp vs' i' k' a',vs'.length≤6002→(k'=0→E (vs'.map labOf))→Hid (k'=0→kj=0)→Mz wt w rb tb cap t i k True (s - D) w' i' k' a' L T (.slice ao vs'.length cp) vs'→Q (.returned (.slice ao vs'.length cp)) w'):Calls Tryz.prog f args W Q:=(h q.st.rd).mono fun e w' p=>by
 obtain⟨ao,cp,vs',i',k',a',rfl,hx,hK,hl,hP,hz⟩:=p
 exact K w' ao cp vs' i' k' a' hl hP hx.ok ((q.list hx hK hz).up (fun _ e=>Nat.lt_of_le_of_lt q.le (hx.go trivial e)))
theorem Mz.ln (q:Mz wt w rb tb cap t i k g s W j kj aj L T nl []) (h:Rd W rb tb cap t j kj aj→Calls Tryz.prog f args W (ListZ wt W rb tb cap t j kj must D E)) (K:∀w' ao cp vs' i' k' a',vs'.length≤6002→(k'=0→E (vs'.map labOf))→Hid (k'=0→kj=0)→Mz wt w rb tb cap t i k g (s - D) w' i' k' a' L T (.slice ao vs'.length cp) vs'→Q (.returned (.slice ao vs'.length cp)) w'):Calls Tryz.prog f args W Q:=(h q.st.rd).mono fun e w' p=>by
 obtain⟨ao,cp,vs',i',k',a',rfl,hx,hK,hl,hP,hz⟩:=p
 exact K w' ao cp vs' i' k' a' hl hP hx.ok (q.list hx hK hz)
variable{ko ro:Option Addr} {kl kc rl rc:Nat} {ops:Array Oper} {rest:List Oper} {p:Oper} {act:Act} {S:Exit→Act→World→Prop} {sv xo:Operand}
theorem Mz.ap (q:Mz wt w rb tb cap t i k g s W j kj aj L ((nodeC ki po n m na (.slice ko kl kc)).toList::T) (.slice ro rl rc) vs) (ad:Nat) (hv:vs.length≤19000) (K:∀w' ao cp,Mz wt w rb tb cap t i k g s w' j kj aj L T (.slice ao (rl+1) cp) (vs++[(nodeC ki po n m na (.slice ko kl kc)).toList])→wpList Tryz.prog ops S rest (act.put p.dst (.slice ao (rl+1) cp)) w') (hgd:p.guard=none:=by rfl) (ho:p.op=.call {callee:=.builtin .append,args:=#[sv,xo],argTypes:=#[22,22]}:=by rfl) (hs:act.eval sv=.slice ro rl rc:=by rfl) (hx:act.eval xo=sl ad 1:=by rfl) (had:ad=W.heap.size:=by simp):wpList Tryz.prog ops S (p::rest) act (W.alloc (.cells (nodeC ki po n m na (.slice ko kl kc)) 28)):=
 by
 obtain⟨ro',rc',e⟩:=q.shape
 obtain⟨rfl,rfl,rfl⟩:ro=ro'∧rl=vs.length∧rc=rc':=by simpa using e
 refine wp_run hgd ho hs hx (Mz.run_app1 q hv _ had) fun v' w' h=>?_
 obtain⟨ao,cp,rfl,q'⟩:=h
 exact K w' ao cp q'
variable{Kk:Act→World→Prop} {Ee:Prop}
theorem Mz.as (q:Mz wt w rb tb cap t i k g s W j kj aj L ((nodeC ki po n m na (.slice ko kl kc)).toList::T) (.slice ro rl rc) vs) (ad:Nat) (hv:vs.length≤19000) (K:∀w' ao cp,Mz wt w rb tb cap t i k g s w' j kj aj L T (.slice ao (rl+1) cp) (vs++[(nodeC ki po n m na (.slice ko kl kc)).toList])→Kk (act.put p.dst (.slice ao (rl+1) cp)) w') (hgd:p.guard=none:=by rfl) (ho:p.op=.call {callee:=.builtin .append,args:=#[sv,xo],argTypes:=#[22,22]}:=by rfl) (hs:act.eval sv=.slice ro rl rc:=by rfl) (hx:act.eval xo=sl ad 1:=by rfl) (had:ad=W.heap.size:=by simp):if Region.wanted p (yielded ops act.tmps)=true then Oper.wp Tryz.prog p act (W.alloc (.cells (nodeC ki po n m na (.slice ko kl kc)) 28)) Kk S else Ee:=
 by
 obtain⟨ro',rc',e⟩:=q.shape
 obtain⟨rfl,rfl,rfl⟩:ro=ro'∧rl=vs.length∧rc=rc':=by simpa using e
 refine step_run hgd ho hs hx (Mz.run_app1 q hv _ had) fun v' w' h=>?_
 obtain⟨ao,cp,rfl,q'⟩:=h
 exact K w' ao cp q'
theorem Mz.rt {fn:Func} {r:Nat} (q:Mz wt w rb tb cap t i k g s W j kj aj L ((nodeC ki po n m na (.slice ko kl kc)).toList::T) kv vs) (hf:fn.results=#[.cell r 28]) (N:Nat) {wf:World} {b:Nat} (he:wf=set11 W b (.int .i64 ki) (.int .i64 po) (.int .i64 n) (.int .i64 m) (.string na) (.slice ko kl kc) (.int .i64 0) (.int .i64 0) nl nl nl:=by rfl) (hd:act.defers=[]:=by rfl) (ht:act.tmps.getD r undef=.pointer (some ⟨b,0,none⟩):=by rfl) (hz:L[N]? =some (b,zeroC):=by rfl) (hd':s+8≤0:=by omega) (hC:kj=0→noK (labOf (nodeC ki po n m na (.slice ko kl kc)).toList):=by exact fun _=>noK_lab (by unfold noK;decide)):bodyPost Tryz.prog fn (NodeZ wt w rb tb cap t i k g 8 noK) .ret act wf:=Mz.retb hf hd ht q N hz hC hd' he
end
end Go.Proofs.YtagdihffmjopaaaGreatDoor
namespace Go.Proofs.YtagdihffmjopaaaGreatDoor
set_option linter.all false
structure Kd where
 k:Int
 l:Nat
 t:List (List UInt8)
def kd (ks:List Kd) (i:Nat):Kd:=(ks[i]?).getD ⟨0,0,[]⟩
def pAll (ks:List Kd):List (List UInt8):=(ks.map (·.t)).flatten
def pMore (s:List UInt8) (ks:List Kd):List (List UInt8):=(ks.map (fun k=>s::k.t)).flatten
def pSep (s:List UInt8):List Kd→List (List UInt8)
 |[]=>[]
 |k::r=>k.t++pMore s r
def pRow (a b:List UInt8) (ks:List Kd):List (List UInt8):=a::(pSep [44] ks++[b])
def pAng (ks:List Kd):List (List UInt8):=if ks.length=0 then [] else pRow [60] [62] ks
def pRnd (ks:List Kd):List (List UInt8):=if ks.length=0 then [] else pRow [40] [41] ks
def pWhen (b:Bool) (l:List (List UInt8)):List (List UInt8):=if b then l else []
def simpleK (x:Int):Bool:=x==20||x==21||x==22||x==23||x==24||x==25||x==44
def pOp (k:Kd):List (List UInt8):=if simpleK k.k then k.t else [40]::(k.t++[[41]])
def pRes (k:Kd):List (List UInt8):=if k.k=15∧k.l=0 then [] else [45,62]::k.t
def pFn (n:Int):List (List UInt8):=pWhen (n==1) [[109,117,116]]++pWhen (n==2) [[111,110,99,101]]
def pNm (s:List UInt8):List (List UInt8):=pWhen (s.length !=0) [s]
def pTys (ks:List Kd):List (List UInt8):=pWhen (ks.length !=0) [[58,58]]++pAng ks
def pBool (n:Int):List (List UInt8):=if n=1 then [[116,114,117,101]] else [[102,97,108,115,101]]
def pTwo (s:List UInt8) (ks:List Kd):List (List UInt8):=pOp (kd ks 0)++(s::pOp (kd ks 1))
def pBlk (n:Int):List Kd→List (List UInt8)
 |[]=>[]
 |k::r=>k.t++(pWhen (n==0||r.length !=0) [[59]]++pBlk n r)
def pth (s:List UInt8):List UInt8:=Lib.replaceAll s [58,58] [32,58,58,32]
def asm (kind n m:Int) (s:List UInt8) (ks:List Kd):List (List UInt8):=
 match kind.toNat with
 |0=>pAll ks
 |1=>[109,111,100]::s::[123]::(pAll ks++[[125]])
 |2=>[[117,115,101],pth s,[59]]
 |3=>pWhen (m%2==1) [[112,117,98]]++pWhen (decide (2≤m)) [[99,111,112,121]]++(if n=0 then [115,116,114,117,99,116]::s::pAll ks else [101,110,117,109]::s::((kd ks 0).t++pRow [123] [125] (ks.drop 1)))
 |4=>if s.length=0 then pRow [123] [125] ks else s::pRnd ks
 |5=>pWhen (m==1) [[112,117,98]]++(pWhen (s.length !=0) [s,[58]]++pAll ks)
 |6=>pWhen (m==1) [[112,117,98]]++([116,114,97,105,116]::s::[123]::((ks.map (fun k=>k.t++[[59]])).flatten++[[125]]))
 |7=>[105,109,112,108]::((kd ks 0).t++(pth s::[102,111,114]::((kd ks 1).t++([123]::(pAll (ks.drop 2)++[[125]])))))
 |8=>pWhen (m==1) [[112,117,98]]++([102,110]::s::((kd ks 0).t++(pRow [40] [41] ((ks.drop 1).take n.toNat)++(pRes (kd ks (1+n.toNat))++pAll (ks.drop (2+n.toNat))))))
 |9=>pAng ks
 |10=>s::(pWhen (ks.length !=0) [[58]]++pSep [43] ks)
 |11=>s::(pWhen (ks.length !=0) [[58]]++pSep [43] ks)
 |12=>pWhen (m==1) [[109,117,116]]++(pWhen (s.length !=0) [s,[58]]++pAll ks)
 |13=>[[105,110,116]]
 |14=>[[98,111,111,108]]
 |15=>pRow [40] [41] ks
 |16=>[38]::(pNm s++(pWhen (n==1) [[109,117,116]]++pAll ks))
 |17=>[102,110]::(pNm s++(pFn n++(pRow [40] [41] (ks.take (ks.length - 1))++([45,62]::(kd ks (ks.length - 1)).t))))
 |18=>pth s::pAng ks
 |19=>[s]
 |20=>[Lib.itoa n]
 |21=>pBool n
 |22=>pRow [40] [41] ks
 |23=>pth s::pTys ks
 |24=>pOp (kd ks 0)++pRow [40] [41] (ks.drop 1)
 |25=>pOp (kd ks 0)++[[46],if s.length=0 then Lib.itoa n else s]
 |26=>[42]::pOp (kd ks 0)
 |27=>[38]::(pWhen (n==1) [[109,117,116]]++pOp (kd ks 0))
 |28=>s::pOp (kd ks 0)
 |29=>pTwo s ks
 |30=>pTwo [38,38] ks
 |31=>pTwo [124,124] ks
 |32=>pTwo [61] ks
 |33=>[105,102]::(pOp (kd ks 0)++((kd ks 1).t++(pWhen (decide (2<ks.length)) [[101,108,115,101]]++pAll (ks.drop 2))))
 |34=>[109,97,116,99,104]::(pOp (kd ks 0)++pRow [123] [125] (ks.drop 1))
 |35=>pSep [61,62] ks
 |36=>[119,104,105,108,101]::(pOp (kd ks 0)++(kd ks 1).t)
 |37=>[108,111,111,112]::pAll ks
 |38=>[[98,114,101,97,107]]
 |39=>[[110,101,120,116]]
 |40=>[114,101,116,117,114,110]::pAll ks
 |41=>[[112,97,110,105,99]]
 |42=>[123]::(pBlk n ks++[[125]])
 |43=>[108,101,116]::(pWhen (m==1) [[109,117,116]]++(s::(pWhen (n%2==1) ([58]::(kd ks 0).t)++pWhen (decide (2≤n)) ([61]::(kd ks (n%2).toNat).t))))
 |44=>[109,97,107,101]::pth s::(pTys (ks.take m.toNat)++pRow [123] [125] (ks.drop m.toNat))
 |45=>s::[58]::pAll ks
 |46=>[102,110]::(pFn n++(pRow [91] [93] (ks.take m.toNat)++(pRow [40] [41] ((ks.take (ks.length - 2)).drop m.toNat)++(pRes (kd ks (ks.length - 2))++(kd ks (ks.length - 1)).t))))
 |47=>pWhen (decide (0<n)) [[38]]++(pWhen (n==2) [[109,117,116]]++[s])
 |48=>[115,112,97,119,110]::(pRow [91] [93] (ks.take m.toNat)++(pRes (kd ks m.toNat)++(kd ks (m.toNat+1)).t))
 |49=>[[95]]
 |50=>pWhen (decide (0<n)) [[114,101,102]]++(pWhen (n==2||m==1) [[109,117,116]]++[s])
 |51=>pWhen (decide (n<0)) [[45]]++[Lib.trimPrefix (Lib.itoa n) [45]]
 |52=>pBool n
 |53=>pRow [40] [41] ks
 |54=>pth s::pRnd ks
 |_=>[]
def kindOf:List Value→Int
 |.int _ k::_=>k
 |_=> -1
def tok:Nat→World→List Value→List (List UInt8)
 |0,_,_=>[]
 |f+1,w,cs=>match cs with
  |.int _ k::_::.int _ n::.int _ m::.string s::kv::_=>asm k n m s.data.toList ((kidsAt w kv).map (fun c=>⟨kindOf c,lenOf (c.getD 5 undef),tok f w c⟩))
  |_=>[]
def kdAt (f:Nat) (w:World) (c:List Value):Kd:=⟨kindOf c,lenOf (c.getD 5 undef),tok f w c⟩
theorem tok_eq {S:Nat→Prop} {g:Prop} {h f base:Nat} {w:World} {kind pos n m:Int} {name:ByteArray} {kv:Value} {vs:List (List Value)} (h4:w.ownsRow base 28 11 kv vs.length vs.flatten) (h6:∀x∈vs,isNode S g h w x):tok (f+1) w (nodeC kind pos n m name kv).toList=asm kind n m name.data.toList (vs.map (kdAt f w)):=by
 have e:=kidsAt_owns h4 (fun x hx=>(isNode.ones _ _ (h6 x hx)).1)
 show asm kind n m name.data.toList ((kidsAt w kv).map (kdAt f w))=_
 rw[e]
def glue (ts:List (List UInt8)):List UInt8:=(ts.map (fun t=>32::t)).flatten
theorem glue_append (a b:List (List UInt8)):glue (a++b)=glue a++glue b:=by simp[glue]
theorem glue_cons (a:List UInt8) (b:List (List UInt8)):glue (a::b)=32::a++glue b:=rfl
theorem glue_nil:glue []=[]:=rfl
end Go.Proofs.YtagdihffmjopaaaGreatDoor
namespace Go.Proofs.YtagdihffmjopaaaGreatDoor
set_option linter.all false
open Go.RowKit
structure App (W:World) (base el size:Nat) (v:Value) (n:Nat) (xs ys:List Value) (k:Nat) (v':Value) (w':World):Prop where
 shape:∃ao cp,v'=.slice ao (n+k) cp
 row:w'.ownsRow base el size v' (n+k) (xs++ys)
 grown:W.grownBy w' v.ownBlock
 own:v'.ownBlock=v.ownBlock∨v'.ownBlock=some W.heap.size
section
variable{W w w':World} {base el size n k:Nat} {v v':Value} {xs ys:List Value}
end
section
variable{sl el size bytes:Nat} {z:Value}
theorem app1 (hu:Tryz.prog.underlying sl=some (.slice el)) (hi:(Tryz.prog.info? el).map (fun i=>(i.zero,i.size,i.bytes))=some (some z,size,bytes)) (hz:z.cells.size=size) (hs:0<size) {W:World} {base:Nat} {v:Value} {n:Nat} {xs:List Value} (h:W.ownsRow base el size v n xs) (hb:base≤W.heap.size) (cs:Array Value) (hc:cs.size=size) (one:∀u∈cs.toList,u.oneCell'=true) (hm:n+1≤maxLen) (hn:(n+1)*bytes≤140737488355328) (ty:TypeId) {ad:Nat} (had:ad=W.heap.size):
 ∃v' w',(Builtin.append_ #[sl,sl] ty #[v,.slice (some ⟨ad,0,none⟩) 1 1]).run Tryz.prog (W.alloc (.cells cs el))=.ok v' w'∧App (W.alloc (.cells cs el)) base el size v n xs cs.toList 1 v' w':=by
 subst had
 obtain⟨i0,hi0,hz0,hz1,hz2⟩:=info_parts hi
 have h':(W.alloc (.cells cs el)).ownsRow base el size v n xs:=ownsRow_same h (fun b _ hl=>Below.heap_alloc _ _ _ hl)
 have hcell:∀j u,cs.toList[j]? =some u→(W.alloc (.cells cs el)).cell? ((⟨W.heap.size,0,none⟩:Addr).add j)=some u:=by
  intro j u hj
  have hadd:(⟨W.heap.size,0,none⟩:Addr).add j=⟨W.heap.size,j,none⟩:=by unfold Addr.add;split<;>simp_all
  rw[hadd,cell_of_row _ W.heap.size j cs el (0,0) (heap_alloc_new W _)]
  simpa using hj
 obtain⟨v',w',hr,h2,h3,_,h5⟩:=run_append_own_at (P:=Tryz.prog) (W.alloc (.cells cs el)) base sl ty el i0 z size bytes hu hi0 hz0 hz1 hz2 hz hs v n xs h' ⟨W.heap.size,0,none⟩ 1 1 cs.toList (by simp[hc]) hcell one hm hn (by simp;omega)
 refine⟨v',w',hr,⟨?_,h2,h3,h5⟩⟩
 rcases h2.2 with⟨x1,x2⟩|⟨x,y,zz,x1,_⟩
 ·omega
 ·exact⟨_,_,x1⟩
theorem appN (hu:Tryz.prog.underlying sl=some (.slice el)) (hi:(Tryz.prog.info? el).map (fun i=>(i.zero,i.size,i.bytes))=some (some z,size,bytes)) (hz:z.cells.size=size) (hs:0<size) {W:World} {base:Nat} {v:Value} {n:Nat} {xs:List Value} (h:W.ownsRow base el size v n xs) (hb:base≤W.heap.size) {base':Nat} {x:Value} {m:Nat} {ys:List Value} (hx:W.ownsRow base' el size x m ys) (one:∀u∈ys,u.oneCell'=true) (hm:n+m≤maxLen) (hn:(n+m)*bytes≤140737488355328) (ty:TypeId):
 ∃v' w',(Builtin.append_ #[sl,sl] ty #[v,x]).run Tryz.prog W=.ok v' w'∧App W base el size v n xs ys m v' w':=by
 obtain⟨i0,hi0,hz0,hz1,hz2⟩:=info_parts hi
 rcases hx.2 with⟨h1,h2⟩|⟨g,cap,cur,h1,hbb,hg,hnc,hcm,hcs,htake⟩
 ·subst h1 h2
  have hy:ys=[]:=by have:=hx.1;rw[Nat.zero_mul] at this;exact List.eq_nil_of_length_eq_zero this
  subst hy
  refine⟨v,W,run_append_owned_none (P:=Tryz.prog) (w:=W) base sl ty el i0 size hu hi0 v n xs h,⟨?_,by simpa using h,⟨rfl,rfl,rfl,Nat.le_refl _,fun _ _ _=>rfl⟩,.inl rfl⟩⟩
  rcases h.2 with⟨x1,x2⟩|⟨x,y,zz,x1,_⟩
  ·exact⟨none,0,by rw[x1,x2]⟩
  ·exact⟨_,_,x1⟩
 ·subst h1
  obtain⟨v',w',hr,h2,h3,_,h5⟩:=run_append_own_at (P:=Tryz.prog) W base sl ty el i0 z size bytes hu hi0 hz0 hz1 hz2 hz hs v n xs h ⟨g,0,none⟩ m cap ys hx.1 (hx.cells rfl) one hm hn hb
  refine⟨v',w',hr,⟨?_,h2,h3,h5⟩⟩
  rcases h2.2 with⟨x1,x2⟩|⟨x,y,zz,x1,_⟩
  ·exact⟨none,0,by rw[x1,x2]⟩
  ·exact⟨_,_,x1⟩
theorem wp_runG {W:World} {ops:Array Oper} {rest:List Oper} {o:Oper} {a:Act} {Q:Exit→Act→World→Prop} (sl:Nat) (hgd:o.guard=none) {s x:Operand} (ho:o.op=.call {callee:=.builtin .append,args:=#[s,x],argTypes:=#[sl,sl]}) {v xv:Value} (hs:a.eval s=v) (hx:a.eval x=xv) {R:Value→World→Prop}
 (hr:∃v' w',(Builtin.append_ #[sl,sl] o.type #[v,xv]).run Tryz.prog W=.ok v' w'∧R v' w') (h:∀v' w',R v' w'→wpList Tryz.prog ops Q rest (a.put o.dst v') w'):wpList Tryz.prog ops Q (o::rest) a W:=by
 refine wpList_plain hgd fun K hK=>?_
 obtain⟨v',w',hr,h2⟩:=hr
 unfold Oper.wp execOp
 simp only[ho,resolve,invoke,builtin,Sem.run_bind,Sem.run_pure,Result.andThen_ok,List.map_toArray,List.map_cons,List.map_nil,hs,hx,hr]
 exact hK _ _ (h v' w' h2)
end
theorem infS:(Tryz.prog.info? 9).map (fun i=>(i.zero,i.size,i.bytes))=some (some (.string ⟨#[]⟩),1,16):=by kernel_rfl
end Go.Proofs.YtagdihffmjopaaaGreatDoor
