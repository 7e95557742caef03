import Derived.Test.YtcnnibahjmekdaaGreatS02
namespace Go.Proofs.YtcnnibahjmekdaaGreat
open Go.RowKit
open Value renaming slice→J
open List renaming length→O
open Option renaming none→I
open World renaming heap→U
open _root_.Array renaming size→E
open Obj renaming cells→Ob
set_option linter.all false
set_option maxRecDepth 100000
set_option maxHeartbeats 0
theorem wP {k:Nat} (F:fj 88 18 k) (ad:fj 113 3 k):gz 106 8 (k+1):=by
 intro w G H K c t az h u;obtain⟨l,v⟩:∃l:Int,l=0:=⟨_,Q⟩;rw[<-v] at h u⊢;have ae:Hid (l=0):=v;clear v;have aA:=h.l;have L:Hid (Bd (k+1) t c l 8):=u;clear u;have af:Hid (∀m o n,(o=0->c<m)->n<64->Bd k t m o n):=L.out.dA ae.out h.lt;have M:(0:Int)<=(t.pos c:Int)/\(t.pos c:Int)<=7000:=oH (h.ar.aO c);go_enter Tryz.func106,Tryz.ntmps106
 have a:=Mz.start (wt:=1) h;go_wp2_with fail;refine(a.ne' (sz w) (aB)).lf (aE · 34) ?_;clear a;intro x a;have b:=a.f1;go_wp2_with fail;refine(a.ne' (sz x) (nk 34 (t.pos c) nl)).wn (aH · _) ?_;clear a b;intro aC aD aF aG _ a;have b:=a.f2;go_wp2_with fail;refine a.nd (F · (a.bd af.out dC)) ?_;clear a b;intro y ag aI aJ aK aL _ a;have b:=a.f2;go_wp2_with fail;refine((a.ek (sl (sz y) 1)).m1 (sz y)).wn (aH · _) ?_;clear a b;intro aM N P ah _ a;have b:=a.f2;go_wp2_with fail;go_loopg [4,5] (ml t N P) (λg _ _ wr=>∃(z:Value) (e:List (List Value)) (d:Nat) (j R:Int),g=ml t d j/\ez 4 e d j/\Mz 1 w G H K t c l True (-40) wr d j R [(sz x,nk 34 (t.pos c) z),(sz w,aB)] [] z e)
 case atStart=>exact⟨(sl (sz y) 1),[ag.t],N,P,ah,Q,⟨λ_=>by simp,sQ⟩,(a.less oM)⟩
 case round=>
  clear b a;obtain⟨z,e,d,j,R,S,hF,a⟩:=hrel;have q:=a.st.rd.lt;have aN:(0:Int)<=(t.pos d:Int)/\(t.pos d:Int)<=7000:=oH (h.ar.aO d);have T:Hid (gk=ml t d j):=S;clear S;obtain⟨V,W,rfl⟩:=a.shape;have b:=a.f2
  cases ai:(j==0)
  ·go_wp2_with fail;refine a.lf aV ?_;clear a b;intro aO a;have b:=a.f2;go_wp2_with fail;go_light;exact(a.fk 34 (t.pos c) (lT hF.2 dC) M).rt Tryz.results106 1
  ·obtain rfl:j=0:=sU ai;have f:Hid (c<=d/\l=0/\c<d):=⟨a.le,a.ok Q,a.go trivial Q⟩;have X:Hid (∀m o n,d<=m->n<64->Bd k t m o n):=λm o n aj ak=>L.out.dA f.out.2.1 h.lt _ _ _ (λ_=>Nat.lt_of_lt_of_le f.out.2.2 aj) ak;have al:O e<=6005:=oI (hF.1 Q) h.ar.bB;replace a:=a.bU;go_wp2_with fail;refine a.lf aV ?_;clear a b;intro aP a;have b:=a.f2;go_wp2_with fail;refine a.et (aR · _) ?_;clear a b;intro aQ aS i aT a;have b:=a.f2;go_wp2_with fail
   ·go_wp2_with fail;refine a.lf (aE · 35) ?_;clear a b;intro Y a;have b:=a.f2;have ao:(0:Int)<=((t.pos i):Int)/\((t.pos i):Int)<=7000:=oH (h.ar.aO i);go_wp2_with fail;replace a:=a.ne' (sz Y) (nk 35 (t.pos i) nl);refine a.nd (ad · (X.out _ _ _ a.le dC)) ?_;clear a b;intro Z aa aU aX aY aZ _ a;have b:=a.f3;go_wp2_with fail;refine(a.ne' (sz Z) aa.a).wn (aH · _) ?_;clear a b;intro a0 a1 a2 a3 _ a;have b:=a.f4;go_upto_region 9 with fail
    go_cut [] (λap=>∃(p:Nat) (r:Nat) (s A:Int),Mz 1 w G H K t d 0 True (16*((d:Int) - (c:Int))+(-71)) ap r s A [(sz Z,aa.a),(sz Y,nk 35 (t.pos i) (sl p 2)),(sz x,nk 34 (t.pos c) (J V (O e) W)),(sz w,aB)] [(nk 35 (t.pos i) (sl p 2)).toList] (J V (O e) W) e)
    case first=>
     go_wp2_with fail;go_region_law (replace a:=a.drew;go_simp;refine a.nd (F · (X.out _ _ _ a.le dC)) ?_;clear a b;intro B a4 aq ar au a5 _ a;have b:=a.f4)
     all_goals
      go_wp2_with fail;go_meet;exact⟨(sz B),aq,ar,au,((((a.swap).iW (sl (sz B) 2)).l2 (sz B) 35 (t.pos i) 0 0 ⟨#[]⟩ ao).less oM)⟩
    case rest=>
     clear b a;obtain⟨p,r,s,A,a⟩:=hcut;obtain⟨av,aw⟩:∃ax,ax=wc:=⟨_,Q⟩;subst aw;have b:=a.f4;go_wp2_with (at_builtin;refine a.ap (sz av) (lT al dC) ?_;clear a b;intro a6 C D a;have b:=a.f4)
     go_wp2_with fail;refine(a.rU (J C (O e+1) D)).lf (aW · 0 dC _) ?_;clear a b;intro a7 a;have b:=a.f4;go_wp2_with fail
     ·go_wp2_with fail;refine a.wn (aH · _) ?_;clear a b;intro a8 ab ac ay _ a;have b:=a.f4;go_wp2_with fail;replace a:=a.pop.pop;go_roundg (ml t ab ac)
      case measure=>rw[T.out];exact bO q a.le (a.go trivial)
      case rel=>exact⟨(J C (O e+1) D),(e++[(nk 35 (t.pos i) (sl p 2)).toList]),ab,ac,ay,Q,ez.snoc (t:=t) hF Q q h.ar (a.go trivial),a.aD (s':= -40) (g':=True) f.out.1 (λ_=>f.out.2.1) (λ_ _=>f.out.2.2) oM⟩
     ·go_wp2_with fail;replace a:=a.pop.pop;go_roundg (ml t r s)
      case measure=>rw[T.out];exact bO q a.le (a.go trivial)
      case rel=>exact⟨(J C (O e+1) D),(e++[(nk 35 (t.pos i) (sl p 2)).toList]),r,s,A,Q,ez.snoc (t:=t) hF Q q h.ar (a.go trivial),a.aD (s':= -40) (g':=True) f.out.1 (λ_=>f.out.2.1) (λ_ _=>f.out.2.2) oM⟩
   ·go_wp2_with fail;go_light;exact((a.fk 34 (t.pos c) (lT hF.2 dC) M).aD (s':= -39) (g':=True) f.out.1 (λ_=>f.out.2.1) (λ_ _=>f.out.2.2) oM).rt Tryz.results106 1
theorem uL {e:Nat} (F:qO 3 e) (G:nu 3 e) (ad:mK 3 96 True 8 λx=>x=19) {w:World} {rb f j i:Nat} {t:Tk} {k a:Int} (h:Rd w rb f j t i k a) (m:Bd (e+1) t i k 3) (H:bW t i k 0 ⟨#[105,110,116]⟩=false) (K:bW t i k 0 ⟨#[98,111,111,108]⟩=false) (L:bW t i k 0 ⟨#[40]⟩=false) (af:bW t i k 0 ⟨#[38]⟩=false) (ag:bW t i k 0 ⟨#[38,38]⟩=false) (n:bW t i k 0 ⟨#[102,110]⟩=true) (ah:cq t (i+1) k 0 4=false):Calls Tryz.prog 81 #[.pointer (some ⟨rb,0,I⟩)] w (aY 3 w rb f j t i k True 8 cH):=by
 have ai:=h.l;have M:Hid (Bd (e+1) t i k 3):=m;clear m;have N:(0:Int)<=(t.pos i:Int)/\(t.pos i:Int)<=7000:=oH (h.ar.aO i);go_enter Tryz.func81,Tryz.ntmps81
 have aj:=dK;have ak:(i:Int)<(t.len:Int):=oH h.lt;have al:(t.len:Int)<=6001:=oH h.ar.bB;have b:=Mz.start (wt:=3) h;go_wp2_with fail;refine(b.ne' (sz w) (aB)).lf (aE · 0) ?_;clear b;intro o b;have c:=b.f1;go_wp2_with fail;refine(b.ne' (sz o) (nk 0 (t.pos i) nl)).lf (bu · _ H) ?_;clear b c;intro ao b;have c:=b.f2;go_wp2_with fail;refine b.lf (bu · _ K) ?_;clear b c;intro ap b;have c:=b.f2;go_wp2_with fail;refine b.lf (bu · _ L) ?_;clear b c;intro aq b;have c:=b.f2;go_wp2_with fail;refine b.lf (aW · 0 dC _) ?_;clear b c;intro ar b;have c:=b.f2;go_wp2_with fail;refine b.lf (aW · 0 dC _) ?_;clear b c;intro au b;have c:=b.f2;go_wp2_with fail;refine b.ey (eP · _ n) ?_;clear b c;intro av b;have c:=b.f2;go_wp2_with fail;refine(b.fE 17).lf (bH · 0 dC 4) ?_;clear b c;intro aw b;have c:=b.f2;have p:Hid (∀q r s,(r=0->i<q)->s<64->Bd e t q r s):=M.out.dA (dI h.ar h.lt n).1 h.lt;go_wp2_with fail;refine b.et (aR · _) ?_;clear b c;intro ax ay P az b;have c:=b.f2;go_upto_if 47 with fail
 go_cut [] (λR=>∃(l:Int) (u:Nat) (v y:Int),Mz 3 w rb f j t i k True (-16) R u v y [(sz o,ae 17 (t.pos i) l 0 ⟨#[]⟩ nl),(sz w,aB)] [] nl [])
 case first=>
  go_wp2_with fail
  ·go_wp2_with fail;go_meet;exact⟨1,P,k,a,((b.jW 1).less oM)⟩
  ·go_wp2_with fail;refine b.et (aR · _) ?_;clear b c;intro aA aC z aD b;have c:=b.f2;go_wp2_with fail
   ·go_wp2_with fail;go_meet;exact⟨2,z,k,a,((b.jW 2).less oM)⟩
   ·go_wp2_with fail;go_meet;exact⟨0,z,k,a,(b.less oM)⟩
 case rest=>
  clear c b;obtain⟨l,u,v,y,b⟩:=hcut;obtain⟨aF,S⟩:∃x,x=wc:=⟨_,Q⟩;subst S;have c:=b.f2;go_wp2_with fail;refine b.wn (aH · _) ?_;clear b c;intro aG aI aJ aK aL b;have c:=b.f2;go_wp2_with fail;refine b.li (F · (b.bd p.out dC) _) ?_;clear b c;intro aN T V A aO aP aQ B W aS b;have c:=b.f2;go_wp2_with fail;refine(b.ek (J T (O A) V)).wn (aH · _) ?_;clear b c;intro aT aU aV aX X b;have c:=b.f2;go_wp2_with fail;go_region_law (first|(refine b.as (sz Y) (lT B dC) ?_;clear b c;intro aZ Z aa b;have c:=b.f2)|(replace b:=b.drew;go_simp;refine b.nd (G · (b.bd p.out dC)) ?_;clear b c;intro Y a0 a1 a2 a3 ab ac b;have c:=b.f2))
  all_goals
   go_wp2_with fail;go_light;exact Mz.cC (C:=cH) (d:=8) Tryz.results81 Q Q ((b.ek (J Z (O A+1) aa)).fo 17 (t.pos i) l 0 ⟨#[]⟩ (by have:=B;simp;omega) N dC (λD=>Gr.tD ⟨sQ,by rw[List.map_append];exact aM (W (X.out (ac.out D))) (ab D)⟩)) 1 Q (λ_=>⟨by show(13:Int)<=17;decide,by show(17:Int)<=18;decide⟩) oM Q
end Go.Proofs.YtcnnibahjmekdaaGreat
