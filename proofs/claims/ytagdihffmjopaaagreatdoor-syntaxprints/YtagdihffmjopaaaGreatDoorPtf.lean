/- The document's writer: what is handed on. -/
import Derived.Test.YtagdihffmjopaaaGreatDoorPtc
namespace Go.Proofs.YtagdihffmjopaaaGreatDoor
set_option linter.all false
open Go.RowKit
section
variable{B:Nat} {w0 w:World} {wb f:Nat} {bs:List UInt8} {kind pos n m:Int} {name:ByteArray} {ko:Option Addr} {kl kc:Nat}
set_option maxRecDepth 100000 in
set_option maxHeartbeats 2000000 in
theorem f101_33 {T:List (List UInt8)} (HP:Wc B w0 wb 117 (nodeC 33 pos n m name (.slice ko kl kc)) T):Wc B w0 wb 101 (nodeC 33 pos n m name (.slice ko kl kc)) T:=by
 intro w bs h hne hf
 have q:=((Sw.start h hne hf).as (rest':=T++[]) (by simp)).box (nodeC 33 pos n m name (.slice ko kl kc))
 have H:Hid (Wc B w0 wb 117 (nodeC 33 pos n m name (.slice ko kl kc)) T):=HP
 clear h hne hf HP
 have F:=q.f1
 go_enter Tryz.func101,Tryz.ntmps101
 go_wp2_with (go_at_call 117;refine q.go (fun a1 a2 a3=>H.out a1 a2 a3) ?_;clear q F;intro w2 q;have F:=q.f1)
 go_end0
 exact q.done (by simp)
set_option maxRecDepth 100000 in
set_option maxHeartbeats 2000000 in
theorem f101_34 {T:List (List UInt8)} (HP:Wc B w0 wb 117 (nodeC 34 pos n m name (.slice ko kl kc)) T):Wc B w0 wb 101 (nodeC 34 pos n m name (.slice ko kl kc)) T:=by
 intro w bs h hne hf
 have q:=((Sw.start h hne hf).as (rest':=T++[]) (by simp)).box (nodeC 34 pos n m name (.slice ko kl kc))
 have H:Hid (Wc B w0 wb 117 (nodeC 34 pos n m name (.slice ko kl kc)) T):=HP
 clear h hne hf HP
 have F:=q.f1
 go_enter Tryz.func101,Tryz.ntmps101
 go_wp2_with (go_at_call 117;refine q.go (fun a1 a2 a3=>H.out a1 a2 a3) ?_;clear q F;intro w2 q;have F:=q.f1)
 go_end0
 exact q.done (by simp)
set_option maxRecDepth 100000 in
set_option maxHeartbeats 2000000 in
theorem f101_36 {T:List (List UInt8)} (HP:Wc B w0 wb 117 (nodeC 36 pos n m name (.slice ko kl kc)) T):Wc B w0 wb 101 (nodeC 36 pos n m name (.slice ko kl kc)) T:=by
 intro w bs h hne hf
 have q:=((Sw.start h hne hf).as (rest':=T++[]) (by simp)).box (nodeC 36 pos n m name (.slice ko kl kc))
 have H:Hid (Wc B w0 wb 117 (nodeC 36 pos n m name (.slice ko kl kc)) T):=HP
 clear h hne hf HP
 have F:=q.f1
 go_enter Tryz.func101,Tryz.ntmps101
 go_wp2_with (go_at_call 117;refine q.go (fun a1 a2 a3=>H.out a1 a2 a3) ?_;clear q F;intro w2 q;have F:=q.f1)
 go_end0
 exact q.done (by simp)
set_option maxRecDepth 100000 in
set_option maxHeartbeats 2000000 in
theorem f101_37 {T:List (List UInt8)} (HP:Wc B w0 wb 117 (nodeC 37 pos n m name (.slice ko kl kc)) T):Wc B w0 wb 101 (nodeC 37 pos n m name (.slice ko kl kc)) T:=by
 intro w bs h hne hf
 have q:=((Sw.start h hne hf).as (rest':=T++[]) (by simp)).box (nodeC 37 pos n m name (.slice ko kl kc))
 have H:Hid (Wc B w0 wb 117 (nodeC 37 pos n m name (.slice ko kl kc)) T):=HP
 clear h hne hf HP
 have F:=q.f1
 go_enter Tryz.func101,Tryz.ntmps101
 go_wp2_with (go_at_call 117;refine q.go (fun a1 a2 a3=>H.out a1 a2 a3) ?_;clear q F;intro w2 q;have F:=q.f1)
 go_end0
 exact q.done (by simp)
set_option maxRecDepth 100000 in
set_option maxHeartbeats 2000000 in
theorem f101_38 {T:List (List UInt8)} (HP:Wc B w0 wb 117 (nodeC 38 pos n m name (.slice ko kl kc)) T):Wc B w0 wb 101 (nodeC 38 pos n m name (.slice ko kl kc)) T:=by
 intro w bs h hne hf
 have q:=((Sw.start h hne hf).as (rest':=T++[]) (by simp)).box (nodeC 38 pos n m name (.slice ko kl kc))
 have H:Hid (Wc B w0 wb 117 (nodeC 38 pos n m name (.slice ko kl kc)) T):=HP
 clear h hne hf HP
 have F:=q.f1
 go_enter Tryz.func101,Tryz.ntmps101
 go_wp2_with (go_at_call 117;refine q.go (fun a1 a2 a3=>H.out a1 a2 a3) ?_;clear q F;intro w2 q;have F:=q.f1)
 go_end0
 exact q.done (by simp)
set_option maxRecDepth 100000 in
set_option maxHeartbeats 2000000 in
theorem f101_39 {T:List (List UInt8)} (HP:Wc B w0 wb 117 (nodeC 39 pos n m name (.slice ko kl kc)) T):Wc B w0 wb 101 (nodeC 39 pos n m name (.slice ko kl kc)) T:=by
 intro w bs h hne hf
 have q:=((Sw.start h hne hf).as (rest':=T++[]) (by simp)).box (nodeC 39 pos n m name (.slice ko kl kc))
 have H:Hid (Wc B w0 wb 117 (nodeC 39 pos n m name (.slice ko kl kc)) T):=HP
 clear h hne hf HP
 have F:=q.f1
 go_enter Tryz.func101,Tryz.ntmps101
 go_wp2_with (go_at_call 117;refine q.go (fun a1 a2 a3=>H.out a1 a2 a3) ?_;clear q F;intro w2 q;have F:=q.f1)
 go_end0
 exact q.done (by simp)
set_option maxRecDepth 100000 in
set_option maxHeartbeats 2000000 in
theorem f101_40 {T:List (List UInt8)} (HP:Wc B w0 wb 117 (nodeC 40 pos n m name (.slice ko kl kc)) T):Wc B w0 wb 101 (nodeC 40 pos n m name (.slice ko kl kc)) T:=by
 intro w bs h hne hf
 have q:=((Sw.start h hne hf).as (rest':=T++[]) (by simp)).box (nodeC 40 pos n m name (.slice ko kl kc))
 have H:Hid (Wc B w0 wb 117 (nodeC 40 pos n m name (.slice ko kl kc)) T):=HP
 clear h hne hf HP
 have F:=q.f1
 go_enter Tryz.func101,Tryz.ntmps101
 go_wp2_with (go_at_call 117;refine q.go (fun a1 a2 a3=>H.out a1 a2 a3) ?_;clear q F;intro w2 q;have F:=q.f1)
 go_end0
 exact q.done (by simp)
set_option maxRecDepth 100000 in
set_option maxHeartbeats 2000000 in
theorem f101_41 {T:List (List UInt8)} (HP:Wc B w0 wb 117 (nodeC 41 pos n m name (.slice ko kl kc)) T):Wc B w0 wb 101 (nodeC 41 pos n m name (.slice ko kl kc)) T:=by
 intro w bs h hne hf
 have q:=((Sw.start h hne hf).as (rest':=T++[]) (by simp)).box (nodeC 41 pos n m name (.slice ko kl kc))
 have H:Hid (Wc B w0 wb 117 (nodeC 41 pos n m name (.slice ko kl kc)) T):=HP
 clear h hne hf HP
 have F:=q.f1
 go_enter Tryz.func101,Tryz.ntmps101
 go_wp2_with (go_at_call 117;refine q.go (fun a1 a2 a3=>H.out a1 a2 a3) ?_;clear q F;intro w2 q;have F:=q.f1)
 go_end0
 exact q.done (by simp)
set_option maxRecDepth 100000 in
set_option maxHeartbeats 2000000 in
theorem f101_42 {T:List (List UInt8)} (HP:Wc B w0 wb 117 (nodeC 42 pos n m name (.slice ko kl kc)) T):Wc B w0 wb 101 (nodeC 42 pos n m name (.slice ko kl kc)) T:=by
 intro w bs h hne hf
 have q:=((Sw.start h hne hf).as (rest':=T++[]) (by simp)).box (nodeC 42 pos n m name (.slice ko kl kc))
 have H:Hid (Wc B w0 wb 117 (nodeC 42 pos n m name (.slice ko kl kc)) T):=HP
 clear h hne hf HP
 have F:=q.f1
 go_enter Tryz.func101,Tryz.ntmps101
 go_wp2_with (go_at_call 117;refine q.go (fun a1 a2 a3=>H.out a1 a2 a3) ?_;clear q F;intro w2 q;have F:=q.f1)
 go_end0
 exact q.done (by simp)
set_option maxRecDepth 100000 in
set_option maxHeartbeats 2000000 in
theorem f101_43 {T:List (List UInt8)} (HP:Wc B w0 wb 117 (nodeC 43 pos n m name (.slice ko kl kc)) T):Wc B w0 wb 101 (nodeC 43 pos n m name (.slice ko kl kc)) T:=by
 intro w bs h hne hf
 have q:=((Sw.start h hne hf).as (rest':=T++[]) (by simp)).box (nodeC 43 pos n m name (.slice ko kl kc))
 have H:Hid (Wc B w0 wb 117 (nodeC 43 pos n m name (.slice ko kl kc)) T):=HP
 clear h hne hf HP
 have F:=q.f1
 go_enter Tryz.func101,Tryz.ntmps101
 go_wp2_with (go_at_call 117;refine q.go (fun a1 a2 a3=>H.out a1 a2 a3) ?_;clear q F;intro w2 q;have F:=q.f1)
 go_end0
 exact q.done (by simp)
set_option maxRecDepth 100000 in
set_option maxHeartbeats 2000000 in
theorem f101_46 {T:List (List UInt8)} (HP:Wc B w0 wb 117 (nodeC 46 pos n m name (.slice ko kl kc)) T):Wc B w0 wb 101 (nodeC 46 pos n m name (.slice ko kl kc)) T:=by
 intro w bs h hne hf
 have q:=((Sw.start h hne hf).as (rest':=T++[]) (by simp)).box (nodeC 46 pos n m name (.slice ko kl kc))
 have H:Hid (Wc B w0 wb 117 (nodeC 46 pos n m name (.slice ko kl kc)) T):=HP
 clear h hne hf HP
 have F:=q.f1
 go_enter Tryz.func101,Tryz.ntmps101
 go_wp2_with (go_at_call 117;refine q.go (fun a1 a2 a3=>H.out a1 a2 a3) ?_;clear q F;intro w2 q;have F:=q.f1)
 go_end0
 exact q.done (by simp)
set_option maxRecDepth 100000 in
set_option maxHeartbeats 2000000 in
theorem f101_48 {T:List (List UInt8)} (HP:Wc B w0 wb 117 (nodeC 48 pos n m name (.slice ko kl kc)) T):Wc B w0 wb 101 (nodeC 48 pos n m name (.slice ko kl kc)) T:=by
 intro w bs h hne hf
 have q:=((Sw.start h hne hf).as (rest':=T++[]) (by simp)).box (nodeC 48 pos n m name (.slice ko kl kc))
 have H:Hid (Wc B w0 wb 117 (nodeC 48 pos n m name (.slice ko kl kc)) T):=HP
 clear h hne hf HP
 have F:=q.f1
 go_enter Tryz.func101,Tryz.ntmps101
 go_wp2_with (go_at_call 117;refine q.go (fun a1 a2 a3=>H.out a1 a2 a3) ?_;clear q F;intro w2 q;have F:=q.f1)
 go_end0
 exact q.done (by simp)
set_option maxRecDepth 100000 in
set_option maxHeartbeats 2000000 in
theorem f76_23 {T:List (List UInt8)} (HP:Wc B w0 wb 101 (nodeC 23 pos n m name (.slice ko kl kc)) T):Wc B w0 wb 76 (nodeC 23 pos n m name (.slice ko kl kc)) T:=by
 intro w bs h hne hf
 have q:=((Sw.start h hne hf).as (rest':=T++[]) (by simp)).box (nodeC 23 pos n m name (.slice ko kl kc))
 have H:Hid (Wc B w0 wb 101 (nodeC 23 pos n m name (.slice ko kl kc)) T):=HP
 clear h hne hf HP
 have F:=q.f1
 go_enter Tryz.func76,Tryz.ntmps76
 go_wp2_with (go_at_call 101;refine q.go (fun a1 a2 a3=>H.out a1 a2 a3) ?_;clear q F;intro w2 q;have F:=q.f1)
 go_end0
 exact q.done (by simp)
set_option maxRecDepth 100000 in
set_option maxHeartbeats 2000000 in
theorem f76_24 {T:List (List UInt8)} (HP:Wc B w0 wb 101 (nodeC 24 pos n m name (.slice ko kl kc)) T):Wc B w0 wb 76 (nodeC 24 pos n m name (.slice ko kl kc)) T:=by
 intro w bs h hne hf
 have q:=((Sw.start h hne hf).as (rest':=T++[]) (by simp)).box (nodeC 24 pos n m name (.slice ko kl kc))
 have H:Hid (Wc B w0 wb 101 (nodeC 24 pos n m name (.slice ko kl kc)) T):=HP
 clear h hne hf HP
 have F:=q.f1
 go_enter Tryz.func76,Tryz.ntmps76
 go_wp2_with (go_at_call 101;refine q.go (fun a1 a2 a3=>H.out a1 a2 a3) ?_;clear q F;intro w2 q;have F:=q.f1)
 go_end0
 exact q.done (by simp)
set_option maxRecDepth 100000 in
set_option maxHeartbeats 2000000 in
theorem f76_25 {T:List (List UInt8)} (HP:Wc B w0 wb 101 (nodeC 25 pos n m name (.slice ko kl kc)) T):Wc B w0 wb 76 (nodeC 25 pos n m name (.slice ko kl kc)) T:=by
 intro w bs h hne hf
 have q:=((Sw.start h hne hf).as (rest':=T++[]) (by simp)).box (nodeC 25 pos n m name (.slice ko kl kc))
 have H:Hid (Wc B w0 wb 101 (nodeC 25 pos n m name (.slice ko kl kc)) T):=HP
 clear h hne hf HP
 have F:=q.f1
 go_enter Tryz.func76,Tryz.ntmps76
 go_wp2_with (go_at_call 101;refine q.go (fun a1 a2 a3=>H.out a1 a2 a3) ?_;clear q F;intro w2 q;have F:=q.f1)
 go_end0
 exact q.done (by simp)
set_option maxRecDepth 100000 in
set_option maxHeartbeats 2000000 in
theorem f76_26 {T:List (List UInt8)} (HP:Wc B w0 wb 101 (nodeC 26 pos n m name (.slice ko kl kc)) T):Wc B w0 wb 76 (nodeC 26 pos n m name (.slice ko kl kc)) T:=by
 intro w bs h hne hf
 have q:=((Sw.start h hne hf).as (rest':=T++[]) (by simp)).box (nodeC 26 pos n m name (.slice ko kl kc))
 have H:Hid (Wc B w0 wb 101 (nodeC 26 pos n m name (.slice ko kl kc)) T):=HP
 clear h hne hf HP
 have F:=q.f1
 go_enter Tryz.func76,Tryz.ntmps76
 go_wp2_with (go_at_call 101;refine q.go (fun a1 a2 a3=>H.out a1 a2 a3) ?_;clear q F;intro w2 q;have F:=q.f1)
 go_end0
 exact q.done (by simp)
set_option maxRecDepth 100000 in
set_option maxHeartbeats 2000000 in
theorem f76_27 {T:List (List UInt8)} (HP:Wc B w0 wb 101 (nodeC 27 pos n m name (.slice ko kl kc)) T):Wc B w0 wb 76 (nodeC 27 pos n m name (.slice ko kl kc)) T:=by
 intro w bs h hne hf
 have q:=((Sw.start h hne hf).as (rest':=T++[]) (by simp)).box (nodeC 27 pos n m name (.slice ko kl kc))
 have H:Hid (Wc B w0 wb 101 (nodeC 27 pos n m name (.slice ko kl kc)) T):=HP
 clear h hne hf HP
 have F:=q.f1
 go_enter Tryz.func76,Tryz.ntmps76
 go_wp2_with (go_at_call 101;refine q.go (fun a1 a2 a3=>H.out a1 a2 a3) ?_;clear q F;intro w2 q;have F:=q.f1)
 go_end0
 exact q.done (by simp)
set_option maxRecDepth 100000 in
set_option maxHeartbeats 2000000 in
theorem f76_28 {T:List (List UInt8)} (HP:Wc B w0 wb 101 (nodeC 28 pos n m name (.slice ko kl kc)) T):Wc B w0 wb 76 (nodeC 28 pos n m name (.slice ko kl kc)) T:=by
 intro w bs h hne hf
 have q:=((Sw.start h hne hf).as (rest':=T++[]) (by simp)).box (nodeC 28 pos n m name (.slice ko kl kc))
 have H:Hid (Wc B w0 wb 101 (nodeC 28 pos n m name (.slice ko kl kc)) T):=HP
 clear h hne hf HP
 have F:=q.f1
 go_enter Tryz.func76,Tryz.ntmps76
 go_wp2_with (go_at_call 101;refine q.go (fun a1 a2 a3=>H.out a1 a2 a3) ?_;clear q F;intro w2 q;have F:=q.f1)
 go_end0
 exact q.done (by simp)
set_option maxRecDepth 100000 in
set_option maxHeartbeats 2000000 in
theorem f76_29 {T:List (List UInt8)} (HP:Wc B w0 wb 101 (nodeC 29 pos n m name (.slice ko kl kc)) T):Wc B w0 wb 76 (nodeC 29 pos n m name (.slice ko kl kc)) T:=by
 intro w bs h hne hf
 have q:=((Sw.start h hne hf).as (rest':=T++[]) (by simp)).box (nodeC 29 pos n m name (.slice ko kl kc))
 have H:Hid (Wc B w0 wb 101 (nodeC 29 pos n m name (.slice ko kl kc)) T):=HP
 clear h hne hf HP
 have F:=q.f1
 go_enter Tryz.func76,Tryz.ntmps76
 go_wp2_with (go_at_call 101;refine q.go (fun a1 a2 a3=>H.out a1 a2 a3) ?_;clear q F;intro w2 q;have F:=q.f1)
 go_end0
 exact q.done (by simp)
set_option maxRecDepth 100000 in
set_option maxHeartbeats 2000000 in
theorem f76_30 {T:List (List UInt8)} (HP:Wc B w0 wb 101 (nodeC 30 pos n m name (.slice ko kl kc)) T):Wc B w0 wb 76 (nodeC 30 pos n m name (.slice ko kl kc)) T:=by
 intro w bs h hne hf
 have q:=((Sw.start h hne hf).as (rest':=T++[]) (by simp)).box (nodeC 30 pos n m name (.slice ko kl kc))
 have H:Hid (Wc B w0 wb 101 (nodeC 30 pos n m name (.slice ko kl kc)) T):=HP
 clear h hne hf HP
 have F:=q.f1
 go_enter Tryz.func76,Tryz.ntmps76
 go_wp2_with (go_at_call 101;refine q.go (fun a1 a2 a3=>H.out a1 a2 a3) ?_;clear q F;intro w2 q;have F:=q.f1)
 go_end0
 exact q.done (by simp)
set_option maxRecDepth 100000 in
set_option maxHeartbeats 2000000 in
theorem f76_31 {T:List (List UInt8)} (HP:Wc B w0 wb 101 (nodeC 31 pos n m name (.slice ko kl kc)) T):Wc B w0 wb 76 (nodeC 31 pos n m name (.slice ko kl kc)) T:=by
 intro w bs h hne hf
 have q:=((Sw.start h hne hf).as (rest':=T++[]) (by simp)).box (nodeC 31 pos n m name (.slice ko kl kc))
 have H:Hid (Wc B w0 wb 101 (nodeC 31 pos n m name (.slice ko kl kc)) T):=HP
 clear h hne hf HP
 have F:=q.f1
 go_enter Tryz.func76,Tryz.ntmps76
 go_wp2_with (go_at_call 101;refine q.go (fun a1 a2 a3=>H.out a1 a2 a3) ?_;clear q F;intro w2 q;have F:=q.f1)
 go_end0
 exact q.done (by simp)
set_option maxRecDepth 100000 in
set_option maxHeartbeats 2000000 in
theorem f76_32 {T:List (List UInt8)} (HP:Wc B w0 wb 101 (nodeC 32 pos n m name (.slice ko kl kc)) T):Wc B w0 wb 76 (nodeC 32 pos n m name (.slice ko kl kc)) T:=by
 intro w bs h hne hf
 have q:=((Sw.start h hne hf).as (rest':=T++[]) (by simp)).box (nodeC 32 pos n m name (.slice ko kl kc))
 have H:Hid (Wc B w0 wb 101 (nodeC 32 pos n m name (.slice ko kl kc)) T):=HP
 clear h hne hf HP
 have F:=q.f1
 go_enter Tryz.func76,Tryz.ntmps76
 go_wp2_with (go_at_call 101;refine q.go (fun a1 a2 a3=>H.out a1 a2 a3) ?_;clear q F;intro w2 q;have F:=q.f1)
 go_end0
 exact q.done (by simp)
set_option maxRecDepth 100000 in
set_option maxHeartbeats 2000000 in
theorem f76_33 {T:List (List UInt8)} (HP:Wc B w0 wb 101 (nodeC 33 pos n m name (.slice ko kl kc)) T):Wc B w0 wb 76 (nodeC 33 pos n m name (.slice ko kl kc)) T:=by
 intro w bs h hne hf
 have q:=((Sw.start h hne hf).as (rest':=T++[]) (by simp)).box (nodeC 33 pos n m name (.slice ko kl kc))
 have H:Hid (Wc B w0 wb 101 (nodeC 33 pos n m name (.slice ko kl kc)) T):=HP
 clear h hne hf HP
 have F:=q.f1
 go_enter Tryz.func76,Tryz.ntmps76
 go_wp2_with (go_at_call 101;refine q.go (fun a1 a2 a3=>H.out a1 a2 a3) ?_;clear q F;intro w2 q;have F:=q.f1)
 go_end0
 exact q.done (by simp)
set_option maxRecDepth 100000 in
set_option maxHeartbeats 2000000 in
theorem f76_34 {T:List (List UInt8)} (HP:Wc B w0 wb 101 (nodeC 34 pos n m name (.slice ko kl kc)) T):Wc B w0 wb 76 (nodeC 34 pos n m name (.slice ko kl kc)) T:=by
 intro w bs h hne hf
 have q:=((Sw.start h hne hf).as (rest':=T++[]) (by simp)).box (nodeC 34 pos n m name (.slice ko kl kc))
 have H:Hid (Wc B w0 wb 101 (nodeC 34 pos n m name (.slice ko kl kc)) T):=HP
 clear h hne hf HP
 have F:=q.f1
 go_enter Tryz.func76,Tryz.ntmps76
 go_wp2_with (go_at_call 101;refine q.go (fun a1 a2 a3=>H.out a1 a2 a3) ?_;clear q F;intro w2 q;have F:=q.f1)
 go_end0
 exact q.done (by simp)
set_option maxRecDepth 100000 in
set_option maxHeartbeats 2000000 in
theorem f76_36 {T:List (List UInt8)} (HP:Wc B w0 wb 101 (nodeC 36 pos n m name (.slice ko kl kc)) T):Wc B w0 wb 76 (nodeC 36 pos n m name (.slice ko kl kc)) T:=by
 intro w bs h hne hf
 have q:=((Sw.start h hne hf).as (rest':=T++[]) (by simp)).box (nodeC 36 pos n m name (.slice ko kl kc))
 have H:Hid (Wc B w0 wb 101 (nodeC 36 pos n m name (.slice ko kl kc)) T):=HP
 clear h hne hf HP
 have F:=q.f1
 go_enter Tryz.func76,Tryz.ntmps76
 go_wp2_with (go_at_call 101;refine q.go (fun a1 a2 a3=>H.out a1 a2 a3) ?_;clear q F;intro w2 q;have F:=q.f1)
 go_end0
 exact q.done (by simp)
set_option maxRecDepth 100000 in
set_option maxHeartbeats 2000000 in
theorem f76_37 {T:List (List UInt8)} (HP:Wc B w0 wb 101 (nodeC 37 pos n m name (.slice ko kl kc)) T):Wc B w0 wb 76 (nodeC 37 pos n m name (.slice ko kl kc)) T:=by
 intro w bs h hne hf
 have q:=((Sw.start h hne hf).as (rest':=T++[]) (by simp)).box (nodeC 37 pos n m name (.slice ko kl kc))
 have H:Hid (Wc B w0 wb 101 (nodeC 37 pos n m name (.slice ko kl kc)) T):=HP
 clear h hne hf HP
 have F:=q.f1
 go_enter Tryz.func76,Tryz.ntmps76
 go_wp2_with (go_at_call 101;refine q.go (fun a1 a2 a3=>H.out a1 a2 a3) ?_;clear q F;intro w2 q;have F:=q.f1)
 go_end0
 exact q.done (by simp)
set_option maxRecDepth 100000 in
set_option maxHeartbeats 2000000 in
theorem f76_38 {T:List (List UInt8)} (HP:Wc B w0 wb 101 (nodeC 38 pos n m name (.slice ko kl kc)) T):Wc B w0 wb 76 (nodeC 38 pos n m name (.slice ko kl kc)) T:=by
 intro w bs h hne hf
 have q:=((Sw.start h hne hf).as (rest':=T++[]) (by simp)).box (nodeC 38 pos n m name (.slice ko kl kc))
 have H:Hid (Wc B w0 wb 101 (nodeC 38 pos n m name (.slice ko kl kc)) T):=HP
 clear h hne hf HP
 have F:=q.f1
 go_enter Tryz.func76,Tryz.ntmps76
 go_wp2_with (go_at_call 101;refine q.go (fun a1 a2 a3=>H.out a1 a2 a3) ?_;clear q F;intro w2 q;have F:=q.f1)
 go_end0
 exact q.done (by simp)
set_option maxRecDepth 100000 in
set_option maxHeartbeats 2000000 in
theorem f76_39 {T:List (List UInt8)} (HP:Wc B w0 wb 101 (nodeC 39 pos n m name (.slice ko kl kc)) T):Wc B w0 wb 76 (nodeC 39 pos n m name (.slice ko kl kc)) T:=by
 intro w bs h hne hf
 have q:=((Sw.start h hne hf).as (rest':=T++[]) (by simp)).box (nodeC 39 pos n m name (.slice ko kl kc))
 have H:Hid (Wc B w0 wb 101 (nodeC 39 pos n m name (.slice ko kl kc)) T):=HP
 clear h hne hf HP
 have F:=q.f1
 go_enter Tryz.func76,Tryz.ntmps76
 go_wp2_with (go_at_call 101;refine q.go (fun a1 a2 a3=>H.out a1 a2 a3) ?_;clear q F;intro w2 q;have F:=q.f1)
 go_end0
 exact q.done (by simp)
set_option maxRecDepth 100000 in
set_option maxHeartbeats 2000000 in
theorem f76_40 {T:List (List UInt8)} (HP:Wc B w0 wb 101 (nodeC 40 pos n m name (.slice ko kl kc)) T):Wc B w0 wb 76 (nodeC 40 pos n m name (.slice ko kl kc)) T:=by
 intro w bs h hne hf
 have q:=((Sw.start h hne hf).as (rest':=T++[]) (by simp)).box (nodeC 40 pos n m name (.slice ko kl kc))
 have H:Hid (Wc B w0 wb 101 (nodeC 40 pos n m name (.slice ko kl kc)) T):=HP
 clear h hne hf HP
 have F:=q.f1
 go_enter Tryz.func76,Tryz.ntmps76
 go_wp2_with (go_at_call 101;refine q.go (fun a1 a2 a3=>H.out a1 a2 a3) ?_;clear q F;intro w2 q;have F:=q.f1)
 go_end0
 exact q.done (by simp)
set_option maxRecDepth 100000 in
set_option maxHeartbeats 2000000 in
theorem f76_41 {T:List (List UInt8)} (HP:Wc B w0 wb 101 (nodeC 41 pos n m name (.slice ko kl kc)) T):Wc B w0 wb 76 (nodeC 41 pos n m name (.slice ko kl kc)) T:=by
 intro w bs h hne hf
 have q:=((Sw.start h hne hf).as (rest':=T++[]) (by simp)).box (nodeC 41 pos n m name (.slice ko kl kc))
 have H:Hid (Wc B w0 wb 101 (nodeC 41 pos n m name (.slice ko kl kc)) T):=HP
 clear h hne hf HP
 have F:=q.f1
 go_enter Tryz.func76,Tryz.ntmps76
 go_wp2_with (go_at_call 101;refine q.go (fun a1 a2 a3=>H.out a1 a2 a3) ?_;clear q F;intro w2 q;have F:=q.f1)
 go_end0
 exact q.done (by simp)
set_option maxRecDepth 100000 in
set_option maxHeartbeats 2000000 in
theorem f76_42 {T:List (List UInt8)} (HP:Wc B w0 wb 101 (nodeC 42 pos n m name (.slice ko kl kc)) T):Wc B w0 wb 76 (nodeC 42 pos n m name (.slice ko kl kc)) T:=by
 intro w bs h hne hf
 have q:=((Sw.start h hne hf).as (rest':=T++[]) (by simp)).box (nodeC 42 pos n m name (.slice ko kl kc))
 have H:Hid (Wc B w0 wb 101 (nodeC 42 pos n m name (.slice ko kl kc)) T):=HP
 clear h hne hf HP
 have F:=q.f1
 go_enter Tryz.func76,Tryz.ntmps76
 go_wp2_with (go_at_call 101;refine q.go (fun a1 a2 a3=>H.out a1 a2 a3) ?_;clear q F;intro w2 q;have F:=q.f1)
 go_end0
 exact q.done (by simp)
set_option maxRecDepth 100000 in
set_option maxHeartbeats 2000000 in
theorem f76_43 {T:List (List UInt8)} (HP:Wc B w0 wb 101 (nodeC 43 pos n m name (.slice ko kl kc)) T):Wc B w0 wb 76 (nodeC 43 pos n m name (.slice ko kl kc)) T:=by
 intro w bs h hne hf
 have q:=((Sw.start h hne hf).as (rest':=T++[]) (by simp)).box (nodeC 43 pos n m name (.slice ko kl kc))
 have H:Hid (Wc B w0 wb 101 (nodeC 43 pos n m name (.slice ko kl kc)) T):=HP
 clear h hne hf HP
 have F:=q.f1
 go_enter Tryz.func76,Tryz.ntmps76
 go_wp2_with (go_at_call 101;refine q.go (fun a1 a2 a3=>H.out a1 a2 a3) ?_;clear q F;intro w2 q;have F:=q.f1)
 go_end0
 exact q.done (by simp)
set_option maxRecDepth 100000 in
set_option maxHeartbeats 2000000 in
theorem f76_44 {T:List (List UInt8)} (HP:Wc B w0 wb 101 (nodeC 44 pos n m name (.slice ko kl kc)) T):Wc B w0 wb 76 (nodeC 44 pos n m name (.slice ko kl kc)) T:=by
 intro w bs h hne hf
 have q:=((Sw.start h hne hf).as (rest':=T++[]) (by simp)).box (nodeC 44 pos n m name (.slice ko kl kc))
 have H:Hid (Wc B w0 wb 101 (nodeC 44 pos n m name (.slice ko kl kc)) T):=HP
 clear h hne hf HP
 have F:=q.f1
 go_enter Tryz.func76,Tryz.ntmps76
 go_wp2_with (go_at_call 101;refine q.go (fun a1 a2 a3=>H.out a1 a2 a3) ?_;clear q F;intro w2 q;have F:=q.f1)
 go_end0
 exact q.done (by simp)
set_option maxRecDepth 100000 in
set_option maxHeartbeats 2000000 in
theorem f76_46 {T:List (List UInt8)} (HP:Wc B w0 wb 101 (nodeC 46 pos n m name (.slice ko kl kc)) T):Wc B w0 wb 76 (nodeC 46 pos n m name (.slice ko kl kc)) T:=by
 intro w bs h hne hf
 have q:=((Sw.start h hne hf).as (rest':=T++[]) (by simp)).box (nodeC 46 pos n m name (.slice ko kl kc))
 have H:Hid (Wc B w0 wb 101 (nodeC 46 pos n m name (.slice ko kl kc)) T):=HP
 clear h hne hf HP
 have F:=q.f1
 go_enter Tryz.func76,Tryz.ntmps76
 go_wp2_with (go_at_call 101;refine q.go (fun a1 a2 a3=>H.out a1 a2 a3) ?_;clear q F;intro w2 q;have F:=q.f1)
 go_end0
 exact q.done (by simp)
set_option maxRecDepth 100000 in
set_option maxHeartbeats 2000000 in
theorem f76_48 {T:List (List UInt8)} (HP:Wc B w0 wb 101 (nodeC 48 pos n m name (.slice ko kl kc)) T):Wc B w0 wb 76 (nodeC 48 pos n m name (.slice ko kl kc)) T:=by
 intro w bs h hne hf
 have q:=((Sw.start h hne hf).as (rest':=T++[]) (by simp)).box (nodeC 48 pos n m name (.slice ko kl kc))
 have H:Hid (Wc B w0 wb 101 (nodeC 48 pos n m name (.slice ko kl kc)) T):=HP
 clear h hne hf HP
 have F:=q.f1
 go_enter Tryz.func76,Tryz.ntmps76
 go_wp2_with (go_at_call 101;refine q.go (fun a1 a2 a3=>H.out a1 a2 a3) ?_;clear q F;intro w2 q;have F:=q.f1)
 go_end0
 exact q.done (by simp)
end
end Go.Proofs.YtagdihffmjopaaaGreatDoor
