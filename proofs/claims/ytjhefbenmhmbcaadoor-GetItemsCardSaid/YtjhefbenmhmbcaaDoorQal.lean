/- Texts that this proof leans on, one behind the other: Chain, Walk. -/
import Derived.Test.YtjhefbenmhmbcaaDoorQaa
import Derived.Test.YtjhefbenmhmbcaaDoorQac
import Derived.Test.YtjhefbenmhmbcaaDoorQag
import Derived.Test.YtjhefbenmhmbcaaDoorQai
import Derived.Test.YtjhefbenmhmbcaaDoorQak
set_option linter.unusedVariables false
set_option linter.unusedSimpArgs false
set_option maxRecDepth 100000
set_option maxHeartbeats 12800000
namespace Go.Proofs.YtjhefbenmhmbcaaDoor.Ch
open Go.RowKit Go.Proofs.YtjhefbenmhmbcaaDoor.Ar Go.Proofs.YtjhefbenmhmbcaaDoor.Mx Go.Proofs.YtjhefbenmhmbcaaDoor.Vw
def atU (w:Int):Int:=w % 18446744073709551616 / 2
end Go.Proofs.YtjhefbenmhmbcaaDoor.Ch
namespace Go.Proofs.YtjhefbenmhmbcaaDoor.Mx
open Go.RowKit Go.Proofs.YtjhefbenmhmbcaaDoor.Ar Go.Proofs.YtjhefbenmhmbcaaDoor.Ref
structure Wk where
 c:Cf
 key:Int
 line:Int
 x:Int
 cur:Int
 n:Int
 at_:Int
def Wk.new (c:Cf) (key:Int):Wk:=⟨c,key,1,0,0,0,0⟩
def Wk.head (x:Wk):Wk:={ x with cur:=headP x.c,line:=5 }
def Wk.ends (x:Wk):Wk:={ x with at_:=x.cur,line:=0 }
def Wk.looks (x:Wk):Int :=
 if x.line=1 then hintP x.c x.key else if x.line=2 then wrap64 (x.x+6) else if x.line=3 then wrap64 x.x else if x.line=5 then wrap64 (x.cur+2) else wrap64 x.n
def Wk.next (x:Wk) (v:Int):Wk :=
 if x.line=1 then (if v=0 then { x with x:=v,line:=2 }.head else { x with x:=v,line:=2 })
 else if x.line=2 then (if v=0 then { x with line:=3 } else { x with line:=3 }.head)
 else if x.line=3 then (if v≤x.key then { x with cur:=x.x,line:=5 } else x.head)
 else if x.line=5 then (if atW v=0 then { x with n:=0,line:=6 }.ends else { x with n:=atW v,line:=6 })
 else (if v≤x.key then { x with cur:=x.n,line:=5 } else x.ends)
def Wk.live (x:Wk):Bool:=decide (x.line=1) || decide (x.line=2) || decide (x.line=3) || decide (x.line=5) || decide (x.line=6)
def Wk.step (x:Wk) (s:St):Wk×St:=if x.live=true then (x.next (peek s.l x.looks),s.load x.looks) else (x,s)
end Go.Proofs.YtjhefbenmhmbcaaDoor.Mx
