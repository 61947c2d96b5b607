/- Texts that this proof leans on, one behind the other: Look5. -/
import Derived.Test.YtjhefbenmhmbcaaDoorQae
import Derived.Maps.RangeWalk
set_option linter.unusedVariables false
set_option linter.unusedSimpArgs false
set_option maxRecDepth 100000
set_option maxHeartbeats 12800000
namespace Go.Proofs.YtjhefbenmhmbcaaDoor.Mx
open Go.RowKit Go.Proofs.YtjhefbenmhmbcaaDoor.Ar Go.Proofs.YtjhefbenmhmbcaaDoor.Ref
def Lok.sa (x:Lok):Int:=stAt x.chunk x.i
def Lok.live (x:Lok):Bool:=decide (1≤x.line) && decide (x.line≤7)
def Lok.act (x:Lok) (s:St):St :=
 if x.line=1 then s.load (wrap64 (x.chunk+1)) else if x.line=2 then s.load x.sa else if x.line=3 then s.load (wrap64 (x.sa+1)) else if x.line=4 then s.load 1
 else if x.line=5 then s.swap x.sa 1 (stateW x.g) else if x.line=6 then s.load x.sa else s.load (wrap64 (x.sa+2))
def Lok.told (x:Lok) (s:St):Int :=
 if x.line=1 then peek s.l (wrap64 (x.chunk+1)) else if x.line=2 then peek s.l x.sa else if x.line=3 then peek s.l (wrap64 (x.sa+1)) else if x.line=4 then peek s.l 1
 else if x.line=6 then peek s.l x.sa else peek s.l (wrap64 (x.sa+2))
def Lok.next (x:Lok) (v:Int):Lok :=
 if x.line=1 then ({ x with count:=max 0 (min v x.c.c),i:=-1 }:Lok).on
 else if x.line=2 then (if v≤0∨v=2 then ({ x with s:=v,line:=3 }:Lok).on else { x with s:=v,line:=3 })
 else if x.line=3 then (if v<x.lo∨x.hi<v then ({ x with k:=v }:Lok).on else if x.s=1 then { x with k:=v,line:=4 } else ({ x with k:=v }:Lok).seven)
 else if x.line=4 then { x with g:=v,line:=5 } else if x.line=5 then { x with line:=6 }
 else if x.line=6 then (if v<3 then ({ x with s:=v }:Lok).on else ({ x with s:=v }:Lok).seven)
 else ({ x with l:=putK x.l ⟨x.k,verW x.s,v⟩ }:Lok).on
def Lok.step (x:Lok) (s:St):Lok×St:=if x.live=true then (x.next (x.told s),x.act s) else (x,s)
end Go.Proofs.YtjhefbenmhmbcaaDoor.Mx
