/- Texts that this proof leans on, one behind the other: View, Look, Look4. -/
import Derived.Test.YtilipdnchflkhaaDoorGab
import Derived.Test.YtilipdnchflkhaaDoorGae
import Derived.Test.YtilipdnchflkhaaDoorGaf
import Derived.ChangeKeysEq
import Derived.WalkSpells
set_option linter.unusedVariables false
set_option linter.unusedSimpArgs false
set_option maxRecDepth 100000
set_option maxHeartbeats 12800000
namespace Go.Proofs.YtilipdnchflkhaaDoor.Vw
open Go.RowKit Go.Proofs.YtilipdnchflkhaaDoor.Ar Go.Proofs.YtilipdnchflkhaaDoor.Mx
def verV (s:Int):Int:=if s<3 then -1 else wrap64 (s - 3)
theorem version_any (s:Int) (w:World):Calls Tryd.prog 39 #[.int .i64 s] w fun e w'=>e = .returned (.int .i64 (verV s))∧w=w':=by
 by_cases c:s<3
 all_goals
  go_enter Tryd.func39,Tryd.ntmps39
  go_wp2
  go_ret
  exact ret_int (by unfold verV;first | (rw [if_pos (by omega)];done) | (rw [if_neg (by omega)];done))
end Go.Proofs.YtilipdnchflkhaaDoor.Vw
namespace Go.Proofs.YtilipdnchflkhaaDoor.Mx
open Go.RowKit Go.Proofs.YtilipdnchflkhaaDoor.Ar Go.Proofs.YtilipdnchflkhaaDoor.Ref
structure Lok where
 c:Cf
 chunk:Int
 lo:Int
 hi:Int
 most:Int
 line:Int
 i:Int
 count:Int
 s:Int
 k:Int
 g:Int
 lv:Value
 l:List It
def Lok.new (c:Cf) (chunk lo hi most:Int):Lok:=⟨c,chunk,lo,hi,most,1,0,0,0,0,0,.slice none 0 0,[]⟩
def Lok.on (x:Lok):Lok:=if x.count≤x.i+1 then { x with i:=x.i+1,line:=0 } else { x with i:=x.i+1,line:=2 }
def itemN (l:List It) (key:Int):Option Nat:=l.findIdx? (fun y=>y.k == key)
def itemI (l:List It) (key:Int):Int:=match itemN l key with | some i=>(i:Int) | none=>-1
def insK:List It→It→List It
 | [],x=>[x]
 | y :: r,x=>if y.k<x.k then y :: insK r x else x :: y :: r
def putK (l:List It) (x:It):List It:=match itemN l x.k with | some i=>l.set i x | none=>insK l x
def Lok.skips (x:Lok):Bool:=decide (x.most<verW x.s) || (match itemN x.l x.k with | some i=>decide (verW x.s<(x.l.getD i ⟨0,0,0⟩).v) | none=>false)
def Lok.seven (x:Lok):Lok:=if x.skips=true then ({ x with line:=7 }:Lok).on else { x with line:=7 }
end Go.Proofs.YtilipdnchflkhaaDoor.Mx
