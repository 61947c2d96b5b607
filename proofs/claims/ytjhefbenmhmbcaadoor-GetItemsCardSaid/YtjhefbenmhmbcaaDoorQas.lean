/- Texts that this proof leans on, one behind the other: OkLook, Get2. -/
import Derived.Test.YtjhefbenmhmbcaaDoorQaa
import Derived.Test.YtjhefbenmhmbcaaDoorQac
import Derived.Test.YtjhefbenmhmbcaaDoorQae
import Derived.Test.YtjhefbenmhmbcaaDoorQag
import Derived.Test.YtjhefbenmhmbcaaDoorQah
import Derived.Test.YtjhefbenmhmbcaaDoorQal
import Derived.Test.YtjhefbenmhmbcaaDoorQao
import Derived.Test.YtjhefbenmhmbcaaDoorQar
import Derived.DeepKeys4
import Derived.WideKeyPair
set_option linter.unusedVariables false
set_option linter.unusedSimpArgs false
set_option maxRecDepth 100000
set_option maxHeartbeats 12800000
namespace Go.Proofs.YtjhefbenmhmbcaaDoor.Mx
open Go.RowKit Go.Proofs.YtjhefbenmhmbcaaDoor.Ar Go.Proofs.YtjhefbenmhmbcaaDoor.Ref
structure LokOk (x:Lok):Prop where
 c:x.c.Ok
 i0:0≤x.i
 i1:x.i≤16
 len:(x.l.length:Int)≤x.i
 one:x.line=1→x.l=[]
 two:2≤x.line→x.i<x.count
 cnt:x.count≤x.c.c
theorem LokOk.new {c:Cf} (hc:c.Ok) (chunk lo hi most:Int):LokOk (Lok.new c chunk lo hi most):=by
 have h1:=hc.c2;have h2:=hc.t1
 exact ⟨hc,by simp [Lok.new],by simp [Lok.new],by simp [Lok.new],fun _=>rfl,by simp [Lok.new],by simp [Lok.new];omega⟩
end Go.Proofs.YtjhefbenmhmbcaaDoor.Mx
namespace Go.Proofs.YtjhefbenmhmbcaaDoor.Mx
open Go.RowKit Go.Proofs.YtjhefbenmhmbcaaDoor.Ar Go.Proofs.YtjhefbenmhmbcaaDoor.Ref Go.Proofs.YtjhefbenmhmbcaaDoor.Mp
theorem st6_ob {w:World} {b:Nat} {T:TypeId} {x0 x1 x2 x3 x4 x5:Value} (h:Ob w b T #[x0,x1,x2,x3,x4,x5]) (y0 y1 y2 y3 y4 y5:Value) :
  Ob ((((((w.setCell ⟨b,0,none⟩ y0).setCell ⟨b,1,none⟩ y1).setCell ⟨b,2,none⟩ y2).setCell ⟨b,3,none⟩ y3).setCell ⟨b,4,none⟩ y4).setCell ⟨b,5,none⟩ y5) b T #[y0,y1,y2,y3,y4,y5]:=by
 have:=((((((h.set (i:=0) y0).set (i:=1) y1).set (i:=2) y2).set (i:=3) y3).set (i:=4) y4).set (i:=5) y5)
 rwa [show ((((((#[x0,x1,x2,x3,x4,x5]:Array Value).setIfInBounds 0 y0).setIfInBounds 1 y1).setIfInBounds 2 y2).setIfInBounds 3 y3).setIfInBounds 4 y4).setIfInBounds 5 y5 = #[y0,y1,y2,y3,y4,y5] from rfl] at this
theorem st6_fr {S:List Nat} {a w:World} {b:Nat} (h:Fr S a w) (hb:b∈S) (y0 y1 y2 y3 y4 y5:Value) :
  Fr S a ((((((w.setCell ⟨b,0,none⟩ y0).setCell ⟨b,1,none⟩ y1).setCell ⟨b,2,none⟩ y2).setCell ⟨b,3,none⟩ y3).setCell ⟨b,4,none⟩ y4).setCell ⟨b,5,none⟩ y5) :=
 (((((h.setCell' y0 hb).setCell' y1 hb).setCell' y2 hb).setCell' y3 hb).setCell' y4 hb).setCell' y5 hb
theorem cells6 {w:World} {b:Nat} {T:TypeId} {x0 x1 x2 x3 x4 x5:Value} (h:Ob w b T #[x0,x1,x2,x3,x4,x5]):w.cell? ⟨b,0,none⟩=some x0∧w.cell? ⟨b,1,none⟩=some x1∧w.cell? ⟨b,2,none⟩=some x2∧w.cell? ⟨b,3,none⟩=some x3∧w.cell? ⟨b,4,none⟩=some x4∧w.cell? ⟨b,5,none⟩=some x5 :=
 ⟨h.cell rfl,h.cell rfl,h.cell rfl,h.cell rfl,h.cell rfl,h.cell rfl⟩
def An0:Array Value:=#[.int .i64 0,.bool false,.int .i64 0,.int .i64 0,.int .i64 0,.slice none 0 0]
end Go.Proofs.YtjhefbenmhmbcaaDoor.Mx
