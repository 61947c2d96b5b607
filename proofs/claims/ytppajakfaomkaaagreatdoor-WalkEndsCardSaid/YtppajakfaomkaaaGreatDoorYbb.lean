/- Parts. -/
import Derived.Test.YtppajakfaomkaaaGreatDoorYba
import Derived.Carry
set_option linter.unusedVariables false
set_option linter.unusedSimpArgs false
set_option maxRecDepth 100000
set_option maxHeartbeats 12800000
namespace Go.Proofs.YtppajakfaomkaaaGreatDoor.Ch
open Go.RowKit Ar Mx Vw
structure Kr where
 hd:Hd
 b:Nat
 n:Nat
def Kr.lv (x:Kr):Value:=.slice (some ⟨x.b,0,none⟩) x.n x.n
def fK (x:Kr):List Value:=[.int .i64 x.hd.at_,.int .i64 x.hd.mn,.int .i64 x.hd.ct,.int .i64 x.hd.nx,.int .i64 x.hd.ld,.int .i64 x.hd.mt,.int .i64 x.hd.rp,.int .i64 x.hd.st,.slice (some ⟨x.b,0,none⟩) x.n x.n]
theorem fK_lays:Lays fK 9:=⟨fun _=>rfl,fun x u hu=>by simp [fK] at hu;rcases hu with rfl | rfl | rfl | rfl | rfl | rfl | rfl | rfl | rfl <;> rfl,by decide⟩
structure qac (w:World) (B:Nat) (x:Kr) (y:Hd×List Ce):Prop where
 hd:x.hd=y.1
 len:x.n=y.2.length
 base:B<=x.b
 at_:Ob w x.b 179 (y.2.flatMap fC).toArray
theorem qac.kept {S:List Nat} {w w':World} {B:Nat} {x:Kr} {y:Hd×List Ce} (h:qac w B x y) (f:Fr S w w') (hS:∀ b cs,Ob w b 179 cs->b∉S):qac w' B x y:=⟨h.hd,h.len,h.base,h.at_.kept f (hS _ _ h.at_)⟩
theorem qac.ch {w:World} {B:Nat} {x:Kr} {y:Hd×List Ce} (h:qac w B x y) (hy:y.2.length<=16):qdd w (chV x.hd x.lv) y.1 y.2 :=
 ⟨x.lv,by rw [h.hd],by unfold Kr.lv;rw [h.len];exact Sq.block h.at_ (by simp) rfl (Nat.le_refl _) (by unfold maxLen;omega)⟩
structure Yg (w:World) (B:Nat) (xs:List Kr) (L:List (Hd×List Ce)):Prop where
 len:xs.length=L.length
 each:∀ (i:Nat) (x:Kr) (y:Hd×List Ce),xs[i]? = some x->L[i]? = some y->qac w B x y
theorem Yg.kept {S:List Nat} {w w':World} {B:Nat} {xs:List Kr} {L:List (Hd×List Ce)} (h:Yg w B xs L) (f:Fr S w w') (hS:∀ b cs,Ob w b 179 cs->b∉S):Yg w' B xs L :=
 ⟨h.len,fun i x y hx hy=>(h.each i x y hx hy).kept f hS⟩
theorem Yg.up {w w':World} {B:Nat} {xs:List Kr} {L:List (Hd×List Ce)} (h:Yg w B xs L) (f:Fr [] w w'):Yg w' B xs L:=h.kept f (by simp)
theorem Yg.nil (w:World) (B:Nat):Yg w B [] []:=⟨rfl,fun i x y hx=>by simp at hx⟩
theorem Yg.add {w:World} {B:Nat} {xs:List Kr} {L:List (Hd×List Ce)} {x:Kr} {y:Hd×List Ce} (h:Yg w B xs L) (k:qac w B x y):Yg w B (xs++[x]) (L++[y]):=by
 refine ⟨by simp [h.len],fun i u v hu hv=>?_⟩
 rw [List.getElem?_append] at hu hv
 by_cases hi:i<xs.length
 ·rw [qf hi] at hu
  rw [qf (by rw [<- h.len];exact hi)] at hv
  exact h.each i u v hu hv
 ·rw [qd hi] at hu
  rw [qd (by rw [<- h.len];exact hi)] at hv
  rw [h.len] at hu
  generalize i - L.length=j at hu hv
  cases j with
  | zero=>simp at hu hv;subst hu;subst hv;exact k
  | succ j=>simp at hu
theorem ckI:(Tryz.prog.info? 130).map (fun i=>(i.zero,i.size,i.bytes))=some (some (.agg #[.int .i64 0,.int .i64 0,.int .i64 0,.int .i64 0,.int .i64 0,.int .i64 0,.int .i64 0,.int .i64 0,.slice none 0 0]),9,88):=by kernel_rfl
theorem atU_bd (w:Int):0<=atU w/\atU w<=9223372036854775807:=by unfold atU;omega
theorem Vn (a:Int) (w:World):Calls Tryz.prog 139 #[.int .i64 a] w fun e w'=>e = .returned (.int .i64 (atU a))/\w=w' :=
 (Word.Vn a w).mono (by rintro e w' ⟨rfl,rfl⟩;exact ⟨rfl,rfl⟩)
theorem wf_pos {a:Int} (h0:0<=a) (h1:a<=9223372036854775807):(Lit.int .i64 a).wf=true:=WalkArith.wf_i64 (by omega)
def sliceLen:Value->Nat
 | .slice _ n _=>n
 | _=>0
def q9n (acc:List Int) (y:Int):Option Value:=if y∈acc then some (.agg #[]) else none
theorem memG_val (acc:List Int) (a:Int):(q9n acc a).getD (.agg #[]) = .agg #[]:=by unfold q9n;split <;> rfl
theorem memG_some (acc:List Int) (a:Int):(q9n acc a).isSome=decide (a∈acc):=by unfold q9n;split <;> simp [*]
theorem memG_add (acc:List Int) (a:Int):(fun x=>if x=a then some (.agg #[]) else q9n acc x)=q9n (acc++[a]):=by
 funext x;unfold q9n
 by_cases h:x=a
 ·simp [h]
 ·by_cases h2:x∈acc <;> simp [h,h2]
def ChkAt (w:World) (f:Int->Int) (len n:Nat) (t:Int) (bm:Nat) (u x:Value) (wr:World):Prop:=∃ k a acc xs,x = .int .i64 a/\0<=a/\a<=9223372036854775807/\q5w f len n k a acc=qdg f len n t/\Told len n acc/\k+acc.length=len+1 /\
 wr.ownsRow w.heap.size 130 9 u xs.length (xs.flatMap fK)/\Yg wr w.heap.size xs (acc.map (ckF f n))/\Kh wr bm acc.length (q9n acc)/\Fr [] w wr
def ChkMade (w:World) (L:List (Hd×List Ce)) (e:Ending) (w':World):Prop:=∃ v xs,e = .returned v/\w'.ownsRow w.heap.size 130 9 v xs.length (xs.flatMap fK)/\Yg w' w.heap.size xs L/\Fr [] w w'
end Go.Proofs.YtppajakfaomkaaaGreatDoor.Ch
