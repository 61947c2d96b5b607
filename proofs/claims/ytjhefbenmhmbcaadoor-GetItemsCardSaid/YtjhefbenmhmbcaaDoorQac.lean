/- Texts that this proof leans on, one behind the other: W1, Ob, Pb. -/
import Derived.Test.YtjhefbenmhmbcaaDoorQaa
import Derived.Test.YtjhefbenmhmbcaaDoorQab
import Derived.Laws.BitsAllLaws
import Derived.WalkArith
set_option linter.unusedVariables false
set_option linter.unusedSimpArgs false
set_option maxRecDepth 100000
set_option maxHeartbeats 12800000
namespace Go.Proofs.YtjhefbenmhmbcaaDoor.Mx
open Go.RowKit Go.Proofs.YtjhefbenmhmbcaaDoor.Ar Go.Proofs.YtjhefbenmhmbcaaDoor.Ref
def hd (n a b:Int):Int:=max a (min n b)
theorem w64 {a:Int} (h0:-9223372036854775808≤a) (h1:a≤9223372036854775807):wrap64 a=a:=IntWalk.wrap64_in a ⟨h0,h1⟩
theorem or_u64 (a b:Int) (i:Nat) (hi:i≤24) (h0:0≤a) (h1:a≤1073741824) (h2:0≤b) (h3:b<2 ^ i):wrap64 (bits .or .u64 (a * 2 ^ i) b)=a * 2 ^ i+b:=by
 obtain ⟨x,rfl⟩:=Int.eq_ofNat_of_zero_le h0
 obtain ⟨y,rfl⟩:=Int.eq_ofNat_of_zero_le h2
 have hp:2 ^ i≤2 ^ 24:=Nat.pow_le_pow_right (by decide) hi
 have hy:y<2 ^ i:=by
  have:((2 ^ i:Nat):Int)=(2:Int) ^ i:=by simp
  omega
 have hx:x * 2 ^ i≤1073741824 * 2 ^ 24:=Nat.mul_le_mul (by omega) hp
 have e:((x:Int) * 2 ^ i)=((x * 2 ^ i:Nat):Int):=by simp
 rw [e,u64_or_nat _ _ (by omega) (by omega),nat_join i _ _ (Nat.mul_mod_left _ _) hy,IntWalk.wrap64_in _ ⟨by omega,by omega⟩]
 omega
def un (a:Int):Int:=a % 18446744073709551616
theorem wrap_un (a:Int):IntKind.u64.wrap a=un a:=IntKind.wrap_u64 a
theorem bv_u (a:Int):BitVec.ofInt 64 (IntKind.u64.wrap a)=BitVec.ofInt 64 a:=by
 rw [wrap_un];unfold un
 apply BitVec.eq_of_toNat_eq
 rw [BitVec.toNat_ofInt,BitVec.toNat_ofInt]
 have:a % 18446744073709551616 % ((2 ^ 64:Nat):Int)=a % ((2 ^ 64:Nat):Int):=by
  rw [show ((2 ^ 64:Nat):Int)=18446744073709551616 by decide];omega
 rw [this]
theorem i64_wrap64 (n:Int):IntKind.i64.wrap n=wrap64 n:=by unfold wrap64;rw [IntKind.wrap_i64]
theorem and_i64 (a b:Int):bits .and .i64 a b=wrap64 (bits .and .u64 (IntKind.u64.wrap a) b):=by
 show IntKind.i64.wrap ((BitVec.ofInt 64 a &&& BitVec.ofInt 64 b).toNat:Int)=wrap64 (IntKind.u64.wrap ((BitVec.ofInt 64 (IntKind.u64.wrap a) &&& BitVec.ofInt 64 b).toNat:Int))
 rw [bv_u]
 have h:=(BitVec.ofInt 64 a &&& BitVec.ofInt 64 b).isLt
 generalize (BitVec.ofInt 64 a &&& BitVec.ofInt 64 b).toNat=n at *
 rw [IntKind.wrap_u64,show (n:Int) % 18446744073709551616=n by omega]
 exact i64_wrap64 n
theorem or_i64 (a b:Int):bits .or .i64 a b=wrap64 (bits .or .u64 a b):=by
 show IntKind.i64.wrap ((BitVec.ofInt 64 a ||| BitVec.ofInt 64 b).toNat:Int)=wrap64 (IntKind.u64.wrap ((BitVec.ofInt 64 a ||| BitVec.ofInt 64 b).toNat:Int))
 have h:=(BitVec.ofInt 64 a ||| BitVec.ofInt 64 b).isLt
 generalize (BitVec.ofInt 64 a ||| BitVec.ofInt 64 b).toNat=n at *
 rw [IntKind.wrap_u64,show (n:Int) % 18446744073709551616=n by omega]
 exact i64_wrap64 n
theorem join_i64 (a b:Int) (i:Nat) (hi:i≤24) (h0:0≤a) (h1:a≤1073741824) (h2:0≤b) (h3:b<2 ^ i):bits .or .i64 (a * 2 ^ i) b=a * 2 ^ i+b:=by rw [or_i64,or_u64 a b i hi h0 h1 h2 h3]
theorem ret_i {a b:Int} {w:World} (h:a=b):Ending.returned (.int .i64 a) = .returned (.int .i64 b)∧w=w:=⟨by rw [h],rfl⟩
def atW (a:Int):Int:=a / 2
def stateW (v:Int):Int:=hd v 0 16777212+3
def verW (s:Int):Int:=if s<3 then -1 else wrap64 (s - 3)
def whoW (a:Int):Int:=a / 2097152
def valW (a:Int):Int:=a % 2097152 - 1
def Ob (w:World) (b:Nat) (T:TypeId) (cs:Array Value):Prop:=w.heap[b]? = some (.cells cs T (0,0))
theorem Ob.lt {w:World} {b:Nat} {T:TypeId} {cs:Array Value} (h:Ob w b T cs):b<w.heap.size:=(Array.getElem?_eq_some_iff.1 h).1
theorem Ob.kept {S:List Nat} {w w':World} {b:Nat} {T:TypeId} {cs:Array Value} (h:Ob w b T cs) (f:Fr S w w') (hb:b∉S):Ob w' b T cs:=f.heap h hb
theorem Ob.up {w w':World} {b:Nat} {T:TypeId} {cs:Array Value} (h:Ob w b T cs) (f:Fr [] w w'):Ob w' b T cs:=f.heap h (by simp)
theorem Ob.set {w:World} {b i:Nat} {T:TypeId} {cs:Array Value} (h:Ob w b T cs) (v:Value):Ob (w.setCell ⟨b,i,none⟩ v) b T (cs.setIfInBounds i v):=heap_setCell_same _ b i _ _ v h
theorem Ob.new (w:World) (T:TypeId) (cs:Array Value):Ob (w.alloc (.cells cs T (0,0))) w.heap.size T cs:=Go.heap_alloc_new w _
theorem sizeA (w:World) (o:Obj):(w.alloc o).heap.size=w.heap.size+1:=by unfold World.alloc;simp
theorem Ob.newAt {w:World} {n:Nat} (hs:w.heap.size=n) (T:TypeId) (cs:Array Value):Ob (w.alloc (.cells cs T (0,0))) n T cs:=by subst hs;exact Ob.new w T cs
theorem Ob.cell {w:World} {b:Nat} {T:TypeId} {cs:Array Value} (h:Ob w b T cs) {i:Nat} {v:Value} (hv:cs[i]? = some v):w.cell? ⟨b,i,none⟩=some v:=by
 rw [cell_of_row _ _ _ _ _ _ h];exact hv
theorem Ob.frozen {w:World} {b:Nat} {T:TypeId} {cs:Array Value} (h:Ob w b T cs) (i:Nat):w.frozen? ⟨b,i,none⟩=false:=frozen_of_row _ _ _ _ _ h
theorem frSub {S T:List Nat} {w w' w'':World} (h:Fr S w w') (k:Fr T w' w'') (hT:∀ i,i∈T→i∈S):Fr S w w'':=h.trans (k.mono hT)
structure Cf where
 t:Int
 c:Int
 wd:Int
 v:Int
def Cf.val (c:Cf):Value:=.agg #[.int .i64 c.t,.int .i64 c.c,.int .i64 c.wd,.int .i64 c.v]
structure Cf.Ok (c:Cf):Prop where
 t1:1≤c.t
 t8:c.t≤8
 c2:c.t+2≤c.c
 c16:c.c≤16
 w1:1≤c.wd
 w2:c.wd≤20000
 v1:1≤c.v
 v2:c.v≤1048576
 top:21+c.t+3 * c.c≤c.wd
def hintP (c:Cf) (k:Int):Int:=3+c.t+k / 16
def headP (c:Cf):Int:=7+c.t
def stAt (a i:Int):Int:=wrap64 (a+7+3 * i)
theorem w64w (a b:Int):wrap64 (wrap64 a+wrap64 b)=wrap64 (a+b):=by unfold wrap64;omega
theorem w64l (a b:Int):wrap64 (wrap64 a+b)=wrap64 (a+b):=by unfold wrap64;omega
theorem w64r (a b:Int):wrap64 (a+wrap64 b)=wrap64 (a+b):=by unfold wrap64;omega
theorem w64i (a:Int):wrap64 (wrap64 a)=wrap64 a:=by unfold wrap64;omega
def Pb (w:World) (b:Nat) (T:TypeId) (pre post cs:Array Value):Prop:=Ob w b T (pre++cs++post)
theorem Pb.lt {w:World} {b:Nat} {T:TypeId} {pre post cs:Array Value} (h:Pb w b T pre post cs):b<w.heap.size:=Ob.lt h
theorem Pb.kept {S:List Nat} {w w':World} {b:Nat} {T:TypeId} {pre post cs:Array Value} (h:Pb w b T pre post cs) (f:Fr S w w') (hb:b∉S):Pb w' b T pre post cs:=Ob.kept h f hb
theorem Pb.up {w w':World} {b:Nat} {T:TypeId} {pre post cs:Array Value} (h:Pb w b T pre post cs) (f:Fr [] w w'):Pb w' b T pre post cs:=Ob.up h f
theorem Pb.frozen {w:World} {b:Nat} {T:TypeId} {pre post cs:Array Value} (h:Pb w b T pre post cs) (i:Nat):w.frozen? ⟨b,i,none⟩=false:=Ob.frozen h i
theorem Pb.cell {w:World} {b:Nat} {T:TypeId} {pre post cs:Array Value} (h:Pb w b T pre post cs) {o:Nat} (ho:pre.size=o) {i:Nat} {v:Value} (hv:cs[i]? = some v):w.cell? ⟨b,o+i,none⟩=some v:=by
 subst ho
 have hi:=(Array.getElem?_eq_some_iff.1 hv).1
 refine Ob.cell h ?_
 rw [Array.getElem?_append_left (by simp;omega),Array.getElem?_append_right (by omega),show pre.size+i - pre.size=i by omega]
 exact hv
theorem Pb.set {w:World} {b:Nat} {T:TypeId} {pre post cs:Array Value} (h:Pb w b T pre post cs) {o:Nat} (ho:pre.size=o) {i:Nat} (hi:i<cs.size) (v:Value):Pb (w.setCell ⟨b,o+i,none⟩ v) b T pre post (cs.setIfInBounds i v):=by
 subst ho
 have:=Ob.set (i:=pre.size+i) h v
 unfold Pb
 have e:(pre++cs++post).setIfInBounds (pre.size+i) v=pre++cs.setIfInBounds i v++post:=by
  apply Array.ext'
  simp only [Array.toList_setIfInBounds,Array.toList_append]
  have h1:pre.toList.length=pre.size:=by simp
  have h2:cs.toList.length=cs.size:=by simp
  rw [List.append_assoc,List.append_assoc,List.set_append_right _ _ (by omega),h1,show pre.size+i - pre.size=i by omega,List.set_append_left _ _ (by omega)]
 rw [← e];exact this
end Go.Proofs.YtjhefbenmhmbcaaDoor.Mx
