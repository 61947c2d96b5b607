/- Parts. -/
import Derived.Test.YtppajakfaomkaaaGreatDoorYaa
import Derived.Test.YtppajakfaomkaaaGreatDoorYaj
import Derived.Laws.BitsAllLaws
import Derived.WalkArith
set_option linter.unusedVariables false
set_option linter.unusedSimpArgs false
set_option maxRecDepth 100000
set_option maxHeartbeats 12800000
namespace Go.Proofs.YtppajakfaomkaaaGreatDoor.Mx
open Go.RowKit Ar Ref
def hd (n a b:Int):Int:=max a (min n b)
theorem q3r (n:Int) {a b:Int} (h:a<=b):a<=hd n a b/\hd n a b<=b:=by unfold hd;omega
theorem w64 {a:Int} (h0:-9223372036854775808<=a) (h1:a<=9223372036854775807):wrap64 a=a:=IntWalk.wrap64_in a ⟨h0,h1⟩
theorem qd6 (a b:Int) (i:Nat) (hi:i<=24) (h0:0<=a) (h1:a<=1073741824) (h2:0<=b) (h3:b<2 ^ i):wrap64 (bits .or .u64 (a * 2 ^ i) b)=a * 2 ^ i+b:=by
 obtain ⟨x,rfl⟩:=Int.eq_ofNat_of_zero_le h0
 obtain ⟨y,rfl⟩:=Int.eq_ofNat_of_zero_le h2
 have hp:2 ^ i<=2 ^ 24:=Nat.pow_le_pow_right (by decide) hi
 have hy:y<2 ^ i:=by
  have:((2 ^ i:Nat):Int)=(2:Int) ^ i:=by simp
  omega
 have hx:x * 2 ^ i<=1073741824 * 2 ^ 24:=Nat.mul_le_mul (by omega) hp
 have e:((x:Int) * 2 ^ i)=((x * 2 ^ i:Nat):Int):=by simp
 rw [e,u64_or_nat _ _ (by omega) (by omega),nat_join i _ _ (Nat.mul_mod_left _ _) hy,IntWalk.wrap64_in _ ⟨by omega,by omega⟩]
 omega
def un (a:Int):Int:=a % 18446744073709551616
theorem Jo (a:Int):IntKind.u64.wrap a=un a:=IntKind.wrap_u64 a
theorem q8b (a:Int):0<=un a/\un a<18446744073709551616:=by unfold un;omega
theorem q06 (a:Int) (i m:Nat) (hm:m+1=2 ^ i) (hi:i<=24):wrap64 (bits .and .u64 (IntKind.u64.wrap a) (m:Int))=a % ((m+1:Nat):Int):=by
 have hb:=q8b a
 rw [Jo]
 obtain ⟨x,hx⟩:=Int.eq_ofNat_of_zero_le hb.1
 have hp:2 ^ i<=2 ^ 24:=Nat.pow_le_pow_right (by decide) hi
 have hpos:0<2 ^ i:=Nat.two_pow_pos i
 have hlt:x % 2 ^ i<2 ^ i:=Nat.mod_lt _ hpos
 rw [hx,u64_and_nat _ _ (by omega) (by omega),show m=2 ^ i - 1 by omega,Nat.and_two_pow_sub_one_eq_mod,IntWalk.wrap64_in _ ⟨by omega,by omega⟩,show 2 ^ i - 1+1=2 ^ i by omega,Int.natCast_emod,<- hx]
 unfold un
 refine Int.emod_emod_of_dvd _ ?_
 have:(18446744073709551616:Nat)=2 ^ i * 2 ^ (64 - i):=by rw [<- Nat.pow_add,show i+(64 - i)=64 by omega]
 exact ⟨((2 ^ (64 - i):Nat):Int),by rw [<- Int.natCast_mul,<- this];rfl⟩
theorem bv_u (a:Int):BitVec.ofInt 64 (IntKind.u64.wrap a)=BitVec.ofInt 64 a:=by
 rw [Jo];unfold un
 apply BitVec.eq_of_toNat_eq
 rw [BitVec.toNat_ofInt,BitVec.toNat_ofInt]
 have:a % 18446744073709551616 % ((2 ^ 64:Nat):Int)=a % ((2 ^ 64:Nat):Int):=by
  rw [show ((2 ^ 64:Nat):Int)=18446744073709551616 by decide];omega
 rw [this]
theorem Wt (n:Int):IntKind.i64.wrap n=wrap64 n:=by unfold wrap64;rw [IntKind.wrap_i64]
theorem qba (a b:Int):bits .and .i64 a b=wrap64 (bits .and .u64 (IntKind.u64.wrap a) b):=by
 show IntKind.i64.wrap ((BitVec.ofInt 64 a &&& BitVec.ofInt 64 b).toNat:Int)=wrap64 (IntKind.u64.wrap ((BitVec.ofInt 64 (IntKind.u64.wrap a) &&& BitVec.ofInt 64 b).toNat:Int))
 rw [bv_u]
 have h:=(BitVec.ofInt 64 a &&& BitVec.ofInt 64 b).isLt
 generalize (BitVec.ofInt 64 a &&& BitVec.ofInt 64 b).toNat=n at *
 rw [IntKind.wrap_u64,show (n:Int) % 18446744073709551616=n by omega]
 exact Wt n
theorem qcs (a b:Int):bits .or .i64 a b=wrap64 (bits .or .u64 a b):=by
 show IntKind.i64.wrap ((BitVec.ofInt 64 a ||| BitVec.ofInt 64 b).toNat:Int)=wrap64 (IntKind.u64.wrap ((BitVec.ofInt 64 a ||| BitVec.ofInt 64 b).toNat:Int))
 have h:=(BitVec.ofInt 64 a ||| BitVec.ofInt 64 b).isLt
 generalize (BitVec.ofInt 64 a ||| BitVec.ofInt 64 b).toNat=n at *
 rw [IntKind.wrap_u64,show (n:Int) % 18446744073709551616=n by omega]
 exact Wt n
theorem Rq (a:Int) (i m:Nat) (hm:m+1=2 ^ i) (hi:i<=24):bits .and .i64 a (m:Int)=a % ((m+1:Nat):Int):=by rw [qba,q06 a i m hm hi]
theorem Wy (a b:Int) (i:Nat) (hi:i<=24) (h0:0<=a) (h1:a<=1073741824) (h2:0<=b) (h3:b<2 ^ i):bits .or .i64 (a * 2 ^ i) b=a * 2 ^ i+b:=by rw [qcs,qd6 a b i hi h0 h1 h2 h3]
theorem Yp {a b:Int} {w:World} (h:a=b):Ending.returned (.int .i64 a) = .returned (.int .i64 b)/\w=w:=⟨by rw [h],rfl⟩
theorem ret_b {a b:Bool} {w:World} (h:a=b):Ending.returned (.bool a) = .returned (.bool b)/\w=w:=⟨by rw [h],rfl⟩
theorem Zr (n a b:Int) (w:World):Calls Tryz.prog 111 #[.int .i64 n,.int .i64 a,.int .i64 b] w fun e w'=>e = .returned (.int .i64 (hd n a b))/\w=w':=by
 generalize hm:hd n a b=m
 have hm':=q9 hm
 clear hm
 go_enter Tryz.func111,Tryz.ntmps111
 go_wp2
 all_goals go_ret
 all_goals exact Yp (by rw [<- hm'.out];unfold hd;(repeat' split at *) <;> omega)
def jv (a:Int) (m:Bool):Int:=hd a 0 1073741824 * 2+(if m then 1 else 0)
def atW (a:Int):Int:=a / 2
def Jy (a:Int):Bool:=decide (a % 2=1)
def vq (v:Int):Int:=hd v 0 16777212+3
def Va (s:Int):Int:=if s<3 then -1 else wrap64 (s - 3)
def Q8 (s p:Int):Int:=hd s 0 1073741824 * 16777216+hd p 0 16777212
def q4n (a:Int):Int:=a / 16777216
def ju (a:Int):Int:=a % 16777216
def Kj (d v:Int):Int:=hd d 0 1048576 * 2097152+(hd v (-1) 1048576+1)
def q9m (a:Int):Int:=a / 2097152
def q47 (a:Int):Int:=a % 2097152 - 1
theorem Vd (a:Int) (m:Bool) (w:World):Calls Tryz.prog 121 #[.int .i64 a,.bool m] w fun e w'=>e = .returned (.int .i64 (jv a m))/\w=w':=by
 have hb:=q3r a (show (0:Int)<=1073741824 by decide)
 have hw:wrap64 (hd a 0 1073741824 * 2)=hd a 0 1073741824 * 2:=w64 (by omega) (by omega)
 have hj:=Wy (hd a 0 1073741824) 1 1 (by decide) hb.1 hb.2 (by decide) (by decide)
 simp only [Int.pow_one,Int.reducePow] at hj
 cases m
 ·go_enter Tryz.func121,Tryz.ntmps121
  go_wp2_with (go_at_call 111;refine (Zr _ _ _ _).mono ?_;rintro e _ ⟨rfl,rfl⟩)
  go_ret
  exact Yp (by unfold jv;simp [hw])
 ·go_enter Tryz.func121,Tryz.ntmps121
  go_wp2_with (go_at_call 111;refine (Zr _ _ _ _).mono ?_;rintro e _ ⟨rfl,rfl⟩)
  go_ret
  exact Yp (by unfold jv;simp [hw,hj])
theorem Vn (a:Int) (w:World):Calls Tryz.prog 72 #[.int .i64 a] w fun e w'=>e = .returned (.int .i64 (atW a))/\w=w':=by
 go_enter Tryz.func72,Tryz.ntmps72
 go_wp2
 go_ret
 exact Yp rfl
theorem Yi (a:Int) (w:World):Calls Tryz.prog 204 #[.int .i64 a] w fun e w'=>e = .returned (.bool (Jy a))/\w=w':=by
 go_enter Tryz.func204,Tryz.ntmps204
 go_wp2
 go_ret
 exact ret_b (by unfold Jy;rw [show bits .and .i64 a 1=a % 2 from Rq a 1 1 (by decide) (by decide),Bool.eq_iff_iff];simp)
theorem X8 (v:Int) (w:World):Calls Tryz.prog 55 #[.int .i64 v] w fun e w'=>e = .returned (.int .i64 (vq v))/\w=w':=by
 go_enter Tryz.func55,Tryz.ntmps55
 go_wp2_with (go_at_call 111;refine (Zr _ _ _ _).mono ?_;rintro e _ ⟨rfl,rfl⟩)
 go_ret
 exact Yp (by unfold vq;have hb:=q3r v (show (0:Int)<=16777212 by decide);first | rfl | (rw [w64 (by omega) (by omega)]))
theorem V5 (s:Int) (w:World):Calls Tryz.prog 56 #[.int .i64 s] w fun e w'=>e = .returned (.int .i64 (Va s))/\w=w':=by
 by_cases c:s<3
 all_goals
  go_enter Tryz.func56,Tryz.ntmps56
  go_wp2
  go_ret
  exact Yp (by unfold Va;first | rw [qf (by omega)] | rw [qd (by omega)])
theorem Vm (a b:Int) (w:World):Calls Tryz.prog 173 #[.int .i64 a,.int .i64 b] w fun e w'=>e = .returned (.int .i64 (Q8 a b))/\w=w':=by
 go_enter Tryz.func173,Tryz.ntmps173
 go_wp2_with (go_at_call 111;refine (Zr _ _ _ _).mono ?_;rintro e _ ⟨rfl,rfl⟩)
 go_ret
 have hb:=q3r a (show (0:Int)<=1073741824 by decide)
 have hc:=q3r b (show (0:Int)<=16777212 by decide)
 have hw:wrap64 (hd a 0 1073741824 * 16777216)=hd a 0 1073741824 * 16777216:=w64 (by omega) (by omega)
 have hj:=Wy (hd a 0 1073741824) (hd b 0 16777212) 24 (by decide) hb.1 hb.2 hc.1 (by simp only [Int.reducePow];omega)
 simp only [Int.reducePow] at hj
 exact Yp (by unfold Q8;rw [<- hj];first | rfl | (simp only [hw]))
theorem q1c (a b:Int) (w:World):Calls Tryz.prog 123 #[.int .i64 a,.int .i64 b] w fun e w'=>e = .returned (.int .i64 (Kj a b))/\w=w':=by
 go_enter Tryz.func123,Tryz.ntmps123
 go_wp2_with (go_at_call 111;refine (Zr _ _ _ _).mono ?_;rintro e _ ⟨rfl,rfl⟩)
 go_ret
 have hb:=q3r a (show (0:Int)<=1048576 by decide)
 have hc:=q3r b (show (-1:Int)<=1048576 by decide)
 have hw:wrap64 (hd a 0 1048576 * 2097152)=hd a 0 1048576 * 2097152:=w64 (by omega) (by omega)
 have hw2:wrap64 (hd b (-1) 1048576+1)=hd b (-1) 1048576+1:=w64 (by omega) (by omega)
 have hj:=Wy (hd a 0 1048576) (hd b (-1) 1048576+1) 21 (by decide) hb.1 (by omega) (by omega) (by simp only [Int.reducePow];omega)
 simp only [Int.reducePow] at hj
 exact Yp (by unfold Kj;rw [<- hj];first | rfl | (simp only [hw,hw2]))
theorem q0h (a:Int) (w:World):Calls Tryz.prog 227 #[.int .i64 a] w fun e w'=>e = .returned (.int .i64 (q4n a))/\w=w':=by
 go_enter Tryz.func227,Tryz.ntmps227
 go_wp2
 go_ret
 exact Yp rfl
theorem Y2 (a:Int) (w:World):Calls Tryz.prog 193 #[.int .i64 a] w fun e w'=>e = .returned (.int .i64 (ju a))/\w=w':=by
 go_enter Tryz.func193,Tryz.ntmps193
 go_wp2
 go_ret
 exact Yp (by unfold ju;exact Rq a 24 16777215 (by decide) (by decide))
theorem q5e (a:Int) (w:World):Calls Tryz.prog 133 #[.int .i64 a] w fun e w'=>e = .returned (.int .i64 (q9m a))/\w=w':=by
 go_enter Tryz.func133,Tryz.ntmps133
 go_wp2
 go_ret
 exact Yp rfl
theorem Rp (a:Int) (w:World):Calls Tryz.prog 71 #[.int .i64 a] w fun e w'=>e = .returned (.int .i64 (q47 a))/\w=w':=by
 go_enter Tryz.func71,Tryz.ntmps71
 go_wp2
 go_ret
 exact Yp (by unfold q47;have e:=Rq a 21 2097151 (by decide) (by decide);simp only [Int.reduceToNat,Nat.reduceAdd] at e;first | (rw [e];done) | (have h1:=Int.emod_nonneg a (show (2097152:Int)≠0 by decide);have h2:=Int.emod_lt_of_pos a (show (0:Int)<2097152 by decide);simp [e];omega) | (rw [show bits .and .i64 a 2097151=a % 2097152 from e];have h1:=Int.emod_nonneg a (show (2097152:Int)≠0 by decide);have h2:=Int.emod_lt_of_pos a (show (0:Int)<2097152 by decide);exact w64 (by omega) (by omega)))
def Ob (w:World) (b:Nat) (T:TypeId) (cs:Array Value):Prop:=w.heap[b]? = some (.cells cs T (0,0))
theorem Ob.lt {w:World} {b:Nat} {T:TypeId} {cs:Array Value} (h:Ob w b T cs):b<w.heap.size:=(Array.getElem?_eq_some_iff.1 h).1
theorem Ob.kept {S:List Nat} {w w':World} {b:Nat} {T:TypeId} {cs:Array Value} (h:Ob w b T cs) (f:Fr S w w') (hb:b∉S):Ob w' b T cs:=f.heap h hb
theorem Ob.up {w w':World} {b:Nat} {T:TypeId} {cs:Array Value} (h:Ob w b T cs) (f:Fr [] w w'):Ob w' b T cs:=f.heap h (by simp)
theorem Ob.set {w:World} {b i:Nat} {T:TypeId} {cs:Array Value} (h:Ob w b T cs) (v:Value):Ob (w.setCell ⟨b,i,none⟩ v) b T (cs.setIfInBounds i v):=heap_setCell_same _ b i _ _ v h
theorem Ob.other {w:World} {b b' i:Nat} {T:TypeId} {cs:Array Value} (h:Ob w b T cs) (hb:b≠b') (v:Value):Ob (w.setCell ⟨b',i,none⟩ v) b T cs:=by
 unfold Ob;rw [heap_setCell_other _ _ _ _ hb];exact h
theorem Ob.new (w:World) (T:TypeId) (cs:Array Value):Ob (w.alloc (.cells cs T (0,0))) w.heap.size T cs:=Go.heap_alloc_new w _
theorem Vg (w:World) (o:Obj):(w.alloc o).heap.size=w.heap.size+1:=by unfold World.alloc;simp
theorem Ob.newAt {w:World} {n:Nat} (hs:w.heap.size=n) (T:TypeId) (cs:Array Value):Ob (w.alloc (.cells cs T (0,0))) n T cs:=by subst hs;exact Ob.new w T cs
theorem Ob.alloc {w:World} {b:Nat} {T:TypeId} {cs:Array Value} (h:Ob w b T cs) (o:Obj):Ob (w.alloc o) b T cs:=h.up ((Fr.refl [] w).alloc o)
theorem Ob.cell {w:World} {b:Nat} {T:TypeId} {cs:Array Value} (h:Ob w b T cs) {i:Nat} {v:Value} (hv:cs[i]? = some v):w.cell? ⟨b,i,none⟩=some v:=by
 rw [cell_of_row _ _ _ _ _ _ h];exact hv
theorem Ob.frozen {w:World} {b:Nat} {T:TypeId} {cs:Array Value} (h:Ob w b T cs) (i:Nat):w.frozen? ⟨b,i,none⟩=false:=frozen_of_row _ _ _ _ _ h
theorem Ob.ne {w:World} {b b':Nat} {T T':TypeId} {cs cs':Array Value} (h:Ob w b T cs) (k:Ob w b' T' cs') (hT:T≠T'):b≠b':=by
 rintro rfl
 unfold Ob at h k
 rw [h] at k
 simp only [Option.some.injEq,Obj.cells.injEq] at k
 exact hT k.2.1
theorem _root_.Go.Proofs.YtppajakfaomkaaaGreatDoor.Ref.Rar.set {w:World} {p q b i:Nat} {s:St} (h:Rar w p q s) (hp:b≠p) (hq:b≠q) (v:Value):Rar (w.setCell ⟨b,i,none⟩ v) p q s :=
 h.kept (Fr.setCell (S:=[b]) v (List.mem_singleton.2 rfl)) (by simpa using hp.symm) (by simpa using hq.symm)
theorem zm {S T:List Nat} {w w' w'':World} (h:Fr S w w') (k:Fr T w' w'') (hT:∀ i,i∈T->i∈S):Fr S w w'':=h.trans (k.mono hT)
structure Cf where
 t:Int
 c:Int
 wd:Int
 v:Int
def Cf.val (c:Cf):Value:=.agg #[.int .i64 c.t,.int .i64 c.c,.int .i64 c.wd,.int .i64 c.v]
structure Cf.Ok (c:Cf):Prop where
 t1:1<=c.t
 t8:c.t<=8
 c2:c.t+2<=c.c
 c16:c.c<=16
 w1:1<=c.wd
 w2:c.wd<=20000
 v1:1<=c.v
 v2:c.v<=1048576
 top:21+c.t+3 * c.c<=c.wd
def za (c:Cf):Int:=7+3 * c.c
def q9x (t:Int):Int:=3+t
def Zw (c:Cf) (k:Int):Int:=3+c.t+k / 16
def xm (c:Cf):Int:=7+c.t
def ku (c:Cf):Int:=14+c.t
def topP (c:Cf):Int:=21+c.t+3 * c.c
def Qg (a i:Int):Int:=wrap64 (a+7+3 * i)
theorem w64w (a b:Int):wrap64 (wrap64 a+wrap64 b)=wrap64 (a+b):=by unfold wrap64;omega
theorem w64l (a b:Int):wrap64 (wrap64 a+b)=wrap64 (a+b):=by unfold wrap64;omega
theorem w64r (a b:Int):wrap64 (a+wrap64 b)=wrap64 (a+b):=by unfold wrap64;omega
theorem w64i (a:Int):wrap64 (wrap64 a)=wrap64 a:=by unfold wrap64;omega
theorem xy (a i:Int) (w:World):Calls Tryz.prog 54 #[.int .i64 a,.int .i64 i] w fun e w'=>e = .returned (.int .i64 (Qg a i))/\w=w':=by
 go_enter Tryz.func54,Tryz.ntmps54
 go_wp2
 go_ret
 exact Yp (by unfold Qg;first | rw [w64w] | (simp only [w64l,w64r,w64i,w64w]))
def Pb (w:World) (b:Nat) (T:TypeId) (pre post cs:Array Value):Prop:=Ob w b T (pre++cs++post)
theorem Pb.lt {w:World} {b:Nat} {T:TypeId} {pre post cs:Array Value} (h:Pb w b T pre post cs):b<w.heap.size:=Ob.lt h
theorem Pb.kept {S:List Nat} {w w':World} {b:Nat} {T:TypeId} {pre post cs:Array Value} (h:Pb w b T pre post cs) (f:Fr S w w') (hb:b∉S):Pb w' b T pre post cs:=Ob.kept h f hb
theorem Pb.up {w w':World} {b:Nat} {T:TypeId} {pre post cs:Array Value} (h:Pb w b T pre post cs) (f:Fr [] w w'):Pb w' b T pre post cs:=Ob.up h f
theorem Pb.frozen {w:World} {b:Nat} {T:TypeId} {pre post cs:Array Value} (h:Pb w b T pre post cs) (i:Nat):w.frozen? ⟨b,i,none⟩=false:=Ob.frozen h i
theorem Pb.cell {w:World} {b:Nat} {T:TypeId} {pre post cs:Array Value} (h:Pb w b T pre post cs) {o:Nat} (ho:pre.size=o) {i:Nat} {v:Value} (hv:cs[i]? = some v):w.cell? ⟨b,o+i,none⟩=some v:=by
 subst ho
 have hi:=(Array.getElem?_eq_some_iff.1 hv).1
 refine Ob.cell h ?_
 rw [Array.getElem?_append_left (by simp;omega),Array.getElem?_append_right (by omega),show pre.size+i - pre.size=i by omega]
 exact hv
theorem Pb.set {w:World} {b:Nat} {T:TypeId} {pre post cs:Array Value} (h:Pb w b T pre post cs) {o:Nat} (ho:pre.size=o) {i:Nat} (hi:i<cs.size) (v:Value):Pb (w.setCell ⟨b,o+i,none⟩ v) b T pre post (cs.setIfInBounds i v):=by
 subst ho
 have:=Ob.set (i:=pre.size+i) h v
 unfold Pb
 have e:(pre++cs++post).setIfInBounds (pre.size+i) v=pre++cs.setIfInBounds i v++post:=by
  apply Array.ext'
  simp only [Array.toList_setIfInBounds,Array.toList_append]
  have h1:pre.toList.length=pre.size:=by simp
  have h2:cs.toList.length=cs.size:=by simp
  rw [List.append_assoc,List.append_assoc,List.set_append_right _ _ (by omega),h1,show pre.size+i - pre.size=i by omega,List.set_append_left _ _ (by omega)]
 rw [<- e];exact this
end Go.Proofs.YtppajakfaomkaaaGreatDoor.Mx
