/- Texts that this proof leans on, one behind the other: View, Pairs. -/
import Derived.Test.YtjhefbenmhmbcaaDoorQaa
import Derived.Test.YtjhefbenmhmbcaaDoorQad
import Derived.Test.YtjhefbenmhmbcaaDoorQae
import Derived.Test.YtjhefbenmhmbcaaDoorQaf
import Derived.ChangeKeysEq
import Derived.WalkSpells
set_option linter.unusedVariables false
set_option linter.unusedSimpArgs false
set_option maxRecDepth 100000
set_option maxHeartbeats 12800000
namespace Go.Proofs.YtjhefbenmhmbcaaDoor.Vw
open Go.RowKit Go.Proofs.YtjhefbenmhmbcaaDoor.Ar Go.Proofs.YtjhefbenmhmbcaaDoor.Mx
def verV (s:Int):Int:=if s<3 then -1 else wrap64 (s - 3)
theorem version_any (s:Int) (w:World):Calls Tryd.prog 55 #[.int .i64 s] w fun e w'=>e = .returned (.int .i64 (verV s))∧w=w':=by
 by_cases c:s<3
 all_goals
  go_enter Tryd.func55,Tryd.ntmps55
  go_wp2
  go_ret
  exact ret_int (by unfold verV;first | (rw [if_pos (by omega)];done) | (rw [if_neg (by omega)];done))
end Go.Proofs.YtjhefbenmhmbcaaDoor.Vw
namespace Go.Proofs.YtjhefbenmhmbcaaDoor.Mp
open Go.RowKit Go.Proofs.YtjhefbenmhmbcaaDoor.Ar
def PairRow (w:World) (v:Value) (ps:List (Int×Int)):Prop:=∃ (a:Option Addr) (cap:Nat),v = .slice a ps.length cap∧ps.length≤maxLen ∧
 (ps.length=0∨∃ b off,a=some ⟨b,off,none⟩∧b<w.heap.size∧∀ i,i<ps.length→w.cell? ⟨b,off+i * 2,none⟩=some (.int .i64 (ps.getD i (0,0)).1)∧w.cell? ⟨b,off+i * 2+1,none⟩=some (.int .i64 (ps.getD i (0,0)).2))
theorem cellUp {w w':World} (f:Fr [] w w') {b i:Nat} {v:Value} (h:w.cell? ⟨b,i,none⟩=some v):w'.cell? ⟨b,i,none⟩=some v:=f.cell h (by simp)
theorem PairRow.up {w w':World} {v:Value} {ps:List (Int×Int)} (h:PairRow w v ps) (f:Fr [] w w'):PairRow w' v ps:=by
 obtain ⟨a,cap,h1,h2,h4⟩:=h
 refine ⟨a,cap,h1,h2,?_⟩
 rcases h4 with h | ⟨b,off,h5,h6,h7⟩
 ·exact .inl h
 ·refine .inr ⟨b,off,h5,Nat.lt_of_lt_of_le h6 f.size,fun i hi=>?_⟩
  obtain ⟨c0,c1⟩:=h7 i hi
  exact ⟨cellUp f c0,cellUp f c1⟩
structure An where
 code:Int
 found:Bool
 val:Int
 writer:Int
 version:Int
 pairs:List (Int×Int)
def ansv (a:An) (pv:Value):Value:=.agg #[.int .i64 a.code,.bool a.found,.int .i64 a.val,.int .i64 a.writer,.int .i64 a.version,pv]
theorem pairGuard:Tryd.prog.eqGuardType Tryd.prog.depth 84=false:=by kernel_rfl
theorem pair_neq (k i:Int) (W:World):(binOp .neq 84 (.agg #[.int .i64 k,.int .i64 i]) (.agg #[.int .i64 k,.int .i64 i])).run Tryd.prog W = .ok (.bool false) W:=by
 have u3:=Tryd.underlying3
 have a3:(isAgg 3).run Tryd.prog W = .ok false W:=by kernel_rfl
 have hS:Tryd.prog.underlying 84=some (.struct (Tryd.prog.fieldsOf 84)):=by kernel_rfl
 have hp:Tryd.prog.stoodInHeld 84=false:=by kernel_rfl
 rw [run_neq_struct,show (10000:Nat)=9999+1 from rfl,run_equalIn_agg W 9999 84 _ _ hS hp]
 simp only [Program.fieldsOf,Tryd.underlying84]
 go_simp
def PrAt (w:World) (n:Nat) (x:Value) (wr:World):Prop:=∃ k:Nat,k≤n∧x = .int .i64 k∧Fr [] w wr
theorem samePairs_true (ps:List (Int×Int)) (u v:Value) (w:World) (hx:PairRow w u ps) (hy:PairRow w v ps):Calls Tryd.prog 24 #[u,v] w fun e w'=>e = .returned (.bool true)∧Fr [] w w':=by
 obtain ⟨a,cap,rfl,hl,hc⟩:=hx
 obtain ⟨a2,cap2,rfl,-,hc2⟩:=hy
 have HC:=Lib.hid hc
 have HC2:=Lib.hid hc2
 clear hc hc2
 unfold maxLen at hl
 have hG:=pairGuard
 go_enter Tryd.func24,Tryd.ntmps24
 go_wp2_with fail
 go_loopw [5] (PrAt w ps.length) (fun x _=>ps.length - (intOf x).toNat)
 case atStart=>exact ⟨0,Nat.zero_le _,rfl,Fr.refl _ _⟩
 case round =>
  obtain ⟨n,hn,rfl,Fw⟩:=hrel
  by_cases hlt:n<ps.length
  ·rcases HC.out with hz | ⟨b,off,rfl,hb,hcell⟩
   ·omega
   rcases HC2.out with hz | ⟨b2,off2,rfl,hb2,hcell2⟩
   ·omega
   obtain ⟨c0,c1⟩:=hcell n hlt
   obtain ⟨d0,d1⟩:=hcell2 n hlt
   have k0:=In.cell (cellUp Fw c0)
   have k1:=In.cell (cellUp Fw c1)
   have l0:=In.cell (cellUp Fw d0)
   have l1:=In.cell (cellUp Fw d1)
   have hne:=pair_neq (ps.getD n (0,0)).1 (ps.getD n (0,0)).2
   generalize (ps.getD n (0,0))=pr at *
   obtain ⟨p1,p2⟩:=pr
   simp only at k0 k1 l0 l1 hne
   clear hcell hcell2 c0 c1 d0 d1
   go_wp2_with fail
   refine wiq ?_
   repeat (go_big_quiet_step (fail))
   refine wpQuiet_nil ?_
   intro w1 F1
   clear k0 k1 l0 l1 hne hG
   go_wp2
   go_roundw
   case rel=>exact ⟨n+1,by omega,by go_num,Fw.trans F1⟩
   case measure=>simp [intOf];omega
  ·obtain rfl:n=ps.length:=by omega
   clear hG
   go_wp2
   go_ret
   exact ⟨rfl,Fw⟩
theorem sameAnswer_true (a:An) (u v:Value) (w:World) (hx:PairRow w u a.pairs) (hy:PairRow w v a.pairs):Calls Tryd.prog 10 #[ansv a u,ansv a v] w fun e w'=>e = .returned (.bool true)∧Fr [] w w':=by
 obtain ⟨code,found,val,writer,version,pairs⟩:=a
 simp only [ansv]
 have G:=((Fr.refl [] w).alloc (.cells #[.int .i64 code,.bool found,.int .i64 val,.int .i64 writer,.int .i64 version,u] 30)).alloc (.cells #[.int .i64 code,.bool found,.int .i64 val,.int .i64 writer,.int .i64 version,v] 30)
 go_enter Tryd.func10,Tryd.ntmps10
 go_wp2_with fail
 refine (samePairs_true pairs u v _ (hx.up G) (hy.up G)).mono ?_;rintro e w1 ⟨rfl,F1⟩
 go_wp2
 go_ret
 exact ⟨rfl,G.trans F1⟩
end Go.Proofs.YtjhefbenmhmbcaaDoor.Mp
