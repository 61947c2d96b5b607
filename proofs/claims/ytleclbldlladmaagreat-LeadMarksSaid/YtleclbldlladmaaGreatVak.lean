/- Parts. -/
import Derived.Test.YtleclbldlladmaaGreatVaa
import Derived.Test.YtleclbldlladmaaGreatVad
import Derived.DeepKeys4
import Derived.WideKeyPair
set_option linter.unusedVariables false
set_option linter.unusedSimpArgs false
set_option maxRecDepth 100000
set_option maxHeartbeats 12800000
namespace Go.Proofs.YtleclbldlladmaaGreat.Og
open Go.RowKit Go.Maps Ar
def sv (k f:Int):Value:=.agg #[.int .i64 k,.int .i64 f]
def sl (k f:Int):Lit:=.string (keyBytes [.int .i64 k,.int .i64 f])
def most (k f:Int):Option Int :=
 if k=1/\f=0 then some 63 else if k=1/\f=1 then some 1048576 else if k=2/\f=0 then some 63 else if k=3/\f=0 then some 63 else if k=4/\f=0 then some 63 else if k=4/\f=2 then some 63 else none
def inF (k f x:Int):Bool:=decide (0<=x) && decide (x<=(most k f).getD 0)
def fit (k ky v t:Int):Bool:=(most k 0).isSome && (inF k 0 ky && (inF k 1 v && inF k 2 t))
end Go.Proofs.YtleclbldlladmaaGreat.Og
namespace Go.Proofs.YtleclbldlladmaaGreat.Ro
open Go.RowKit Go.Maps Ar Og
def Tq (k:Int):Bool:=decide (0<=k) && decide (k<=63)
theorem Kb (k:Int) (w:World):Calls Tryz.prog 64 #[.int .i64 k] w fun e w'=>e = .returned (.bool (Tq k))/\w=w':=by
 go_enter Tryz.func64,Tryz.ntmps64;by_cases h:0<=k
 ·have g:decide (k≥0)=true:=by simpa using h
  go_wp2;go_ret;exact ⟨by simp [Tq,h],rfl⟩
 ·have g:decide (k≥0)=false:=by simpa using h
  have e:Tq k=false:=by unfold Tq;simp;omega
  go_wp2;go_ret;exact ⟨by first | rfl | (rw [e];rfl),rfl⟩
theorem qdj (ky v t:Int):fit 1 ky v t=(Tq ky && (decide (0<=v) && (decide (v<=1048576) && (t == 0)))):=Hn
theorem q1h (k ky v t:Int) (h:k=2\/k=3):fit k ky v t=(Tq ky && ((v == 0) && (t == 0))):=by
 rcases h with rfl | rfl
 all_goals
  unfold fit inF most Tq
  rw [Bool.eq_iff_iff];simp;omega
theorem qdn (ky v t:Int):fit 4 ky v t=(Tq ky && (Tq t && (v == 0))):=Hn
theorem fit0 (k ky v t:Int) (h:k≠1/\k≠2/\k≠3/\k≠4):fit k ky v t=false:=by unfold fit most;simp [h.1,h.2.1,h.2.2.1,h.2.2.2]
theorem q91 (k ky v t:Int) (w:World) :
  Calls Tryz.prog 45 #[.agg #[.int .i64 k,.int .i64 ky,.int .i64 v,.int .i64 t]] w fun e w'=>e = .returned (.bool (fit k ky v t))/\Fr [] w w':=by
 have F:=(Fr.refl [] w).alloc (.cells #[.int .i64 k,.int .i64 ky,.int .i64 v,.int .i64 t] 86);go_enter Tryz.func45,Tryz.ntmps45;by_cases e1:k=1
 ·subst e1;go_wp2_with fail;refine (Kb ky _).mono ?_;rintro e w' ⟨rfl,rfl⟩;cases hb:Tq ky with
  | false=>go_wp2;go_ret;exact ⟨by rw [qdj,hb];rfl,F⟩
  | true =>
   by_cases h1:0<=v
   ·have g1:decide (v≥0)=true:=by simpa using h1
    by_cases h2:v<=1048576
    ·have g2:decide (v<=1048576)=true:=by simpa using h2
     go_wp2;go_ret;exact ⟨by rw [qdj,hb];simp [h1,h2],F⟩
    ·have g2:decide (v<=1048576)=false:=by simpa using h2
     exact Hs
   ·have g1:decide (v≥0)=false:=by simpa using h1
    exact Hs
 by_cases e2:k=2
 ·subst e2;go_wp2_with fail;refine (Kb ky _).mono ?_;rintro e w' ⟨rfl,rfl⟩;cases hb:Tq ky with
  | false=>go_wp2;go_ret;exact ⟨by rw [q1h _ _ _ _ (.inl rfl),hb];rfl,F⟩
  | true =>
   cases hv:v == 0 with
   | true=>go_wp2;go_ret;exact ⟨by rw [q1h _ _ _ _ (.inl rfl),hb,hv];rfl,F⟩
   | false=>go_wp2;go_ret;exact ⟨by rw [q1h _ _ _ _ (.inl rfl),hb,hv];rfl,F⟩
 by_cases e3:k=3
 ·subst e3;go_wp2_with fail;refine (Kb ky _).mono ?_;rintro e w' ⟨rfl,rfl⟩;cases hb:Tq ky with
  | false=>go_wp2;go_ret;exact ⟨by rw [q1h _ _ _ _ (.inr rfl),hb];rfl,F⟩
  | true =>
   cases hv:v == 0 with
   | true=>go_wp2;go_ret;exact ⟨by rw [q1h _ _ _ _ (.inr rfl),hb,hv];rfl,F⟩
   | false=>go_wp2;go_ret;exact ⟨by rw [q1h _ _ _ _ (.inr rfl),hb,hv];rfl,F⟩
 by_cases e4:k=4
 ·subst e4;go_wp2_with fail;refine (Kb ky _).mono ?_;rintro e w' ⟨rfl,rfl⟩;cases hb:Tq ky with
  | false=>go_wp2;go_ret;exact ⟨by rw [qdn,hb];rfl,F⟩
  | true =>
   go_wp2_with fail;refine (Kb t _).mono ?_;rintro e w' ⟨rfl,rfl⟩;cases ht:Tq t with
   | true=>go_wp2;go_ret;exact ⟨by rw [qdn,hb,ht];rfl,F⟩
   | false=>go_wp2;go_ret;exact ⟨by rw [qdn,hb,ht];rfl,F⟩
 have g1:(k == 1)=false:=by simp [e1]
 have g2:(k == 2)=false:=by simp [e2]
 have g3:(k == 3)=false:=by simp [e3]
 have g4:(k == 4)=false:=by simp [e4]
 have hf:=fit0 k ky v t ⟨e1,e2,e3,e4⟩;clear e1 e2 e3 e4;go_wp2;go_ret;exact ⟨by rw [hf];rfl,F⟩
end Go.Proofs.YtleclbldlladmaaGreat.Ro
