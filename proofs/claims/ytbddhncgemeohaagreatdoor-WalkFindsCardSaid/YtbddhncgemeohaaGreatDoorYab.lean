/- Parts. -/
import Derived.Test.YtbddhncgemeohaaGreatDoorYaa
set_option linter.unusedVariables false
set_option linter.unusedSimpArgs false
set_option maxRecDepth 100000
set_option maxHeartbeats 12800000
namespace Go.Proofs.YtbddhncgemeohaaGreatDoor.Og
open Go.RowKit Go.Maps Ar
def inF (k f x:Int):Bool:=decide (0<=x) && decide (x<=(most k f).getD 0)
def fit (k ky v t:Int):Bool:=(most k 0).isSome && (inF k 0 ky && (inF k 1 v && inF k 2 t))
end Go.Proofs.YtbddhncgemeohaaGreatDoor.Og
namespace Go.Proofs.YtbddhncgemeohaaGreatDoor.Ro
open Go.RowKit Go.Maps Ar Og
def Tq (k:Int):Bool:=decide (0<=k) && decide (k<=63)
theorem Jn (k:Int) (w:World):Calls Tryz.prog 59 #[.int .i64 k] w fun e w'=>e = .returned (.bool (Tq k))/\w=w':=by
 go_enter Tryz.func59,Tryz.ntmps59;by_cases h:0<=k
 ·have g:decide (k≥0)=true:=by simpa using h
  go_wp2;go_ret;exact ⟨by simp [Tq,h],rfl⟩
 ·have g:decide (k≥0)=false:=by simpa using h
  have e:Tq k=false:=by unfold Tq;simp;omega
  go_wp2;go_ret;exact ⟨by first | rfl | (rw [e];rfl),rfl⟩
theorem qd5 (ky v t:Int):fit 1 ky v t=(Tq ky && (decide (0<=v) && (decide (v<=1048576) && (t == 0)))):=I0
theorem q19 (k ky v t:Int) (h:k=2\/k=3):fit k ky v t=(Tq ky && ((v == 0) && (t == 0))):=by
 rcases h with rfl | rfl
 all_goals
  unfold fit inF most Tq
  rw [Bool.eq_iff_iff];simp;omega
theorem qe0 (ky v t:Int):fit 4 ky v t=(Tq ky && (Tq t && (v == 0))):=I0
theorem fit0 (k ky v t:Int) (h:k≠1/\k≠2/\k≠3/\k≠4):fit k ky v t=false:=by unfold fit most;simp [h.1,h.2.1,h.2.2.1,h.2.2.2]
theorem q8c (k ky v t:Int) (w:World) :
  Calls Tryz.prog 44 #[.agg #[.int .i64 k,.int .i64 ky,.int .i64 v,.int .i64 t]] w fun e w'=>e = .returned (.bool (fit k ky v t))/\Fr [] w w':=by
 have F:=(Fr.refl [] w).alloc (.cells #[.int .i64 k,.int .i64 ky,.int .i64 v,.int .i64 t] 84);go_enter Tryz.func44,Tryz.ntmps44;by_cases e1:k=1
 ·subst e1;go_wp2_with fail;refine (Jn ky _).mono ?_;rintro e w' ⟨rfl,rfl⟩;cases hb:Tq ky with
  | false=>go_wp2;go_ret;exact ⟨by rw [qd5,hb];rfl,F⟩
  | true =>
   by_cases h1:0<=v
   ·have g1:decide (v≥0)=true:=by simpa using h1
    by_cases h2:v<=1048576
    ·have g2:decide (v<=1048576)=true:=by simpa using h2
     go_wp2;go_ret;exact ⟨by rw [qd5,hb];simp [h1,h2],F⟩
    ·have g2:decide (v<=1048576)=false:=by simpa using h2
     exact I4
   ·have g1:decide (v≥0)=false:=by simpa using h1
    exact I4
 by_cases e2:k=2
 ·subst e2;go_wp2_with fail;refine (Jn ky _).mono ?_;rintro e w' ⟨rfl,rfl⟩;cases hb:Tq ky with
  | false=>go_wp2;go_ret;exact ⟨by rw [q19 _ _ _ _ (.inl rfl),hb];rfl,F⟩
  | true =>
   cases hv:v == 0 with
   | true=>go_wp2;go_ret;exact ⟨by rw [q19 _ _ _ _ (.inl rfl),hb,hv];rfl,F⟩
   | false=>go_wp2;go_ret;exact ⟨by rw [q19 _ _ _ _ (.inl rfl),hb,hv];rfl,F⟩
 by_cases e3:k=3
 ·subst e3;go_wp2_with fail;refine (Jn ky _).mono ?_;rintro e w' ⟨rfl,rfl⟩;cases hb:Tq ky with
  | false=>go_wp2;go_ret;exact ⟨by rw [q19 _ _ _ _ (.inr rfl),hb];rfl,F⟩
  | true =>
   cases hv:v == 0 with
   | true=>go_wp2;go_ret;exact ⟨by rw [q19 _ _ _ _ (.inr rfl),hb,hv];rfl,F⟩
   | false=>go_wp2;go_ret;exact ⟨by rw [q19 _ _ _ _ (.inr rfl),hb,hv];rfl,F⟩
 by_cases e4:k=4
 ·subst e4;go_wp2_with fail;refine (Jn ky _).mono ?_;rintro e w' ⟨rfl,rfl⟩;cases hb:Tq ky with
  | false=>go_wp2;go_ret;exact ⟨by rw [qe0,hb];rfl,F⟩
  | true =>
   go_wp2_with fail;refine (Jn t _).mono ?_;rintro e w' ⟨rfl,rfl⟩;cases ht:Tq t with
   | true=>go_wp2;go_ret;exact ⟨by rw [qe0,hb,ht];rfl,F⟩
   | false=>go_wp2;go_ret;exact ⟨by rw [qe0,hb,ht];rfl,F⟩
 have g1:(k == 1)=false:=by simp [e1]
 have g2:(k == 2)=false:=by simp [e2]
 have g3:(k == 3)=false:=by simp [e3]
 have g4:(k == 4)=false:=by simp [e4]
 have hf:=fit0 k ky v t ⟨e1,e2,e3,e4⟩;clear e1 e2 e3 e4;go_wp2;go_ret;exact ⟨by rw [hf];rfl,F⟩
end Go.Proofs.YtbddhncgemeohaaGreatDoor.Ro
namespace Go.Proofs.YtbddhncgemeohaaGreatDoor.Og
open Go.RowKit Ar
def thr (x:Int):Int:=if 0<=x/\x<8000 then x / 1000 else -1
def ind (x:Int):Int:=if 0<=x/\x<8000 then x % 1000 else -1
end Go.Proofs.YtbddhncgemeohaaGreatDoor.Og
namespace Go.Proofs.YtbddhncgemeohaaGreatDoor.Ref
open Go.RowKit Ar
def q08 (s:St) (q cap:Nat):Array Value :=
 #[.slice (some ⟨q,0,none⟩) s.l.length cap,.int .i64 s.n,.int .i64 s.a.kind,.int .i64 s.a.at_,.int .i64 s.a.old,.int .i64 s.a.new,.bool s.a.ok]
structure Rar (w:World) (p q:Nat) (s:St):Prop where
 ne:p≠q
 lo:1<=s.l.length
 hi:s.l.length<=20000
 mem:∃ cap c,w.heap[p]? = some (.cells (q08 s q cap) 40 (0,0))/\s.l.length<=cap/\cap<=maxLen /\
  w.heap[q]? = some (.cells c 3 (0,0))/\c.size=cap/\∀ i,i<s.l.length->c[i]? = some (.int .i64 (nth s.l i))
theorem Rar.lt {w:World} {p q:Nat} {s:St} (h:Rar w p q s):p<w.heap.size/\q<w.heap.size:=by obtain ⟨ne,lo,hi,cap,c,hp,hc1,hc2,hq,hs,hc⟩:=h;exact Gi
theorem Zy {w:World} {p q:Nat} {s:St} (h:Rar w p q s):∃ cap,s.l.length<=cap/\w.cell? ⟨p,0,none⟩=some (.slice (some ⟨q,0,none⟩) s.l.length cap)/\w.cell? ⟨p,1,none⟩=some (.int .i64 s.n)/\w.cell? ⟨p,2,none⟩=some (.int .i64 s.a.kind) /\
  w.cell? ⟨p,3,none⟩=some (.int .i64 s.a.at_)/\w.cell? ⟨p,4,none⟩=some (.int .i64 s.a.old)/\w.cell? ⟨p,5,none⟩=some (.int .i64 s.a.new)/\w.cell? ⟨p,6,none⟩=some (.bool s.a.ok)/\∀ i,i<s.l.length->w.cell? ⟨q,i,none⟩=some (.int .i64 (nth s.l i)):=by
 obtain ⟨ne,lo,hi,cap,c,hp,hc1,hc2,hq,hs,hc⟩:=h
 exact ⟨cap,hc1,by rw [cell_of_row w p 0 _ _ _ hp];rfl,by rw [cell_of_row w p 1 _ _ _ hp];rfl,by rw [cell_of_row w p 2 _ _ _ hp];rfl,by rw [cell_of_row w p 3 _ _ _ hp];rfl,by rw [cell_of_row w p 4 _ _ _ hp];rfl,by rw [cell_of_row w p 5 _ _ _ hp];rfl,by rw [cell_of_row w p 6 _ _ _ hp];rfl,
  fun i hi=>by rw [cell_of_row w q i _ _ _ hq];exact hc i hi⟩
theorem Rar.kept {w w':World} {p q:Nat} {s:St} {S:List Nat} (h:Rar w p q s) (f:Fr S w w') (hp:p∉S:=by simp) (hq:q∉S:=by simp):Rar w' p q s:=by have hlt:=h.lt;obtain ⟨ne,lo,hi,cap,c,h1,h2,h3,h4,h5,h6⟩:=h;exact ⟨ne,lo,hi,cap,c,(f.block p hlt.1 hp).trans h1,h2,h3,(f.block q hlt.2 hq).trans h4,h5,h6⟩
theorem Wo (w:World) (p q:Nat) (s:St) (k:Nat) (h:Rar w p q s) (hk:k<s.l.length) :
  Calls Tryz.prog 40 #[.pointer (some ⟨p,0,none⟩),.int .i64 k] w fun e w'=>e = .returned (.bool true)/\w=w':=by
 obtain ⟨ne,lo,hi,cap,c,hp,hc1,hc2,hq,hs,hc⟩:=h;have h0:w.cell? ⟨p,0,none⟩=some (.slice (some ⟨q,0,none⟩) s.l.length cap):=by rw [cell_of_row w p 0 _ _ _ hp];rfl
 clear hp hq hc;go_enter Tryz.func40,Tryz.ntmps40;exact Bu
theorem Yu (w:World) (p q:Nat) (s:St) (k:Int) (h:Rar w p q s) (hk:k<0\/s.l.length<=k) :
  Calls Tryz.prog 40 #[.pointer (some ⟨p,0,none⟩),.int .i64 k] w fun e w'=>e = .returned (.bool false)/\w=w':=by
 obtain ⟨ne,lo,hi,cap,c,hp,hc1,hc2,hq,hs,hc⟩:=h;have h0:w.cell? ⟨p,0,none⟩=some (.slice (some ⟨q,0,none⟩) s.l.length cap):=by rw [cell_of_row w p 0 _ _ _ hp];rfl
 clear hp hq hc;by_cases hk0:k<0
 ·clear hk;go_enter Tryz.func40,Tryz.ntmps40;exact Bu
 ·have hf:decide (k<(s.l.length:Int))=false:=by simp;omega
  have hk1:0<=k:=by omega
  clear hk hk0;go_enter Tryz.func40,Tryz.ntmps40;go_wp2;go_ret;exact ⟨by simp,rfl⟩
theorem q1h (w:World) (p q:Nat) (s:St) (i:Int) (h:Rar w p q s) :
  Calls Tryz.prog 40 #[.pointer (some ⟨p,0,none⟩),.int .i64 i] w fun e w'=>e = .returned (.bool (q05 s.l i))/\w=w':=by
 rcases Zo s.l i with ⟨k,rfl,hk,e⟩ | ⟨hk,e⟩
 ·rw [e];exact Wo w p q s k h hk
 ·rw [e];exact Yu w p q s i h hk
theorem ja (w:World) (p q:Nat) (s:St) (i:Int) (h:Rar w p q s) :
  Calls Tryz.prog 18 #[.pointer (some ⟨p,0,none⟩),.int .i64 i] w fun e w'=>e = .returned (.int .i64 (qx s.l i))/\w=w':=by
 have h':=h;obtain ⟨ne,lo,hi,cap,c,hp,hc1,hc2,hq,hs,hc⟩:=h;have h0:w.cell? ⟨p,0,none⟩=some (.slice (some ⟨q,0,none⟩) s.l.length cap):=by rw [cell_of_row w p 0 _ _ _ hp];rfl
 rcases Zo s.l i with ⟨k,rfl,hk,e⟩ | ⟨hk,e⟩
 ·have h1:w.cell? ⟨q,k,none⟩=some (.int .i64 (nth s.l k)):=by rw [cell_of_row w q _ _ _ _ hq];exact hc k hk
  rw [U6 hk];clear hp hq hc e;go_enter Tryz.func18,Tryz.ntmps18;go_wp2_with (go_at_call 40;refine (Wo _ p q s k h' hk).mono ?_;rintro e w' ⟨rfl,rfl⟩);go_ret;exact ⟨rfl,rfl⟩
 ·rw [q5g e];clear hp hq hc e;go_enter Tryz.func18,Tryz.ntmps18;go_wp2_with (go_at_call 40;refine (Yu _ p q s i h' hk).mono ?_;rintro e w' ⟨rfl,rfl⟩);go_ret;exact ⟨rfl,rfl⟩
theorem Q3 (w:World) (p q:Nat) (s:St) (i v:Int) (h:Rar w p q s) :
  Calls Tryz.prog 17 #[.pointer (some ⟨p,0,none⟩),.int .i64 i,.int .i64 v] w fun e w'=>e = .returned (.tuple #[])/\Rar w' p q (s.vg i v)/\Fr [q] w w':=by
 have h':=h;obtain ⟨ne,lo,hi,cap,c,hp,hc1,hc2,hq,hs,hc⟩:=h;have h0:w.cell? ⟨p,0,none⟩=some (.slice (some ⟨q,0,none⟩) s.l.length cap):=by rw [cell_of_row w p 0 _ _ _ hp];rfl
 rcases Zo s.l i with ⟨k,rfl,hk,e⟩ | ⟨hk,e⟩
 ·have h1:w.cell? ⟨q,k,none⟩=some (.int .i64 (nth s.l k)):=by rw [cell_of_row w q _ _ _ _ hq];exact hc k hk
  have h2:w.frozen? ⟨q,k,none⟩=false:=frozen_of_row _ _ _ _ _ hq
  have A1:Rar (w.setCell ⟨q,k,none⟩ (.int .i64 v)) p q (s.vg k v):=by
   refine ⟨ne,by simp [St.vg,xd];exact lo,by simp [St.vg,xd];exact hi,cap,_,?_,by simpa [St.vg,xd] using hc1,hc2,heap_setCell_same _ _ _ _ _ _ hq,by simpa using hs,?_⟩
   ·rw [heap_setCell_other _ _ _ _ ne];simpa [q08,St.vg,xd] using hp
   ·intro j hj;exact Bz
  have F1:Fr [q] w (w.setCell ⟨q,k,none⟩ (.int .i64 v)):=Fr.setCell _ Ma;clear hp hq hc e;go_enter Tryz.func17,Tryz.ntmps17;go_wp2_with (go_at_call 40;refine (Wo _ p q s k h' hk).mono ?_;rintro e w' ⟨rfl,rfl⟩);go_end0;exact ⟨rfl,A1,F1⟩
 ·have A1:Rar w p q (s.vg i v):=by rw [show s.vg i v=s by simp [St.vg,q7j v e]];exact h'
  clear hp hq hc e;go_enter Tryz.func17,Tryz.ntmps17;go_wp2_with (go_at_call 40;refine (Yu _ p q s i h' hk).mono ?_;rintro e w' ⟨rfl,rfl⟩);go_end0;exact ⟨rfl,A1,Fr.refl _ _⟩
theorem Z4 (w:World) (p q:Nat) (s:St) (kind i was:Int) (ok:Bool) (h:Rar w p q s) :
  Calls Tryz.prog 116 #[.pointer (some ⟨p,0,none⟩),.int .i64 kind,.int .i64 i,.int .i64 was,.bool ok] w fun e w'=>e = .returned (.tuple #[])/\Rar w' p q (s.note kind i was ok)/\Fr [p] w w':=by
 have h':=h;obtain ⟨ne,lo,hi,cap,c,hp,hc1,hc2,hq,hs,hc⟩:=h;have h2:w.cell? ⟨p,1,none⟩=some (.int .i64 s.n):=by rw [cell_of_row w p 1 _ _ _ hp];rfl
 have h3:w.cell? ⟨p,2,none⟩=some (.int .i64 s.a.kind):=by rw [cell_of_row w p 2 _ _ _ hp];rfl
 have h4:w.cell? ⟨p,3,none⟩=some (.int .i64 s.a.at_):=by rw [cell_of_row w p 3 _ _ _ hp];rfl
 have h5:w.cell? ⟨p,4,none⟩=some (.int .i64 s.a.old):=by rw [cell_of_row w p 4 _ _ _ hp];rfl
 have h6:w.cell? ⟨p,5,none⟩=some (.int .i64 s.a.new):=by rw [cell_of_row w p 5 _ _ _ hp];rfl
 have h7:w.cell? ⟨p,6,none⟩=some (.bool s.a.ok):=by rw [cell_of_row w p 6 _ _ _ hp];rfl
 have hf:∀ j,w.frozen? ⟨p,j,none⟩=false:=fun j=>frozen_of_row _ _ _ _ _ hp
 have hf2:=hf 1;have hf3:=hf 2;have hf4:=hf 3;have hf5:=hf 4;have hf6:=hf 5;have hf7:=hf 6
 have A1:Rar (w.setCell ⟨p,1,none⟩ (.int .i64 (wrap64 (s.n+1)))) p q ⟨s.l,inc s.n,s.a⟩:=by refine ⟨ne,lo,hi,cap,c,heap_setCell_same _ _ _ _ _ _ hp,hc1,hc2,?_,hs,hc⟩;exact I3
 have A2:Rar ((((((w.setCell ⟨p,1,none⟩ (.int .i64 (wrap64 (s.n+1)))).setCell ⟨p,2,none⟩ (.int .i64 kind)).setCell ⟨p,3,none⟩ (.int .i64 i)).setCell ⟨p,4,none⟩ (.int .i64 was)).setCell ⟨p,5,none⟩ (.int .i64 (qx s.l i))).setCell ⟨p,6,none⟩ (.bool ok)) p q (s.note kind i was ok):=by refine ⟨ne,lo,hi,cap,c,heap_setCell_same _ _ _ _ _ _ (heap_setCell_same _ _ _ _ _ _ (heap_setCell_same _ _ _ _ _ _ (heap_setCell_same _ _ _ _ _ _ (heap_setCell_same _ _ _ _ _ _ (heap_setCell_same _ _ _ _ _ _ hp))))),hc1,hc2,?_,hs,hc⟩;exact Hu
 have F2:Fr [p] w ((((((w.setCell ⟨p,1,none⟩ (.int .i64 (wrap64 (s.n+1)))).setCell ⟨p,2,none⟩ (.int .i64 kind)).setCell ⟨p,3,none⟩ (.int .i64 i)).setCell ⟨p,4,none⟩ (.int .i64 was)).setCell ⟨p,5,none⟩ (.int .i64 (qx s.l i))).setCell ⟨p,6,none⟩ (.bool ok)) :=
  (((((Fr.setCell _ Ma).setCell' _ Ma).setCell' _ Ma).setCell' _ Ma).setCell' _ Ma).setCell' _ Ma
 clear hf hp hq hc;go_enter Tryz.func116,Tryz.ntmps116;go_wp2_with fail;go_wp2_with (go_at_call 18;refine (ja _ p q _ i A1).mono ?_;rintro e w' ⟨rfl,rfl⟩);go_end0;exact ⟨rfl,A2,F2⟩
theorem zl (w:World) (p q:Nat) (s:St) (i:Int) (h:Rar w p q s) :
  Calls Tryz.prog 92 #[.pointer (some ⟨p,0,none⟩),.int .i64 i] w fun e w'=>e = .returned (.int .i64 (qx s.l i))/\Rar w' p q (s.load i)/\Fr [p,q] w w':=by
 go_enter Tryz.func92,Tryz.ntmps92;go_wp2_with (go_at_call 18;refine (ja _ p q _ i h).mono ?_;rintro e w' ⟨rfl,rfl⟩);exact Eh
theorem jy (w:World) (p q:Nat) (s:St) (i v:Int) (h:Rar w p q s) :
  Calls Tryz.prog 93 #[.pointer (some ⟨p,0,none⟩),.int .i64 i,.int .i64 v] w fun e w'=>e = .returned (.tuple #[])/\Rar w' p q (s.store i v)/\Fr [p,q] w w':=by
 go_enter Tryz.func93,Tryz.ntmps93;go_wp2_with (go_at_call 18;refine (ja _ p q _ i h).mono ?_;rintro e w' ⟨rfl,rfl⟩);refine (Q3 _ p q s i v h).mono ?_;rintro e w1 ⟨rfl,A1,F1⟩;go_wp2_with fail;refine (Z4 _ p q _ 2 i (qx s.l i) false A1).mono ?_;rintro e w2 ⟨rfl,A2,F2⟩;go_wp2;go_end0;exact Hm
theorem Uo (w:World) (p q:Nat) (s:St) (i v:Int) (h:Rar w p q s) :
  Calls Tryz.prog 106 #[.pointer (some ⟨p,0,none⟩),.int .i64 i,.int .i64 v] w fun e w'=>e = .returned (.int .i64 (qx s.l i))/\Rar w' p q (s.add i v)/\Fr [p,q] w w':=by
 go_enter Tryz.func106,Tryz.ntmps106;go_wp2_with (go_at_call 18;refine (ja _ p q _ i h).mono ?_;rintro e w' ⟨rfl,rfl⟩);refine (Q3 _ p q s i (wrap64 (qx s.l i+v)) h).mono ?_;rintro e w1 ⟨rfl,A1,F1⟩;go_wp2_with fail;refine (Z4 _ p q _ 4 i (qx s.l i) false A1).mono ?_;rintro e w2 ⟨rfl,A2,F2⟩;go_wp2;go_ret;exact Hm
theorem yz (w:World) (p q:Nat) (s:St) (i old v:Int) (h:Rar w p q s) :
  Calls Tryz.prog 107 #[.pointer (some ⟨p,0,none⟩),.int .i64 i,.int .i64 old,.int .i64 v] w fun e w'=>e = .returned (.bool (s.can i old))/\Rar w' p q (s.swap i old v)/\Fr [p,q] w w':=by
 cases hi:q05 s.l i
 ·have hc:s.can i old=false:=by simp [St.can,hi]
  exact Aw
 ·cases ho:(qx s.l i == old)
  ·have hc:s.can i old=false:=by simp [St.can,hi,ho]
   exact Aw
  ·have hc:s.can i old=true:=by simp [St.can,hi,ho]
   rw [hc,show s.swap i old v=(s.vg i v).note 3 i (qx s.l i) true by rw [St.swap,qg hc]];go_enter Tryz.func107,Tryz.ntmps107;go_wp2_with (first | (go_at_call 18;refine (ja _ p q _ i h).mono ?_;rintro e w' ⟨rfl,rfl⟩) | (go_at_call 40;refine (q1h _ p q _ i h).mono ?_;rintro e w' ⟨rfl,rfl⟩));refine (Q3 _ p q s i v h).mono ?_;rintro e w1 ⟨rfl,A1,F1⟩;go_wp2_with fail;refine (Z4 _ p q _ 3 i (qx s.l i) true A1).mono ?_;rintro e w2 ⟨rfl,A2,F2⟩;go_wp2;go_ret;exact Hm
def q8p (w:World) (s:St) (e:Ending) (w':World):Prop:=∃ p q,e = .returned (.pointer (some ⟨p,0,none⟩))/\w.heap.size<=p/\w.heap.size<=q/\Rar w' p q s/\Fr [] w w'
theorem Uk:(Tryz.prog.info? 3).map (fun i=>(i.zero,i.size,i.bytes))=some (some (.int .i64 0),1,8):=by kernel_rfl
theorem q9c {w w1:World} (n:Nat) (lo:1<=n) (hi:n<=20000) (hown:w1.ownsRow 0 3 1 (.slice (some ⟨w.heap.size,0,none⟩) n n) n (madeCells (Value.int .i64 0).cells (n * 1)).toList) (hg:w.grownBy w1 none) (hne:w.heap.size<w1.heap.size) :
  q8p w (St.fresh n) (.returned (.pointer (some ⟨w1.heap.size,0,none⟩))) (w1.alloc (.cells #[.slice (some ⟨w.heap.size,0,none⟩) n n,.int .i64 0,.int .i64 0,.int .i64 0,.int .i64 0,.int .i64 0,.bool false] 40)):=by
 refine ⟨w1.heap.size,w.heap.size,rfl,by omega,Nat.le_refl _,?_,(Fr.grown hg).alloc _⟩;obtain ⟨h1,h2⟩:=hown;rcases h2 with ⟨h2,_⟩ | ⟨g,cap,cur,hv,-,hh,hc1,hc2,hsz,htk⟩
 ·cases h2
 ·simp only [Value.slice.injEq,Option.some.injEq,Addr.mk.injEq] at hv;obtain ⟨⟨rfl,-,-⟩,-,rfl⟩:=hv;refine ⟨by omega,by simpa [St.fresh] using lo,by simpa [St.fresh] using hi,n,cur,?_,by simp [St.fresh],hc2,?_,by simpa using hsz,?_⟩
  ·rw [Go.heap_alloc_new];simp [q08,St.fresh]
  ·rw [heap_alloc_old _ _ hne];exact hh
  ·intro i hi';simp only [St.fresh,List.length_replicate] at hi'
   have e1:cur.toList[i]? = (madeCells (Value.int .i64 0).cells (n * 1)).toList[i]?:=by rw [<- htk,List.getElem?_take_of_lt Ly]
   rw [show (Value.int .i64 0).cells = #[.int .i64 0] from rfl,toList_madeCells_one,List.getElem?_replicate,qg Ly] at e1;exact Ei
theorem Zu (n:Nat) (i:Int) (hn:(i<1/\n=1)\/(1<=i/\i<=20000/\i=n)\/(20000<i/\n=20000)) (w:World) :
  Calls Tryz.prog 46 #[.int .i64 i,.int .i64 1,.int .i64 20000] w fun e w'=>e = .returned (.int .i64 n)/\w=w':=by
 rcases hn with ⟨h1,rfl⟩ | ⟨h1,h2,rfl⟩ | ⟨h1,rfl⟩
 all_goals
  go_enter Tryz.func46,Tryz.ntmps46
  go_wp2
  all_goals go_ret
  all_goals (first | exact ⟨rfl,rfl⟩ | exact q07 Ly)
theorem q2f (n:Nat) (i:Int) (lo:1<=n) (hi:n<=20000) (hn:(i<1/\n=1)\/(1<=i/\i<=20000/\i=n)\/(20000<i/\n=20000)) (w:World) :
  Calls Tryz.prog 26 #[.int .i64 i] w (q8p w (St.fresh n)):=by
 obtain ⟨i0,h0,hz0,hz1,hz2⟩:=info_parts Uk;have HH:=Zu n i hn w;clear hn;go_enter Tryz.func26,Tryz.ntmps26;go_wp2_with (first | (go_at_call 46;refine HH.mono ?_;rintro e w' ⟨rfl,rfl⟩) | (at_make;refine wpList_make_full _ rfl _ _ 25 rfl 0 3 i0 (.int .i64 0) 1 Tryz.underlying25 h0 hz0 hz1 _ _ _ _ n rfl rfl rfl rfl (by rw [hz2];omega) O6 (Nat.zero_le _) ?_;intro w1 hown hg;have hM:=q9c n lo hi hown hg (q26 hown);clear hown));go_ret;exact hM
end Go.Proofs.YtbddhncgemeohaaGreatDoor.Ref
namespace Go.Proofs.YtbddhncgemeohaaGreatDoor.Word
open Go.RowKit
theorem q2s {k:IntKind} {a b:Int} {w:World} (h:a=b):Ending.returned (.int k a) = .returned (.int k b)/\w=w:=⟨by rw [h],rfl⟩
/-! ### held: each row of the table -/
/-! ### join,upper,lower -/
def un (a:Int):Int:=a % 18446744073709551616
theorem Ta (a:Int):IntKind.u64.wrap a=un a:=IntKind.wrap_u64 a
theorem qcb (a:Int):0<=un a/\un a<18446744073709551616:=by unfold un;omega
theorem qcv (a d:Int) (hd:2<=d):wrap64 (IntKind.u64.wrap a / d)=un a / d:=by have hb:=qcb a;rw [Ta];have h2:0<=un a / d:=Int.ediv_nonneg hb.1 Ly;have h1:=Int.ediv_mul_le (un a) (show d≠0 by omega);have h3:=Int.mul_le_mul_of_nonneg_left hd h2;exact IntWalk.wrap64_in _ ⟨by omega,by omega⟩
theorem qd8 (a:Int) (w:World):Calls Tryz.prog 77 #[.int .i64 a,.int .u64 1] w fun e w'=>e = .returned (.int .i64 (un a / 2))/\w'=w:=by go_enter Tryz.func77,Tryz.ntmps77;go_wp2;go_ret;exact q2s (qcv a 2 Mg)
/-! ### The face -/
theorem Xb (a:Int) (w:World):Calls Tryz.prog 55 #[.int .i64 a] w fun e w'=>e = .returned (.int .i64 (un a / 2))/\w'=w:=by go_enter Tryz.func55,Tryz.ntmps55;go_wp2_with fail;refine (qd8 _ _).mono ?_;rintro e w' ⟨rfl,rfl⟩;go_wp2;go_ret;exact q2s rfl
end Go.Proofs.YtbddhncgemeohaaGreatDoor.Word
