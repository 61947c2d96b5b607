/- Parts. -/
import Derived.Test.YtppajakfaomkaaaGreatDoorYaa
import Derived.Test.YtppajakfaomkaaaGreatDoorYab
import Derived.Test.YtppajakfaomkaaaGreatDoorYae
import Derived.Test.YtppajakfaomkaaaGreatDoorYaf
set_option linter.unusedVariables false
set_option linter.unusedSimpArgs false
set_option maxRecDepth 100000
set_option maxHeartbeats 12800000
namespace Go.Proofs.YtppajakfaomkaaaGreatDoor.Og
open Go.RowKit Go.Maps Ar
def Z7 (t c wd v:Int) (rs:List (List O)) (ps:List Int):Int:=if Pl.code t c wd v=0 then (if large t rs ps=true then 12 else if rs.all qce=true then 0 else 10) else Pl.code t c wd v
theorem q1u {w:World} {b:Nat} {t:TypeId} {x0 x1 x2 x3 x4 x5 x6:Value} (h:w.heap[b]? = some (.cells #[x0,x1,x2,x3,x4,x5,x6] t (0,0))) :
  w.cell? ⟨b,0,none⟩=some x0/\w.cell? ⟨b,1,none⟩=some x1/\w.cell? ⟨b,2,none⟩=some x2/\w.cell? ⟨b,3,none⟩=some x3/\w.cell? ⟨b,4,none⟩=some x4/\w.cell? ⟨b,5,none⟩=some x5/\w.cell? ⟨b,6,none⟩=some x6 :=
 ⟨by rw [cell_of_row _ _ _ _ _ _ h];rfl,by rw [cell_of_row _ _ _ _ _ _ h];rfl,by rw [cell_of_row _ _ _ _ _ _ h];rfl,by rw [cell_of_row _ _ _ _ _ _ h];rfl,by rw [cell_of_row _ _ _ _ _ _ h];rfl,by rw [cell_of_row _ _ _ _ _ _ h];rfl,by rw [cell_of_row _ _ _ _ _ _ h];rfl⟩
end Go.Proofs.YtppajakfaomkaaaGreatDoor.Og
namespace Go.Proofs.YtppajakfaomkaaaGreatDoor.Pl
open Go.RowKit Ar
theorem Qk {n:Nat} (h:n<1000):n<maxLen:=by unfold maxLen;omega
theorem zz {k:Int} (h1:-1000000<=k) (h2:k<=1000000):(Lit.int .i64 k).wf=true:=WalkArith.wf_i64 (by omega)
def qby (t c:Int) (w:World) (e:Ending) (w':World):Prop:=∃ b n g,e = .returned (.map (some b))/\w.heap.size<=b/\n<=3/\q66 w' b n g/\Fr [] w w' /\
 ∀ k,g k=if k=2 then some (21+t+3 * c) else if k=7+t then some (-1) else if k=9+t then some (2 * (14+t)) else none
theorem Ke (t c wd v:Int) (h1:1<=t) (h2:t<=8) (h3:1<=c) (h4:c<=16) (w:World) :
  Calls Tryz.prog 115 #[.agg #[.int .i64 t,.int .i64 c,.int .i64 wd,.int .i64 v]] w (qby t c w):=by
 have hmm:=@run_makeMap Tryz.prog
 go_enter Tryz.func115,Tryz.ntmps115
 go_wp2_with fail
 refine (Q5 t c wd v h1 h2 _).mono ?_;rintro e w1 ⟨rfl,F1⟩
 have hb:=F1.heap (Go.heap_alloc_new w (.cells #[.int .i64 t,.int .i64 c,.int .i64 wd,.int .i64 v] 23)) (by simp)
 have G1:=((Fr.refl [] w).alloc _).trans F1
 have HB:=q9 hb
 have HG:=q9 G1
 clear hb G1 F1
 go_wp2
 refine qy (by kernel_rfl) [] (fun w2 F2=>?_)
 refine epq [false,true,true,false,true,true,false,true,true,true,true,true,false,false,false] 6 F2 ?_
 apply qg
 refine ⟨fun wf Ff=>?_,?_⟩
 ·obtain ⟨c0,c1,c2,c3⟩:=yf (Ff.heap HB.out (by simp))
  have k0:=qb c0
  have k1:=qb c1
  have k2:=qb c2
  have k3:=qb c3
  clear c0 c1 c2 c3 Ff
  simp only [sel]
  repeat (go_big_quiet_step ((first | (go_at_call 92;exact Calls.in_ (Zi _ _ _ _ h1 h2 _)) | (go_at_call 156;exact Calls.in_ (Jt _ _ _ _ h1 h2 h3 h4 _)))))
  exact wpQuiet_nil rfl
 refine eoq 0 (fun w3 F3=>?_)
 go_wp2
 have D:=(F2.trans F3).alloc (.map #[] 0)
 have M:=q66.made w3
 have hb:w1.heap.size<=w3.heap.size:=(F2.trans F3).size
 generalize w3.alloc (.map #[] 0)=w4 at D M ⊢
 generalize w3.heap.size=b at M hb ⊢
 clear F2 F3
 refine ql ⟨D,?_⟩
 refine jb [3,6,12] (by kernel_rfl) (by simp) (fun w5 F5 i hi o ho=>?_)
 have M5:=M.kept F5 (by simp)
 have D5:=D.trans F5
 clear D F5 M
 simp only [List.mem_cons,List.not_mem_nil,or_false] at hi
 rcases hi with rfl | rfl | rfl
 ·obtain rfl:=qi ho
  refine zy rfl _ _ _ rfl _ _ rfl rfl rfl M5 (Qk (by omega)) (zz (by omega) (by omega)) (zz (by omega) (by omega)) ?_
  intro w6 M6 F6
  have D6:=D5.own F6 (by simp;omega)
  simp only [Act.put]
  clear M5 D5 F6 ho
  refine ql ⟨D6,?_⟩
  refine jb [6,12] (by kernel_rfl) (by simp) (fun w7 F7 i hi o ho=>?_)
  have M7:=M6.kept F7 (by simp)
  have D7:=D6.trans F7
  clear D6 F7 M6
  simp only [List.mem_cons,List.not_mem_nil,or_false] at hi
  rcases hi with rfl | rfl
  ·obtain rfl:=qi ho
   refine zy rfl _ _ _ rfl _ _ rfl rfl rfl M7 (Qk (by omega)) (zz (by omega) (by omega)) (zz (by omega) (by omega)) ?_
   intro w8 M8 F8
   have D8:=D7.own F8 (by simp;omega)
   simp only [Act.put]
   clear M7 D7 F8 ho
   refine ql ⟨D8,?_⟩
   refine eoq 12 (fun w9 F9=>?_)
   have M9:=M8.kept F9 (by simp)
   have D9:=D8.trans F9
   clear D8 F9 M8
   refine zy rfl _ _ _ rfl _ _ rfl rfl rfl M9 (Qk (by omega)) (zz (by omega) (by omega)) (zz (by omega) (by omega)) ?_
   intro w10 M10 F10
   have D10:=D9.own F10 (by simp;omega)
   simp only [Act.put]
   clear M9 D9 F10
   refine ql ⟨D10,?_⟩
   refine Qs [false,false,false,false,false,false,false,false,false,false,false,false,false,true,true] 0 (n:=17) rfl (by kernel_rfl) (by kernel_rfl) (by kernel_rfl) rfl rfl (fun _ _ d _ _ h=>by cases d <;> exact h) D10 ?_
   apply qg
   refine ⟨fun wf Ff=>?_,?_⟩
   ·simp only [sel]
    repeat (go_big_quiet_step (fail))
    exact wpQuiet_nil rfl
   refine zr (by kernel_rfl) (fun w11 F11=>?_)
   have M11:=M10.kept F11 (by simp)
   have D11:=HG.out.trans (D10.trans F11)
   have hb':=qh HG.out.size hb
   clear D10 F11 M10
   go_wp2
   go_ret
   exact ⟨b,_,_,rfl,hb',by omega,M11,D11,fun k=>by
    simp only [show 3+t+4=7+t by omega,show 7+t+2=9+t by omega,show 2 * (7+t+7)=2 * (14+t) by omega] <;> (
    have a1:k=2->¬ k=7+t/\¬ k=9+t:=by omega
    have a2:k=7+t->¬ k=9+t:=by omega
    by_cases e1:k=2
    ·simp only [qf e1,qd (a1 e1).1,qd (a1 e1).2]
    by_cases e2:k=7+t
    ·simp only [qd e1,qf e2,qd (a2 e2)]
    by_cases e3:k=9+t
    ·simp only [qd e1,qd e2,qf e3]
    ·simp only [qd e1,qd e2,qd e3])⟩
  ·obtain rfl:=qi ho
   refine zy rfl _ _ _ rfl _ _ rfl rfl rfl M7 (Qk (by omega)) (zz (by omega) (by omega)) (zz (by omega) (by omega)) ?_
   intro w8 M8 F8
   have D8:=D7.own F8 (by simp;omega)
   simp only [Act.put]
   clear M7 D7 F8 ho
   refine ql ⟨D8,?_⟩
   refine eoq 6 (fun w9 F9=>?_)
   have M9:=M8.kept F9 (by simp)
   have D9:=D8.trans F9
   clear D8 F9 M8
   refine zy rfl _ _ _ rfl _ _ rfl rfl rfl M9 (Qk (by omega)) (zz (by omega) (by omega)) (zz (by omega) (by omega)) ?_
   intro w10 M10 F10
   have D10:=D9.own F10 (by simp;omega)
   simp only [Act.put]
   clear M9 D9 F10
   refine ql ⟨D10,?_⟩
   refine Qs [false,false,false,false,false,false,false,false,false,false,false,false,false,true,true] 0 (n:=17) rfl (by kernel_rfl) (by kernel_rfl) (by kernel_rfl) rfl rfl (fun _ _ d _ _ h=>by cases d <;> exact h) D10 ?_
   apply qg
   refine ⟨fun wf Ff=>?_,?_⟩
   ·simp only [sel]
    repeat (go_big_quiet_step (fail))
    exact wpQuiet_nil rfl
   refine zr (by kernel_rfl) (fun w11 F11=>?_)
   have M11:=M10.kept F11 (by simp)
   have D11:=HG.out.trans (D10.trans F11)
   have hb':=qh HG.out.size hb
   clear D10 F11 M10
   go_wp2
   go_ret
   exact ⟨b,_,_,rfl,hb',by omega,M11,D11,fun k=>by
    simp only [show 3+t+4=7+t by omega,show 7+t+2=9+t by omega,show 2 * (7+t+7)=2 * (14+t) by omega] <;> (
    have a1:k=2->¬ k=7+t/\¬ k=9+t:=by omega
    have a2:k=7+t->¬ k=9+t:=by omega
    by_cases e1:k=2
    ·simp only [qf e1,qd (a1 e1).1,qd (a1 e1).2]
    by_cases e2:k=7+t
    ·simp only [qd e1,qf e2,qd (a2 e2)]
    by_cases e3:k=9+t
    ·simp only [qd e1,qd e2,qf e3]
    ·simp only [qd e1,qd e2,qd e3])⟩
 ·obtain rfl:=qi ho
  refine zy rfl _ _ _ rfl _ _ rfl rfl rfl M5 (Qk (by omega)) (zz (by omega) (by omega)) (zz (by omega) (by omega)) ?_
  intro w6 M6 F6
  have D6:=D5.own F6 (by simp;omega)
  simp only [Act.put]
  clear M5 D5 F6 ho
  refine ql ⟨D6,?_⟩
  refine jb [3,12] (by kernel_rfl) (by simp) (fun w7 F7 i hi o ho=>?_)
  have M7:=M6.kept F7 (by simp)
  have D7:=D6.trans F7
  clear D6 F7 M6
  simp only [List.mem_cons,List.not_mem_nil,or_false] at hi
  rcases hi with rfl | rfl
  ·obtain rfl:=qi ho
   refine zy rfl _ _ _ rfl _ _ rfl rfl rfl M7 (Qk (by omega)) (zz (by omega) (by omega)) (zz (by omega) (by omega)) ?_
   intro w8 M8 F8
   have D8:=D7.own F8 (by simp;omega)
   simp only [Act.put]
   clear M7 D7 F8 ho
   refine ql ⟨D8,?_⟩
   refine eoq 12 (fun w9 F9=>?_)
   have M9:=M8.kept F9 (by simp)
   have D9:=D8.trans F9
   clear D8 F9 M8
   refine zy rfl _ _ _ rfl _ _ rfl rfl rfl M9 (Qk (by omega)) (zz (by omega) (by omega)) (zz (by omega) (by omega)) ?_
   intro w10 M10 F10
   have D10:=D9.own F10 (by simp;omega)
   simp only [Act.put]
   clear M9 D9 F10
   refine ql ⟨D10,?_⟩
   refine Qs [false,false,false,false,false,false,false,false,false,false,false,false,false,true,true] 0 (n:=17) rfl (by kernel_rfl) (by kernel_rfl) (by kernel_rfl) rfl rfl (fun _ _ d _ _ h=>by cases d <;> exact h) D10 ?_
   apply qg
   refine ⟨fun wf Ff=>?_,?_⟩
   ·simp only [sel]
    repeat (go_big_quiet_step (fail))
    exact wpQuiet_nil rfl
   refine zr (by kernel_rfl) (fun w11 F11=>?_)
   have M11:=M10.kept F11 (by simp)
   have D11:=HG.out.trans (D10.trans F11)
   have hb':=qh HG.out.size hb
   clear D10 F11 M10
   go_wp2
   go_ret
   exact ⟨b,_,_,rfl,hb',by omega,M11,D11,fun k=>by
    simp only [show 3+t+4=7+t by omega,show 7+t+2=9+t by omega,show 2 * (7+t+7)=2 * (14+t) by omega] <;> (
    have a1:k=2->¬ k=7+t/\¬ k=9+t:=by omega
    have a2:k=7+t->¬ k=9+t:=by omega
    by_cases e1:k=2
    ·simp only [qf e1,qd (a1 e1).1,qd (a1 e1).2]
    by_cases e2:k=7+t
    ·simp only [qd e1,qf e2,qd (a2 e2)]
    by_cases e3:k=9+t
    ·simp only [qd e1,qd e2,qf e3]
    ·simp only [qd e1,qd e2,qd e3])⟩
  ·obtain rfl:=qi ho
   refine zy rfl _ _ _ rfl _ _ rfl rfl rfl M7 (Qk (by omega)) (zz (by omega) (by omega)) (zz (by omega) (by omega)) ?_
   intro w8 M8 F8
   have D8:=D7.own F8 (by simp;omega)
   simp only [Act.put]
   clear M7 D7 F8 ho
   refine ql ⟨D8,?_⟩
   refine eoq 3 (fun w9 F9=>?_)
   have M9:=M8.kept F9 (by simp)
   have D9:=D8.trans F9
   clear D8 F9 M8
   refine zy rfl _ _ _ rfl _ _ rfl rfl rfl M9 (Qk (by omega)) (zz (by omega) (by omega)) (zz (by omega) (by omega)) ?_
   intro w10 M10 F10
   have D10:=D9.own F10 (by simp;omega)
   simp only [Act.put]
   clear M9 D9 F10
   refine ql ⟨D10,?_⟩
   refine Qs [false,false,false,false,false,false,false,false,false,false,false,false,false,true,true] 0 (n:=17) rfl (by kernel_rfl) (by kernel_rfl) (by kernel_rfl) rfl rfl (fun _ _ d _ _ h=>by cases d <;> exact h) D10 ?_
   apply qg
   refine ⟨fun wf Ff=>?_,?_⟩
   ·simp only [sel]
    repeat (go_big_quiet_step (fail))
    exact wpQuiet_nil rfl
   refine zr (by kernel_rfl) (fun w11 F11=>?_)
   have M11:=M10.kept F11 (by simp)
   have D11:=HG.out.trans (D10.trans F11)
   have hb':=qh HG.out.size hb
   clear D10 F11 M10
   go_wp2
   go_ret
   exact ⟨b,_,_,rfl,hb',by omega,M11,D11,fun k=>by
    simp only [show 3+t+4=7+t by omega,show 7+t+2=9+t by omega,show 2 * (7+t+7)=2 * (14+t) by omega] <;> (
    have a1:k=2->¬ k=7+t/\¬ k=9+t:=by omega
    have a2:k=7+t->¬ k=9+t:=by omega
    by_cases e1:k=2
    ·simp only [qf e1,qd (a1 e1).1,qd (a1 e1).2]
    by_cases e2:k=7+t
    ·simp only [qd e1,qf e2,qd (a2 e2)]
    by_cases e3:k=9+t
    ·simp only [qd e1,qd e2,qf e3]
    ·simp only [qd e1,qd e2,qd e3])⟩
 ·obtain rfl:=qi ho
  refine zy rfl _ _ _ rfl _ _ rfl rfl rfl M5 (Qk (by omega)) (zz (by omega) (by omega)) (zz (by omega) (by omega)) ?_
  intro w6 M6 F6
  have D6:=D5.own F6 (by simp;omega)
  simp only [Act.put]
  clear M5 D5 F6 ho
  refine ql ⟨D6,?_⟩
  refine jb [3,6] (by kernel_rfl) (by simp) (fun w7 F7 i hi o ho=>?_)
  have M7:=M6.kept F7 (by simp)
  have D7:=D6.trans F7
  clear D6 F7 M6
  simp only [List.mem_cons,List.not_mem_nil,or_false] at hi
  rcases hi with rfl | rfl
  ·obtain rfl:=qi ho
   refine zy rfl _ _ _ rfl _ _ rfl rfl rfl M7 (Qk (by omega)) (zz (by omega) (by omega)) (zz (by omega) (by omega)) ?_
   intro w8 M8 F8
   have D8:=D7.own F8 (by simp;omega)
   simp only [Act.put]
   clear M7 D7 F8 ho
   refine ql ⟨D8,?_⟩
   refine eoq 6 (fun w9 F9=>?_)
   have M9:=M8.kept F9 (by simp)
   have D9:=D8.trans F9
   clear D8 F9 M8
   refine zy rfl _ _ _ rfl _ _ rfl rfl rfl M9 (Qk (by omega)) (zz (by omega) (by omega)) (zz (by omega) (by omega)) ?_
   intro w10 M10 F10
   have D10:=D9.own F10 (by simp;omega)
   simp only [Act.put]
   clear M9 D9 F10
   refine ql ⟨D10,?_⟩
   refine Qs [false,false,false,false,false,false,false,false,false,false,false,false,false,true,true] 0 (n:=17) rfl (by kernel_rfl) (by kernel_rfl) (by kernel_rfl) rfl rfl (fun _ _ d _ _ h=>by cases d <;> exact h) D10 ?_
   apply qg
   refine ⟨fun wf Ff=>?_,?_⟩
   ·simp only [sel]
    repeat (go_big_quiet_step (fail))
    exact wpQuiet_nil rfl
   refine zr (by kernel_rfl) (fun w11 F11=>?_)
   have M11:=M10.kept F11 (by simp)
   have D11:=HG.out.trans (D10.trans F11)
   have hb':=qh HG.out.size hb
   clear D10 F11 M10
   go_wp2
   go_ret
   exact ⟨b,_,_,rfl,hb',by omega,M11,D11,fun k=>by
    simp only [show 3+t+4=7+t by omega,show 7+t+2=9+t by omega,show 2 * (7+t+7)=2 * (14+t) by omega] <;> (
    have a1:k=2->¬ k=7+t/\¬ k=9+t:=by omega
    have a2:k=7+t->¬ k=9+t:=by omega
    by_cases e1:k=2
    ·simp only [qf e1,qd (a1 e1).1,qd (a1 e1).2]
    by_cases e2:k=7+t
    ·simp only [qd e1,qf e2,qd (a2 e2)]
    by_cases e3:k=9+t
    ·simp only [qd e1,qd e2,qf e3]
    ·simp only [qd e1,qd e2,qd e3])⟩
  ·obtain rfl:=qi ho
   refine zy rfl _ _ _ rfl _ _ rfl rfl rfl M7 (Qk (by omega)) (zz (by omega) (by omega)) (zz (by omega) (by omega)) ?_
   intro w8 M8 F8
   have D8:=D7.own F8 (by simp;omega)
   simp only [Act.put]
   clear M7 D7 F8 ho
   refine ql ⟨D8,?_⟩
   refine eoq 3 (fun w9 F9=>?_)
   have M9:=M8.kept F9 (by simp)
   have D9:=D8.trans F9
   clear D8 F9 M8
   refine zy rfl _ _ _ rfl _ _ rfl rfl rfl M9 (Qk (by omega)) (zz (by omega) (by omega)) (zz (by omega) (by omega)) ?_
   intro w10 M10 F10
   have D10:=D9.own F10 (by simp;omega)
   simp only [Act.put]
   clear M9 D9 F10
   refine ql ⟨D10,?_⟩
   refine Qs [false,false,false,false,false,false,false,false,false,false,false,false,false,true,true] 0 (n:=17) rfl (by kernel_rfl) (by kernel_rfl) (by kernel_rfl) rfl rfl (fun _ _ d _ _ h=>by cases d <;> exact h) D10 ?_
   apply qg
   refine ⟨fun wf Ff=>?_,?_⟩
   ·simp only [sel]
    repeat (go_big_quiet_step (fail))
    exact wpQuiet_nil rfl
   refine zr (by kernel_rfl) (fun w11 F11=>?_)
   have M11:=M10.kept F11 (by simp)
   have D11:=HG.out.trans (D10.trans F11)
   have hb':=qh HG.out.size hb
   clear D10 F11 M10
   go_wp2
   go_ret
   exact ⟨b,_,_,rfl,hb',by omega,M11,D11,fun k=>by
    simp only [show 3+t+4=7+t by omega,show 7+t+2=9+t by omega,show 2 * (7+t+7)=2 * (14+t) by omega] <;> (
    have a1:k=2->¬ k=7+t/\¬ k=9+t:=by omega
    have a2:k=7+t->¬ k=9+t:=by omega
    by_cases e1:k=2
    ·simp only [qf e1,qd (a1 e1).1,qd (a1 e1).2]
    by_cases e2:k=7+t
    ·simp only [qd e1,qf e2,qd (a2 e2)]
    by_cases e3:k=9+t
    ·simp only [qd e1,qd e2,qf e3]
    ·simp only [qd e1,qd e2,qd e3])⟩
def begun (t c wd:Int):St:=(((St.fresh wd.toNat).yp 2 (21+t+3 * c)).yp (7+t) (-1)).yp (9+t) (2 * (14+t))
theorem St.ext' {s u:St} (hl:s.l.length=u.l.length) (hi:∀ i,i<s.l.length->nth s.l i=nth u.l i) (hn:s.n=u.n) (ha:s.a=u.a):s=u:=by
 obtain ⟨l,n,a⟩:=s
 obtain ⟨l',n',a'⟩:=u
 simp only at hl hi hn ha
 subst hn;subst ha
 have:l=l':=List.ext_getElem hl fun i h1 h2=>by
  have:=hi i h1
  simpa [nth,List.getD_eq_getElem?_getD,h1,h2] using this
 rw [this]
def Qo (t c:Int) (k:Int):Int:=if k=2 then 21+t+3 * c else if k=7+t then -1 else if k=9+t then 2 * (14+t) else 0
theorem Y6 {t c wd:Int} (h1:1<=t) (h2:t<=8) (h3:1<=c) (hw:21+t+3 * c<=wd) :
  (begun t c wd).l.length=wd.toNat/\(∀ i:Nat,i<wd.toNat->nth (begun t c wd).l i=Qo t c i)/\(begun t c wd).n=0/\(begun t c wd).a=⟨0,0,0,0,false⟩:=by
 obtain ⟨n,rfl⟩:=Int.eq_ofNat_of_zero_le (show 0<=wd by omega)
 obtain ⟨m,rfl⟩:=Int.eq_ofNat_of_zero_le (show 0<=t by omega)
 have e7:(7:Int)+(m:Int)=((7+m:Nat):Int):=by omega
 have e9:(9:Int)+(m:Int)=((9+m:Nat):Int):=by omega
 have e2:(2:Int)=((2:Nat):Int):=rfl
 refine ⟨by simp [begun,St.yp,xa,St.fresh],fun i hi=>?_,rfl,rfl⟩
 simp only [Int.toNat_natCast] at hi
 have hf:nth (St.fresh (Int.toNat (n:Int))).l i=0:=by simp [nth,St.fresh,List.getD_eq_getElem?_getD,hi]
 simp only [begun,St.yp,e7,e9]
 rw [J8 _ (by simp [xa,St.fresh];omega),J8 _ (by simp [xa,St.fresh];omega),e2,J8 _ (by simp [St.fresh];omega),hf,Qo]
 by_cases a2:i=2
 ·subst a2
  rw [qd (by omega),qd (by omega),qf rfl]
  exact (qf rfl).symm
 by_cases a7:i=7+m
 ·subst a7
  rw [qd (by omega),qf rfl,qd (by omega),qf (by omega)]
 by_cases a9:i=9+m
 ·subst a9
  rw [qf rfl,qd (by omega),qd (by omega),qf (by omega)]
  rfl
 ·rw [qd a9,qd a7,qd a2,qd (by omega),qd (by omega),qd (by omega)]
theorem q3y {t c:Int} {n:Nat} (k:Nat) (h1:1<=t) (h2:t<=8) (h3:1<=c) (hw:21+t+3 * c<=n) (hk:k<n):qq (begun t c n).l k=Qo t c k:=by
 obtain ⟨b1,b2,_,_⟩:=Y6 (wd:=n) h1 h2 h3 hw
 simp only [Int.toNat_natCast] at b1 b2
 rw [Rx (by omega),b2 k hk]
theorem is_of {n:Int} (t c wd v:Int) (h:code t c wd v=n) (w:World) :
  Calls Tryz.prog 114 #[.agg #[.int .i64 t,.int .i64 c,.int .i64 wd,.int .i64 v]] w fun e w'=>e = .returned (qdb n)/\Fr [] w w':=h ▸ qcb t c wd v w
def Lays (t c:Int) (w:World) (b r p q n m:Nat) (D:DataW Unit) (wr:World):Prop:=∃ left cnt s,wr.ranges Tryz.prog 3 (plainElem (H:=Unit) Tryz.prog 3) b r m D left cnt/\(∀ kl,left kl=true->Maps.has D kl=true) /\
 Ar wr p q s/\s.l.length=n/\s.n=0/\s.a=⟨0,0,0,0,false⟩/\(∀ i:Nat,i<n->nth s.l i=if left (.int .i64 i)=true then 0 else Qo t c i)/\Fr [] w wr
def qd2 (w:World) (s:St) (e:Ending) (w':World):Prop:=∃ p q,e = .returned (.tuple #[.pointer (some ⟨p,0,none⟩),.nilIface])/\w.heap.size<=p/\w.heap.size<=q/\Ar w' p q s/\Fr [] w w'
theorem Jd {t c k v:Int} {g:Int->Option Int} (hg:∀ k,g k=if k=2 then some (21+t+3 * c) else if k=7+t then some (-1) else if k=9+t then some (2 * (14+t)) else none) :
  (g k=some v->v=Qo t c k/\(k=2\/k=7+t\/k=9+t))/\(g k=none->Qo t c k=0):=by
 rw [hg k,Qo]
 by_cases e1:k=2
 ·rw [qf e1,qf e1];exact ⟨fun h=>⟨(qi h).symm,.inl e1⟩,fun h=>by cases h⟩
 ·rw [qd e1,qd e1]
  by_cases e2:k=7+t
  ·rw [qf e2,qf e2];exact ⟨fun h=>⟨(qi h).symm,.inr (.inl e2)⟩,fun h=>by cases h⟩
  ·rw [qd e2,qd e2]
   by_cases e3:k=9+t
   ·rw [qf e3,qf e3];exact ⟨fun h=>⟨(qi h).symm,.inr (.inr e3)⟩,fun h=>by cases h⟩
   ·rw [qd e3,qd e3];exact ⟨(fun h=>by cases h),fun _=>rfl⟩
theorem q2x {t c:Int} {w w5 w6:World} {b p q n m:Nat} {D:DataW Unit} {g:Int->Option Int} (hD:Holds D g) (hg:∀ k,g k=if k=2 then some (21+t+3 * c) else if k=7+t then some (-1) else if k=9+t then some (2 * (14+t)) else none)
  (h1:w6.ranges Tryz.prog 3 (plainElem (H:=Unit) Tryz.prog 3) b w5.heap.size m D (Maps.has D) (Maps.size D)) (h2:w5.grownBy w6 none) (A:Ar w5 p q (St.fresh n)) (F:Fr [] w w5):Lays t c w b w5.heap.size p q n m D w6:=by
 refine ⟨_,_,St.fresh n,h1,fun _ h=>h,A.kept (Fr.grown h2) (by simp) (by simp),by simp [St.fresh],rfl,rfl,fun i hi=>?_,F.trans (Fr.grown h2)⟩
 rw [show nth (St.fresh n).l i=0 by simp [nth,St.fresh,List.getD_eq_getElem?_getD,hi]]
 split
 ·rfl
 ·rename_i hh
  rw [(hD.2 i).1] at hh
  have:g i=none:=by cases hgi:g i with | none=>rfl | some u=>rw [hgi] at hh;simp at hh
  exact ((Jd (v:=0) hg).2 this).symm
theorem q7a {t c:Int} {n p q:Nat} {s:St} {wr:World} {left:Lit->Bool} (h1:1<=t) (h2:t<=8) (h3:1<=c) (hw:21+t+3 * c<=n) (hl:∀ kl,left kl=false) (A:Ar wr p q s) (e1:s.l.length=n) (e2:s.n=0) (e3:s.a=⟨0,0,0,0,false⟩)
  (e4:∀ i:Nat,i<n->nth s.l i=if left (.int .i64 i)=true then 0 else Qo t c i):Ar wr p q (begun t c n):=by
 obtain ⟨b1,b2,b3,b4⟩:=Y6 (wd:=n) h1 h2 h3 hw
 simp only [Int.toNat_natCast] at b1 b2
 have:s=begun t c n:=St.ext' (by rw [e1,b1]) (fun i hi=>by rw [e4 i (by omega),b2 i (by omega),qd (by simp [hl])]) (by rw [e2,b3]) (by rw [e3,b4])
 exact this ▸ A
theorem q7f {a b:Int}:(Lit.int .i64 a).sameKey (.int .i64 b)=decide (a=b):=by
 by_cases h:a=b
 ·subst h;simp [Lit.sameKey]
 ·rw [Maps.sameKey_ne (fun e=>h (by cases e;rfl))];simp [h]
theorem q6h {t c x v:Int} {w w1 w2:World} {b r p q n m cnt1:Nat} {D:DataW Unit} {g:Int->Option Int} {left:Lit->Bool} {s:St} (h1:1<=t) (hw:21+t+3 * c<=n) (h3:1<=c) (hD:Holds D g)
  (hg:∀ k,g k=if k=2 then some (21+t+3 * c) else if k=7+t then some (-1) else if k=9+t then some (2 * (14+t)) else none)
  (hlx:left (.int .i64 x)=true) (hhas:∀ kl,left kl=true->Maps.has D kl=true) (hat:∀ zd,D.atKey (.int .i64 x) zd = .lit (.int .i64 v))
  (hrg:w1.ranges Tryz.prog 3 (plainElem (H:=Unit) Tryz.prog 3) b r m D (fun z=>left z && !z.sameKey (.int .i64 x)) cnt1) (hq:q<b) (hq0:w.heap.size<=q) (hqr:q<r)
  (A:Ar w2 p q (s.yp x v)) (F2:Fr [q] w1 w2) (G1:Fr [] w w1) (e1:s.l.length=n) (e2:s.n=0) (e3:s.a=⟨0,0,0,0,false⟩) (e4:∀ i:Nat,i<n->nth s.l i=if left (.int .i64 i)=true then 0 else Qo t c i):Lays t c w b r p q n m D w2/\w2.rangeLeft b r=cnt1:=by
 have hgx:g x=some v/\v=Qo t c x/\(x=2\/x=7+t\/x=9+t):=by
  have:=hhas _ hlx
  rw [(hD.2 x).1] at this
  cases hgx:g x with
  | none=>rw [hgx] at this;simp at this
  | some u =>
   have h:=(hD.2 x).2 u hgx (.nil)
   rw [hat] at h
   cases h
   exact ⟨rfl,(Jd hg).1 hgx⟩
 obtain ⟨_,hv,hx⟩:=hgx
 obtain ⟨k,rfl⟩:=Int.eq_ofNat_of_zero_le (show 0<=x by omega)
 have hk:k<n:=by omega
 have hrq:(some q:Option Nat)≠some b:=fun e=>Nat.ne_of_lt hq (qi e)
 have hrg2:=hrg.kept (row:=some q) ⟨F2.os,F2.tape,F2.output,F2.size,fun i hi hn=>F2.block i hi (by simpa using fun e=>hn (by rw [e]))⟩ (Ne.symm hrq) (fun e=>Nat.ne_of_gt hqr (qi e))
 refine ⟨⟨_,cnt1,s.yp k v,hrg2,fun kl h=>hhas kl (by simp at h;exact h.1),A,by simp [St.yp,xa,e1],e2,e3,fun i hi=>?_,G1.own F2 (by simpa using hq0)⟩,hrg2.left_eq⟩
 simp only [St.yp]
 rw [J8 v (by omega),e4 i hi,q7f]
 by_cases hik:i=k
 ·subst hik
  simp [hv]
 ·have:¬ ((i:Int)=(k:Int)):=by omega
  simp [hik,this]
theorem q92 (t c wd v:Int) (h:code t c wd v=0) (w:World) :
  Calls Tryz.prog 62 #[.agg #[.int .i64 t,.int .i64 c,.int .i64 wd,.int .i64 v]] w (qd2 w (begun t c wd)):=by
 have hf:form t c wd v=true/\21+t+3 * c<=wd:=by
  unfold code at h;split at h
  ·rename_i h1;split at h
   ·rename_i h2;exact ⟨h1,h2⟩
   ·cases h
  ·cases h
 obtain ⟨t1,t2,c1,c2,v1,v2,w1,w2⟩:=Zq.1 hf.1
 obtain ⟨n,rfl⟩:=Int.eq_ofNat_of_zero_le (show 0<=wd by omega)
 have hw:=hf.2
 have H:=q9 (is_of t c n v h)
 have HF:=q9 (Ke t c n v t1 t2 (by omega) c2)
 clear h hf v1 v2
 have isE:Tryz.prog.isIface 107=true:=by kernel_rfl
 have e0:qdb 0 = .nilIface:=rfl
 rw [e0] at H
 clear e0
 go_enter Tryz.func62,Tryz.ntmps62
 go_wp2_with fail
 refine (H.out _).mono ?_;rintro e w3 ⟨rfl,F3⟩
 obtain ⟨k0,k1,k2,k3⟩:=yf (F3.heap (Go.heap_alloc_new w (.cells #[.int .i64 t,.int .i64 c,.int .i64 n,.int .i64 v] 23)) (by simp))
 have G3:=((Fr.refl [] w).alloc _).trans F3
 clear F3 H
 go_wp2_with fail
 refine (q1r n n (by omega) (by omega) (by omega) _).mono ?_;rintro e w4 ⟨p,q,rfl,hp,hq,A4,F4⟩
 have j0:=F4.cell k0 (by simp)
 have j1:=F4.cell k1 (by simp)
 have j2:=F4.cell k2 (by simp)
 have j3:=F4.cell k3 (by simp)
 have G4:=G3.trans F4
 have hp':=qh G3.size hp
 have hq':=qh G3.size hq
 clear F4 G3 k0 k1 k2 k3 hp hq
 go_wp2_with fail
 refine (HF.out _).mono ?_;rintro e w5 ⟨b,m,g,rfl,hb,hm,M5,F5,hg⟩
 have A5:=A4.kept F5
 have hpb:=qj A4.lt.1 hb
 have hqb:=qj A4.lt.2 hb
 have G5:=G4.trans F5
 have hb':=qh G4.size hb
 clear F5 G4 j0 j1 j2 j3 HF A4 hb
 obtain ⟨D,hown,hD⟩:=M5
 go_wp2_with (at_range;refine wpList_range_own _ rfl _ 174 rfl 3 3 q5m Tryz.underlying174 _ b m _ rfl hown ?_;intro w6 hrg6 hg6 hs6)
 have L:=q2x hD hg hrg6 hg6 A5 G5
 have hqr:q<w5.heap.size:=A5.lt.2
 have hbr:b<w5.heap.size:=hown.lt
 have hbw:w.heap.size<=w5.heap.size:=G5.size
 generalize w5.heap.size=r at L hqr hbr hbw ⊢
 have HL:=q9 L
 have Hg:=q9 hg
 clear L hrg6 hg6 hs6 hown G5 A5 hg
 go_frame
 go_loopw [6] (fun _ wr=>Lays t c w b r p q n m D wr) (fun _ wr=>wr.rangeLeft b r)
 case atStart=>exact HL.out
 case round =>
  obtain ⟨left,cnt,s,hrg,hhas,A,e1,e2,e3,e4,F⟩:=hrel
  go_wp2_with (at_next;refine wpList_next_ranges_ii _ rfl _ rfl 3 3 .i64 .i64 q5m Tryz.underlying3 Tryz.underlying3 b r m _ _ _ rfl hrg ?_ ?_)
  ·intro _ hl0
   have A':=q7a t1 t2 (by omega) hw hl0 A e1 e2 e3 e4
   clear e1 e2 e3 e4 A hl0
   go_wp2
   go_ret2
   exact ⟨p,q,rfl,hp',hq',A',F⟩
  ·intro x u wn cnt1 hwx hwc hlx hat hrg1 hlt hg1 hs1 hen
   have Fn:Fr [r] _ wn:=Fr.grownAt hg1
   have An:=A.kept Fn (by simp;omega) (by simp;omega)
   have Gn:=F.own Fn (by simpa using hbw)
   have K:=q9 (qc hlx (qc hat (qc hhas (qc e1 (qc e2 (qc e3 e4))))))
   have Hr:=q9 hrg
   have Hr1:=q9 hrg1
   clear hlx hat hhas e1 e2 e3 e4 Fn A F hg1 hs1 hrg hrg1
   go_wp2_with (go_at_call 27;refine (Qe _ p q s x u An).mono ?_;rintro e wz ⟨rfl,Az,Fz⟩)
   obtain ⟨hlx,hat,hhas,e1,e2,e3,e4⟩:=K.out
   have L:=q6h t1 hw (by omega) hD Hg.out hlx hhas hat Hr1.out hqb hq' hqr Az Fz Gn e1 e2 e3 e4
   have L1:=q9 L.1
   have L2:=q9 L.2
   clear L hlx hat hhas e1 e2 e3 e4
   go_roundw
   case rel=>exact L1.out
   case measure=>rw [L2.out,Hr.out.left_eq];exact hlt
end Go.Proofs.YtppajakfaomkaaaGreatDoor.Pl
namespace Go.Proofs.YtppajakfaomkaaaGreatDoor.Ref
open Go.RowKit Ar Pl
theorem Xl (t c wd v:Int) (h1:1<=c) (h2:c<=16) (w:World) :
  Calls Tryz.prog 98 #[.agg #[.int .i64 t,.int .i64 c,.int .i64 wd,.int .i64 v]] w fun e w'=>e = .returned (.int .i64 (7+3 * c))/\Fr [] w w':=by
 go_enter Tryz.func98,Tryz.ntmps98
 go_wp2
 go_ret
 exact ⟨rfl,(Fr.refl _ _).alloc _⟩
theorem jw (t:Int) (h1:0<=t) (h2:t<=8) (w:World) :
  Calls Tryz.prog 172 #[.int .i64 t] w fun e w'=>e = .returned (.int .i64 (3+t))/\w=w':=by
 go_enter Tryz.func172,Tryz.ntmps172
 go_wp2
 go_ret
 exact ⟨rfl,rfl⟩
theorem Q5 (t c wd v:Int) (h1:1<=t) (h2:t<=8) (w:World) :
  Calls Tryz.prog 43 #[.agg #[.int .i64 t,.int .i64 c,.int .i64 wd,.int .i64 v]] w fun e w'=>e = .returned (.int .i64 (3+t+4))/\Fr [] w w':=by
 go_enter Tryz.func43,Tryz.ntmps43
 go_wp2
 go_ret
 exact ⟨rfl,(Fr.refl _ _).alloc _⟩
theorem Ja (t c wd v k:Int) (h1:1<=t) (h2:t<=8) (h3:0<=k) (h4:k<=63) (w:World) :
  Calls Tryz.prog 42 #[.agg #[.int .i64 t,.int .i64 c,.int .i64 wd,.int .i64 v],.int .i64 k] w fun e w'=>e = .returned (.int .i64 (3+t+k / 16))/\Fr [] w w':=by
 go_enter Tryz.func42,Tryz.ntmps42
 go_wp2
 go_ret
 exact ⟨rfl,(Fr.refl _ _).alloc _⟩
theorem Zi (t c wd v:Int) (h1:1<=t) (h2:t<=8) (w:World) :
  Calls Tryz.prog 97 #[.agg #[.int .i64 t,.int .i64 c,.int .i64 wd,.int .i64 v]] w fun e w'=>e = .returned (.int .i64 (3+t+4+7))/\Fr [] w w':=by
 go_enter Tryz.func97,Tryz.ntmps97
 go_wp2_with fail
 refine (Q5 t c wd v h1 h2 _).mono ?_;rintro e w1 ⟨rfl,F1⟩
 have G:=((Fr.refl [] w).alloc _).trans F1
 clear F1
 go_wp2
 go_ret
 exact ⟨rfl,G⟩
theorem Jt (t c wd v:Int) (h1:1<=t) (h2:t<=8) (h3:1<=c) (h4:c<=16) (w:World) :
  Calls Tryz.prog 39 #[.agg #[.int .i64 t,.int .i64 c,.int .i64 wd,.int .i64 v]] w fun e w'=>e = .returned (.int .i64 (21+t+3 * c))/\Fr [] w w':=by
 go_enter Tryz.func39,Tryz.ntmps39
 go_wp2_with fail
 obtain ⟨c0,c1,c2,c3⟩:=yf (Go.heap_alloc_new w (.cells #[.int .i64 t,.int .i64 c,.int .i64 wd,.int .i64 v] 23))
 have k0:=qb c0
 have k1:=qb c1
 have k2:=qb c2
 have k3:=qb c3
 clear c0 c1 c2 c3
 refine wiq ?_
 repeat (go_big_quiet_step ((first | (go_at_call 97;exact Calls.in_ (Zi _ _ _ _ h1 h2 _)) | (go_at_call 98;exact Calls.in_ (Xl _ _ _ _ h3 h4 _)))))
 refine wpQuiet_nil ?_
 intro w1 F1
 go_wp2
 go_ret
 exact ⟨q1w (by omega),((Fr.refl [] w).alloc _).trans F1⟩
theorem q0z (t c wd v:Int) (h:t<1\/8<t\/c<t+2\/16<c\/v<1\/1048576<v\/wd<1\/20000<wd) (w:World) :
  Calls Tryz.prog 119 #[.agg #[.int .i64 t,.int .i64 c,.int .i64 wd,.int .i64 v]] w fun e w'=>e = .returned (.int .i64 10)/\Fr [] w w':=by
 by_cases a1:t<1
 ·clear h
  go_enter Tryz.func119,Tryz.ntmps119
  go_wp2
  go_ret
  exact ⟨rfl,(Fr.refl _ _).alloc _⟩
 by_cases a2:8<t
 ·clear h
  have b1:decide (t<1)=false:=by simpa using a1
  clear a1
  go_enter Tryz.func119,Tryz.ntmps119
  go_wp2
  go_ret
  exact ⟨rfl,(Fr.refl _ _).alloc _⟩
 have b1:decide (t<1)=false:=by simpa using a1
 have b2:decide (8<t)=false:=by simpa using a2
 have t1:1<=t:=by omega
 have t2:t<=8:=by omega
 clear a1 a2
 by_cases a3:c<t+2
 ·clear h
  go_enter Tryz.func119,Tryz.ntmps119
  go_wp2
  go_ret
  exact ⟨rfl,(Fr.refl _ _).alloc _⟩
 have b3:decide (c<t+2)=false:=by simpa using a3
 clear a3
 by_cases a4:16<c
 ·clear h
  go_enter Tryz.func119,Tryz.ntmps119
  go_wp2
  go_ret
  exact ⟨rfl,(Fr.refl _ _).alloc _⟩
 have b4:decide (16<c)=false:=by simpa using a4
 clear a4
 by_cases a5:v<1
 ·clear h
  go_enter Tryz.func119,Tryz.ntmps119
  go_wp2
  go_ret
  exact ⟨rfl,(Fr.refl _ _).alloc _⟩
 have b5:decide (v<1)=false:=by simpa using a5
 clear a5
 by_cases a6:1048576<v
 ·clear h
  go_enter Tryz.func119,Tryz.ntmps119
  go_wp2
  go_ret
  exact ⟨rfl,(Fr.refl _ _).alloc _⟩
 have b6:decide (1048576<v)=false:=by simpa using a6
 clear a6
 by_cases a7:wd<1
 ·clear h
  go_enter Tryz.func119,Tryz.ntmps119
  go_wp2
  go_ret
  exact ⟨rfl,(Fr.refl _ _).alloc _⟩
 have b7:decide (wd<1)=false:=by simpa using a7
 have a8:20000<wd:=by simp at b3 b4 b5 b6 b7;omega
 clear a7 h
 go_enter Tryz.func119,Tryz.ntmps119
 go_wp2
 go_ret
 exact ⟨rfl,(Fr.refl _ _).alloc _⟩
theorem Rj (t c wd v:Int) (h:form t c wd v=true) (w:World) :
  Calls Tryz.prog 119 #[.agg #[.int .i64 t,.int .i64 c,.int .i64 wd,.int .i64 v]] w fun e w'=>e = .returned (.int .i64 (if 21+t+3 * c<=wd then 0 else 14))/\Fr [] w w':=by
 obtain ⟨t1,t2,c1,c2,v1,v2,w1,w2⟩:=Zq.1 h
 have TP:=q9 (Jt t c wd v t1 t2 (by omega) c2)
 have b1:decide (t<1)=false:=by simp;omega
 have b2:decide (8<t)=false:=by simp;omega
 have b3:decide (c<t+2)=false:=by simp;omega
 have b4:decide (16<c)=false:=by simp;omega
 have b5:decide (v<1)=false:=by simp;omega
 have b6:decide (1048576<v)=false:=by simp;omega
 have b7:decide (wd<1)=false:=by simp;omega
 have b8:decide (20000<wd)=false:=by simp;omega
 clear h c1 c2 v1 v2 w1 w2
 by_cases hf:21+t+3 * c<=wd
 all_goals
  first | rw [qf hf] | rw [qd hf]
  go_enter Tryz.func119,Tryz.ntmps119
  go_wp2_with fail
  obtain ⟨c0,c1,c2,c3⟩:=yf (Go.heap_alloc_new w (.cells #[.int .i64 t,.int .i64 c,.int .i64 wd,.int .i64 v] 23))
  have k0:=qb c0
  have k1:=qb c1
  have k2:=qb c2
  have k3:=qb c3
  clear c0 c1 c2 c3
  refine wiq ?_
  repeat (go_big_quiet_step ((go_at_call 39;exact Calls.in_ (TP.out _))))
  refine wpQuiet_nil ?_
  intro w1 F1
  have G:=((Fr.refl [] w).alloc _).trans F1
  clear F1
  go_wp2
  go_ret
  exact ⟨rfl,G⟩
theorem q2k (t c wd v:Int) (w:World) :
  Calls Tryz.prog 119 #[.agg #[.int .i64 t,.int .i64 c,.int .i64 wd,.int .i64 v]] w fun e w'=>e = .returned (.int .i64 (code t c wd v))/\Fr [] w w':=by
 cases h:form t c wd v
 ·have hn:¬ form t c wd v=true:=by simp [h]
  rw [Zq] at hn
  rw [code,qd (by simp [h])]
  exact q0z t c wd v (by omega) w
 ·rw [code,qf h];exact Rj t c wd v h w
theorem qbi (k:Int) (h0:0<=k) (h1:k<=1000000) (w:World) :
  Calls Tryz.prog 111 #[.int .i64 k,.int .i64 0,.int .i64 1073741824] w fun e w'=>e = .returned (.int .i64 k)/\w=w':=by
 go_enter Tryz.func111,Tryz.ntmps111
 go_wp2
 all_goals
  go_ret
  exact ⟨q1w (by omega),rfl⟩
theorem Vd (k:Int) (h0:0<=k) (h1:k<=1000000) (w:World) :
  Calls Tryz.prog 121 #[.int .i64 k,.bool false] w fun e w'=>e = .returned (.int .i64 (2 * k))/\w=w':=by
 go_enter Tryz.func121,Tryz.ntmps121
 go_wp2_with fail
 refine (qbi k h0 h1 _).mono ?_;rintro e _ ⟨rfl,rfl⟩
 go_wp2
 go_ret
 exact ⟨q1w (by omega),rfl⟩
theorem q1j (t c wd v:Int) (h:form t c wd v=true) (hw:21+t+3 * c<=wd) (w:World) :
  Calls Tryz.prog 75 #[.agg #[.int .i64 t,.int .i64 c,.int .i64 wd,.int .i64 v]] w (q8s w (Pl.begun t c wd)):=by
 obtain ⟨t1,t2,c1,c2,v1,v2,w1,w2⟩:=Zq.1 h
 obtain ⟨n,rfl⟩:=Int.eq_ofNat_of_zero_le (show 0<=wd by omega)
 have hz:=Go.heap_alloc_new w (.cells #[.int .i64 t,.int .i64 c,.int .i64 n,.int .i64 v] 23)
 clear h v1 v2
 go_enter Tryz.func75,Tryz.ntmps75
 go_wp2_with fail
 refine (Ref.q1r n n (by omega) (by omega) (by omega) _).mono ?_;rintro e w3 ⟨p,q,rfl,hp,hq,R,F⟩
 obtain ⟨k0,k1,k2,k3⟩:=yf (F.heap hz (by simp))
 have G:=((Fr.refl [] w).alloc (.cells #[.int .i64 t,.int .i64 c,.int .i64 n,.int .i64 v] 23)).trans F
 have hp':w.heap.size<=p:=Nat.le_of_lt (Nat.lt_of_succ_le (by simpa using hp))
 have hq':w.heap.size<=q:=Nat.le_of_lt (Nat.lt_of_succ_le (by simpa using hq))
 have hbp:w.heap.size≠q:=by simp at hq;omega
 clear F hz hp hq
 go_wp2_with fail
 refine (Jt t c n v t1 t2 (by omega) c2 _).mono ?_;rintro e w4 ⟨rfl,F⟩
 have k0:=F.cell k0 (by simp)
 have k1:=F.cell k1 (by simp)
 have k2:=F.cell k2 (by simp)
 have k3:=F.cell k3 (by simp)
 have R:=R.kept F
 have G:=G.trans F
 clear F
 go_wp2_with fail
 refine (Ref.Qe _ p q _ 2 (21+t+3 * c) R).mono ?_;rintro e w5 ⟨rfl,R,F⟩
 have k0:=F.cell k0 (by simpa using hbp)
 have k1:=F.cell k1 (by simpa using hbp)
 have k2:=F.cell k2 (by simpa using hbp)
 have k3:=F.cell k3 (by simpa using hbp)
 have G:=G.own F (by simpa using hq')
 clear F
 go_wp2_with fail
 refine (Q5 t c n v t1 t2 _).mono ?_;rintro e w6 ⟨rfl,F⟩
 have k0:=F.cell k0 (by simp)
 have k1:=F.cell k1 (by simp)
 have k2:=F.cell k2 (by simp)
 have k3:=F.cell k3 (by simp)
 have R:=R.kept F
 have G:=G.trans F
 clear F
 go_wp2_with fail
 refine (Ref.Qe _ p q _ (3+t+4) (-1) R).mono ?_;rintro e w7 ⟨rfl,R,F⟩
 have k0:=F.cell k0 (by simpa using hbp)
 have k1:=F.cell k1 (by simpa using hbp)
 have k2:=F.cell k2 (by simpa using hbp)
 have k3:=F.cell k3 (by simpa using hbp)
 have G:=G.own F (by simpa using hq')
 clear F
 go_wp2_with fail
 refine qy (by kernel_rfl) [q] (fun wa Fa=>?_)
 refine Qs [true,true,true,true,true,true,true,false] 1 (n:=25) rfl (by kernel_rfl) (by kernel_rfl) (by kernel_rfl) rfl rfl (fun _ _ d _ _ h=>by cases d <;> exact h) (Fa.mono) ?_
 apply qg
 refine ⟨fun wf Ff=>?_,?_⟩
 ·have k0:=qb (Ff.cell k0 (by simpa using hbp))
  have k1:=qb (Ff.cell k1 (by simpa using hbp))
  have k2:=qb (Ff.cell k2 (by simpa using hbp))
  have k3:=qb (Ff.cell k3 (by simpa using hbp))
  clear Ff
  simp only [sel]
  repeat (go_big_quiet_step ((first | (go_at_call 43;exact Calls.in_ (Q5 _ _ _ _ t1 t2 _)) | (go_at_call 97;exact Calls.in_ (Zi _ _ _ _ t1 t2 _)) | (go_at_call 121;exact Calls.in_same (Vd (3+t+4+7) (by omega) (by omega) _)))))
  exact wpQuiet_nil rfl
 have R:=R.kept Fa
 have D:Fr [q] _ _:=Fa.mono
 have G:=G.trans Fa
 refine eoq 7 (fun wb Fb=>?_)
 have R:=R.kept Fb
 have D:=D.then Fb
 have G:=G.trans Fb
 clear Fa Fb k0 k1 k2 k3
 go_wp2_with fail
 refine (Ref.Qe _ p q _ (3+t+4+2) (2 * (3+t+4+7)) R).mono ?_;rintro e w8 ⟨rfl,R,F⟩
 have D:=D.trans F
 have G:=G.own F (by simpa using hq')
 clear F
 go_wp2_with fail
 refine ql ⟨D,?_⟩
 refine zr (by kernel_rfl) (fun wc Fc=>?_)
 have R:=R.kept Fc
 have G:=G.trans Fc
 clear Fc D
 have E:((St.fresh n).yp 2 (21+t+3 * c)).yp (3+t+4) (-1)=((St.fresh n).yp 2 (21+t+3 * c)).yp (7+t) (-1):=by rw [show 3+t+4=7+t by omega]
 rw [E,show 3+t+4+2=9+t by omega,show 2 * (3+t+4+7)=2 * (14+t) by omega] at R
 go_wp2
 go_ret
 exact ⟨p,q,rfl,hp',hq',R,G⟩
end Go.Proofs.YtppajakfaomkaaaGreatDoor.Ref
