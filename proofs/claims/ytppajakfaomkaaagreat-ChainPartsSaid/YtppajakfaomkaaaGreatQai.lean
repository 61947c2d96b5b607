/- Parts. -/
import Derived.Test.YtppajakfaomkaaaGreatQac
import Derived.Test.YtppajakfaomkaaaGreatQae
import Derived.Test.YtppajakfaomkaaaGreatQag
import Derived.Test.YtppajakfaomkaaaGreatQah
set_option linter.unusedVariables false
set_option linter.unusedSimpArgs false
set_option maxRecDepth 100000
set_option maxHeartbeats 12800000
namespace Go.Proofs.YtppajakfaomkaaaGreat.Og
open Go.RowKit Go.Maps Ar
theorem qbi {w w':World} (f:Fr [] w w') {b:Nat} {o:Obj} (h:w.heap[b]? = some o):w'.heap[b]? = some o:=f.heap h (by simp)
def sc (r:Nat):Value:=.agg #[.int .i64 2,.int .i64 4,.int .i64 200,.int .i64 1000,.slice (some ⟨r,0,none⟩) 1 1,.slice none 0 0,.slice none 0 0]
end Go.Proofs.YtppajakfaomkaaaGreat.Og
namespace Go.Proofs.YtppajakfaomkaaaGreat.Ro
open Go.RowKit Go.Maps Ar Og
def LenAt (w:World) (rs:List (List O)) (x:Value) (wr:World):Prop:=∃ n:Nat,n<=rs.length/\x = .int .i64 n/\wr=w/\∀ i,i<n->long (J6 rs i)=false
def qdu (w:World) (b:Nat) (Z:Array Value) (rs:List (List O)) (x:Value) (wr:World):Prop:=∃ n:Nat,n<=rs.length/\x = .int .i64 n/\wr.heap[b]? = some (.cells Z 27 (0,0))/\Fr [] w wr/\∀ i,i<n->qe0 (J6 rs i)=true
def qdt (w:World) (b:Nat) (Z:Array Value) (os:List O) (x:Value) (wr:World):Prop:=∃ n:Nat,n<=os.length/\x = .int .i64 n/\wr.heap[b]? = some (.cells Z 27 (0,0))/\Fr [] w wr/\∀ i,i<n->qd9 (q2x os i)=true
theorem qa8 {rs:List (List O)} (h:∀ i,i<rs.length->long (J6 rs i)=false):rs.any long=false:=by
 rw [List.any_eq_false];intro y hy
 obtain ⟨i,hi,rfl⟩:=List.getElem_of_mem hy
 have:=h i hi
 unfold J6 at this
 simpa [List.getD_eq_getElem?_getD,hi] using this
theorem J0 (t c wd v:Int) (rs:List (List O)) (ps ds:List Int) (s:Value) (w:World) (h:Scr w s t c wd v rs ps ds) :
  Calls Tryz.prog 20 #[s] w fun e w'=>e = .returned (.int .i64 (Qg t c wd v rs ps))/\Fr [] w w':=by
 obtain ⟨vo,vp,vd,rfl,hr,hp,hd⟩:=h
 obtain ⟨a,cap,x,rfl,hl,hc,hrow⟩:=hr
 obtain ⟨a2,cap2,rfl,hl2,-,-⟩:=hp
 have HC:=q9 hc
 have HR:=q9 hrow
 clear hc hrow hd
 unfold maxLen at hl hl2
 go_enter Tryz.func20,Tryz.ntmps20
 go_wp2_with fail
 refine (Ref.q40 t c wd v _).mono ?_;rintro e w1 ⟨rfl,F1⟩
 have hb:=F1.heap (Go.heap_alloc_new w (.cells #[.int .i64 t,.int .i64 c,.int .i64 wd,.int .i64 v,.slice a rs.length cap,.slice a2 ps.length cap2,vd] 27)) (by simp)
 have G1:=((Fr.refl [] w).alloc (.cells #[.int .i64 t,.int .i64 c,.int .i64 wd,.int .i64 v,.slice a rs.length cap,.slice a2 ps.length cap2,vd] 27)).trans F1
 clear F1
 generalize w.heap.size=bs at *
 by_cases hcp:Pl.code t c wd v=0
 ·have hsc:Qg t c wd v rs ps=if large t rs ps=true then 12 else if rs.all qe0=true then 0 else 10:=by rw [Qg,qf hcp]
  rw [hcp]
  clear hcp
  obtain ⟨c0,c1,c2,c3,c4,c5,c6⟩:=q2r hb
  by_cases h1:t<rs.length
  ·have g:decide ((rs.length:Int)>t)=true:=by simpa using h1
   have e:large t rs ps=true:=by unfold large;simp [h1]
   rw [qf e] at hsc
   clear hb
   go_wp2
   go_ret
   exact ⟨by rw [hsc];rfl,G1⟩
  have g:decide ((rs.length:Int)>t)=false:=by simpa using h1
  by_cases h2:20000<ps.length
  ·have g2:decide ((ps.length:Int)>20000)=true:=by simp;omega
   have e:large t rs ps=true:=by unfold large;simp [h2]
   rw [qf e] at hsc
   clear hb
   go_wp2
   go_ret
   exact ⟨by rw [hsc];rfl,G1⟩
  have g2:decide ((ps.length:Int)>20000)=false:=by simp;omega
  have hlg:large t rs ps=rs.any long:=by unfold large;simp [h1,h2]
  rw [hlg] at hsc
  have HB:=q9 hb
  have HS:=q9 hsc
  clear hsc hlg hb h1 h2
  go_wp2_with fail
  go_loopw [4] (LenAt w1 rs) (fun x _=>rs.length - (intOf x).toNat)
  case atStart=>exact ⟨0,Nat.zero_le _,rfl,rfl,by omega⟩
  case round =>
   obtain ⟨n,hn,rfl,rfl,hi⟩:=hrel
   by_cases hlt:n<rs.length
   ·rcases HC.out with hz | ⟨b,off,rfl,hbb,hcell⟩
    ·omega
    have d0:=Zu G1 (hcell n hlt)
    obtain ⟨a3,cap3,hxe,hl3,-,-⟩:=HR.out n hlt
    rw [hxe] at d0
    clear hcell hxe
    cases hg:long (J6 rs n) with
    | true =>
     have g3:decide (((J6 rs n).length:Int)>1000)=true:=by unfold long at hg;simp at hg ⊢;omega
     have hany:rs.any long=true:=List.any_eq_true.2 ⟨_,Uo hlt,hg⟩
     clear hg HC HB
     go_wp2
     go_ret
     exact ⟨by rw [HS.out,hany];rfl,G1⟩
    | false =>
     have g3:decide (((J6 rs n).length:Int)>1000)=false:=by unfold long at hg;simp at hg ⊢;omega
     have HG:=q9 hg
     clear hg
     go_wp2
     go_roundw
     case rel =>
      refine ⟨n+1,by omega,by go_num,rfl,fun i hi'=>?_⟩
      by_cases hin:i=n
      ·rw [hin];exact HG.out
      ·exact hi i (by omega)
     case measure=>simp [intOf];omega
   ·obtain rfl:n=rs.length:=by omega
    have hany:rs.any long=false:=qa8 hi
    have HA:=q9 hany
    clear hi hany hn
    go_wp2_with fail
    clear c0 c1 c2 c3 c4 c5 c6 g g2
    go_loopw [5] (qdu wr bs #[.int .i64 t,.int .i64 c,.int .i64 wd,.int .i64 v,.slice a rs.length cap,.slice a2 ps.length cap2,vd] rs) (fun x _=>rs.length - (intOf x).toNat)
    case atStart=>exact ⟨0,Nat.zero_le _,rfl,HB.out,Fr.refl _ _,by omega⟩
    case round =>
     obtain ⟨n,hn,rfl,hb,Fq,hi⟩:=hrel
     obtain ⟨c0,c1,c2,c3,c4,c5,c6⟩:=q2r hb
     by_cases hlt:n<rs.length
     ·rcases HC.out with hz | ⟨b,off,rfl,hbb,hcell⟩
      ·omega
      go_wp2_with fail
      go_loopw [6] (qdt wr bs #[.int .i64 t,.int .i64 c,.int .i64 wd,.int .i64 v,.slice (some ⟨b,off,none⟩) rs.length cap,.slice a2 ps.length cap2,vd] (J6 rs n)) (fun x _=>(J6 rs n).length - (intOf x).toNat)
      case atStart=>exact ⟨0,Nat.zero_le _,rfl,hb,Fr.refl _ _,by omega⟩
      case round =>
       obtain ⟨m,hm,rfl,hb2,Fz,hj⟩:=hrel
       clear c0 c1 c2 c3 c4 c5 c6 hb
       have G2:=(G1.trans Fq).trans Fz
       obtain ⟨c0,c1,c2,c3,c4,c5,c6⟩:=q2r hb2
       have d0:=Zu G2 (hcell n hlt)
       obtain ⟨a3,cap3,hxe,hl3,-,hc3⟩:=(HR.out n hlt).up G2
       rw [hxe] at d0
       unfold maxLen at hl3
       by_cases hlt2:m<(J6 rs n).length
       ·rcases hc3 with hz | ⟨b2,off2,rfl,hbb2,hcell2⟩
        ·omega
        obtain ⟨d1,d2,d3,d4⟩:=hcell2 m hlt2
        clear hcell2 hxe
        go_wp2_with fail
        refine (q9k _ _ _ _ _).mono ?_;rintro e wy ⟨rfl,Fy⟩
        have hb3:=qbi Fy hb2
        clear c0 c1 c2 c3 c4 c5 c6 d0 d1 d2 d3 d4 hb2
        cases hg:qd9 (q2x (J6 rs n) m) with
        | false =>
         have hg':=hg
         unfold qd9 at hg'
         rw [hg']
         go_wp2
         go_ret
         exact ⟨by rw [HS.out,HA.out,q77 (Uo hlt) (q77 (q8t hlt2) hg)];rfl,G2.trans Fy⟩
        | true =>
         have hg':=hg
         unfold qd9 at hg'
         rw [hg']
         go_wp2
         go_roundw
         case rel =>
          refine ⟨m+1,by omega,by go_num,hb3,Fz.trans Fy,fun i hi'=>?_⟩
          by_cases hin:i=m
          ·rw [hin];exact hg
          ·exact hj i (by omega)
         case measure=>simp [intOf];omega
       ·obtain rfl:m=(J6 rs n).length:=by omega
        clear hc3 hxe
        go_wp2
        go_roundw
        case rel =>
         refine ⟨n+1,by omega,by go_num,hb2,Fq.trans Fz,fun i hi'=>?_⟩
         by_cases hin:i=n
         ·rw [hin];exact qao hj
         ·exact hi i (by omega)
        case measure=>simp [intOf];omega
     ·obtain rfl:n=rs.length:=by omega
      go_wp2
      go_ret
      exact ⟨by rw [HS.out,HA.out,q9r hi];rfl,G1.trans Fq⟩
 ·have hsc:Qg t c wd v rs ps=Pl.code t c wd v:=by rw [Qg,qd hcp]
  have g:(Pl.code t c wd v != 0)=true:=by simp [hcp]
  clear hb
  generalize Pl.code t c wd v=q at *
  clear hcp
  go_wp2
  go_ret
  exact ⟨by rw [hsc];rfl,G1⟩
end Go.Proofs.YtppajakfaomkaaaGreat.Ro
