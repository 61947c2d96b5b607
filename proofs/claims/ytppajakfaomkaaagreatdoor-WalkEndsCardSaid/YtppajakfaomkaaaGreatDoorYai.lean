/- Parts. -/
import Derived.Test.YtppajakfaomkaaaGreatDoorYac
import Derived.Test.YtppajakfaomkaaaGreatDoorYae
import Derived.Test.YtppajakfaomkaaaGreatDoorYag
import Derived.Test.YtppajakfaomkaaaGreatDoorYah
set_option linter.unusedVariables false
set_option linter.unusedSimpArgs false
set_option maxRecDepth 100000
set_option maxHeartbeats 12800000
namespace Go.Proofs.YtppajakfaomkaaaGreatDoor.Og
open Go.RowKit Go.Maps Ar
theorem qak {w w':World} (f:Fr [] w w') {b:Nat} {o:Obj} (h:w.heap[b]? = some o):w'.heap[b]? = some o:=f.heap h (by simp)
def sc (r:Nat):Value:=.agg #[.int .i64 2,.int .i64 4,.int .i64 200,.int .i64 1000,.slice (some ⟨r,0,none⟩) 1 1,.slice none 0 0,.slice none 0 0]
end Go.Proofs.YtppajakfaomkaaaGreatDoor.Og
namespace Go.Proofs.YtppajakfaomkaaaGreatDoor.Ro
open Go.RowKit Go.Maps Ar Og
def LenAt (w:World) (rs:List (List O)) (x:Value) (wr:World):Prop:=∃ n:Nat,n<=rs.length/\x = .int .i64 n/\wr=w/\∀ i,i<n->long (J0 rs i)=false
def qca (w:World) (b:Nat) (Z:Array Value) (rs:List (List O)) (x:Value) (wr:World):Prop:=∃ n:Nat,n<=rs.length/\x = .int .i64 n/\wr.heap[b]? = some (.cells Z 27 (0,0))/\Fr [] w wr/\∀ i,i<n->qce (J0 rs i)=true
def qc7 (w:World) (b:Nat) (Z:Array Value) (os:List O) (x:Value) (wr:World):Prop:=∃ n:Nat,n<=os.length/\x = .int .i64 n/\wr.heap[b]? = some (.cells Z 27 (0,0))/\Fr [] w wr/\∀ i,i<n->qbp (q25 os i)=true
theorem q99 {rs:List (List O)} (h:∀ i,i<rs.length->long (J0 rs i)=false):rs.any long=false:=by
 rw [List.any_eq_false];intro y hy
 obtain ⟨i,hi,rfl⟩:=List.getElem_of_mem hy
 have:=h i hi
 unfold J0 at this
 simpa [List.getD_eq_getElem?_getD,hi] using this
theorem Yy (t c wd v:Int) (rs:List (List O)) (ps ds:List Int) (s:Value) (w:World) (h:Scr w s t c wd v rs ps ds) :
  Calls Tryz.prog 65 #[s] w fun e w'=>e = .returned (.int .i64 (Z7 t c wd v rs ps))/\Fr [] w w':=by
 obtain ⟨vo,vp,vd,rfl,hr,hp,hd⟩:=h
 obtain ⟨a,cap,x,rfl,hl,hc,hrow⟩:=hr
 obtain ⟨a2,cap2,rfl,hl2,-,-⟩:=hp
 have HC:=q9 hc
 have HR:=q9 hrow
 clear hc hrow hd
 unfold maxLen at hl hl2
 go_enter Tryz.func65,Tryz.ntmps65
 go_wp2_with fail
 refine (Ref.q2k t c wd v _).mono ?_;rintro e w1 ⟨rfl,F1⟩
 have hb:=F1.heap (Go.heap_alloc_new w (.cells #[.int .i64 t,.int .i64 c,.int .i64 wd,.int .i64 v,.slice a rs.length cap,.slice a2 ps.length cap2,vd] 27)) (by simp)
 have G1:=((Fr.refl [] w).alloc (.cells #[.int .i64 t,.int .i64 c,.int .i64 wd,.int .i64 v,.slice a rs.length cap,.slice a2 ps.length cap2,vd] 27)).trans F1
 clear F1
 generalize w.heap.size=bs at *
 by_cases hcp:Pl.code t c wd v=0
 ·have hsc:Z7 t c wd v rs ps=if large t rs ps=true then 12 else if rs.all qce=true then 0 else 10:=by rw [Z7,qf hcp]
  rw [hcp]
  clear hcp
  obtain ⟨c0,c1,c2,c3,c4,c5,c6⟩:=q1u hb
  by_cases h1:t<rs.length
  ·have g:decide ((rs.length:Int)>t)=true:=by simpa using h1
   have e:large t rs ps=true:=by unfold large;simp [h1]
   rw [qf e] at hsc
   clear hb
   go_wp2
   go_ret
   exact ⟨by rw [hsc];rfl,G1⟩
  have g:decide ((rs.length:Int)>t)=false:=by simpa using h1
  by_cases h2:20000<ps.length
  ·have g2:decide ((ps.length:Int)>20000)=true:=by simp;omega
   have e:large t rs ps=true:=by unfold large;simp [h2]
   rw [qf e] at hsc
   clear hb
   go_wp2
   go_ret
   exact ⟨by rw [hsc];rfl,G1⟩
  have g2:decide ((ps.length:Int)>20000)=false:=by simp;omega
  have hlg:large t rs ps=rs.any long:=by unfold large;simp [h1,h2]
  rw [hlg] at hsc
  have HB:=q9 hb
  have HS:=q9 hsc
  clear hsc hlg hb h1 h2
  go_wp2_with fail
  go_loopw [4] (LenAt w1 rs) (fun x _=>rs.length - (intOf x).toNat)
  case atStart=>exact ⟨0,Nat.zero_le _,rfl,rfl,by omega⟩
  case round =>
   obtain ⟨n,hn,rfl,rfl,hi⟩:=hrel
   by_cases hlt:n<rs.length
   ·rcases HC.out with hz | ⟨b,off,rfl,hbb,hcell⟩
    ·omega
    have d0:=Zl G1 (hcell n hlt)
    obtain ⟨a3,cap3,hxe,hl3,-,-⟩:=HR.out n hlt
    rw [hxe] at d0
    clear hcell hxe
    cases hg:long (J0 rs n) with
    | true =>
     have g3:decide (((J0 rs n).length:Int)>1000)=true:=by unfold long at hg;simp at hg ⊢;omega
     have hany:rs.any long=true:=List.any_eq_true.2 ⟨_,U0 hlt,hg⟩
     clear hg HC HB
     go_wp2
     go_ret
     exact ⟨by rw [HS.out,hany];rfl,G1⟩
    | false =>
     have g3:decide (((J0 rs n).length:Int)>1000)=false:=by unfold long at hg;simp at hg ⊢;omega
     have HG:=q9 hg
     clear hg
     go_wp2
     go_roundw
     case rel =>
      refine ⟨n+1,by omega,by go_num,rfl,fun i hi'=>?_⟩
      by_cases hin:i=n
      ·rw [hin];exact HG.out
      ·exact hi i (by omega)
     case measure=>simp [intOf];omega
   ·obtain rfl:n=rs.length:=by omega
    have hany:rs.any long=false:=q99 hi
    have HA:=q9 hany
    clear hi hany hn
    go_wp2_with fail
    clear c0 c1 c2 c3 c4 c5 c6 g g2
    go_loopw [5] (qca wr bs #[.int .i64 t,.int .i64 c,.int .i64 wd,.int .i64 v,.slice a rs.length cap,.slice a2 ps.length cap2,vd] rs) (fun x _=>rs.length - (intOf x).toNat)
    case atStart=>exact ⟨0,Nat.zero_le _,rfl,HB.out,Fr.refl _ _,by omega⟩
    case round =>
     obtain ⟨n,hn,rfl,hb,Fq,hi⟩:=hrel
     obtain ⟨c0,c1,c2,c3,c4,c5,c6⟩:=q1u hb
     by_cases hlt:n<rs.length
     ·rcases HC.out with hz | ⟨b,off,rfl,hbb,hcell⟩
      ·omega
      go_wp2_with fail
      go_loopw [6] (qc7 wr bs #[.int .i64 t,.int .i64 c,.int .i64 wd,.int .i64 v,.slice (some ⟨b,off,none⟩) rs.length cap,.slice a2 ps.length cap2,vd] (J0 rs n)) (fun x _=>(J0 rs n).length - (intOf x).toNat)
      case atStart=>exact ⟨0,Nat.zero_le _,rfl,hb,Fr.refl _ _,by omega⟩
      case round =>
       obtain ⟨m,hm,rfl,hb2,Fz,hj⟩:=hrel
       clear c0 c1 c2 c3 c4 c5 c6 hb
       have G2:=(G1.trans Fq).trans Fz
       obtain ⟨c0,c1,c2,c3,c4,c5,c6⟩:=q1u hb2
       have d0:=Zl G2 (hcell n hlt)
       obtain ⟨a3,cap3,hxe,hl3,-,hc3⟩:=(HR.out n hlt).up G2
       rw [hxe] at d0
       unfold maxLen at hl3
       by_cases hlt2:m<(J0 rs n).length
       ·rcases hc3 with hz | ⟨b2,off2,rfl,hbb2,hcell2⟩
        ·omega
        obtain ⟨d1,d2,d3,d4⟩:=hcell2 m hlt2
        clear hcell2 hxe
        go_wp2_with fail
        refine (q7j _ _ _ _ _).mono ?_;rintro e wy ⟨rfl,Fy⟩
        have hb3:=qak Fy hb2
        clear c0 c1 c2 c3 c4 c5 c6 d0 d1 d2 d3 d4 hb2
        cases hg:qbp (q25 (J0 rs n) m) with
        | false =>
         have hg':=hg
         unfold qbp at hg'
         rw [hg']
         go_wp2
         go_ret
         exact ⟨by rw [HS.out,HA.out,q55 (U0 hlt) (q55 (q83 hlt2) hg)];rfl,G2.trans Fy⟩
        | true =>
         have hg':=hg
         unfold qbp at hg'
         rw [hg']
         go_wp2
         go_roundw
         case rel =>
          refine ⟨m+1,by omega,by go_num,hb3,Fz.trans Fy,fun i hi'=>?_⟩
          by_cases hin:i=m
          ·rw [hin];exact hg
          ·exact hj i (by omega)
         case measure=>simp [intOf];omega
       ·obtain rfl:m=(J0 rs n).length:=by omega
        clear hc3 hxe
        go_wp2
        go_roundw
        case rel =>
         refine ⟨n+1,by omega,by go_num,hb2,Fq.trans Fz,fun i hi'=>?_⟩
         by_cases hin:i=n
         ·rw [hin];exact q8n hj
         ·exact hi i (by omega)
        case measure=>simp [intOf];omega
     ·obtain rfl:n=rs.length:=by omega
      go_wp2
      go_ret
      exact ⟨by rw [HS.out,HA.out,q9i hi];rfl,G1.trans Fq⟩
 ·have hsc:Z7 t c wd v rs ps=Pl.code t c wd v:=by rw [Z7,qd hcp]
  have g:(Pl.code t c wd v != 0)=true:=by simp [hcp]
  clear hb
  generalize Pl.code t c wd v=q at *
  clear hcp
  go_wp2
  go_ret
  exact ⟨by rw [hsc];rfl,G1⟩
end Go.Proofs.YtppajakfaomkaaaGreatDoor.Ro
