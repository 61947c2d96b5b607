/- Texts that this proof leans on, one behind the other: Cc2, Cv1, Cv2, Cc3, Cv3, Cv4. -/
import Derived.Test.YtmdplidjkkjmmaaDoorQad
import Derived.Test.YtmdplidjkkjmmaaDoorQae
import Derived.Test.YtmdplidjkkjmmaaDoorQag
set_option linter.unusedVariables false
set_option linter.unusedSimpArgs false
set_option maxRecDepth 100000
set_option maxHeartbeats 12800000
namespace Go.Proofs.YtmdplidjkkjmmaaDoor.Cc
open Go.RowKit Go.Proofs.YtmdplidjkkjmmaaDoor.Ar Go.Proofs.YtmdplidjkkjmmaaDoor.Mx
def Cx.new (rm ch ky dt:Int):Cx:=⟨ch,ky,dt,rm,0,0,-1,0,0,0,0,0,0⟩
theorem new_any (c:Cf) (ch ky dt:Int) (w:World):Calls Tryd.prog 11 #[c.val,.int .i64 ch,.int .i64 ky,.int .i64 dt] w fun e w'=>∃ b,e = .returned (.pointer (some ⟨b,0,none⟩))∧w.heap.size≤b∧CxAt w' b 60 #[] #[] (Cx.new c.c ch ky dt)∧Fr [] w w':=by
 unfold Cf.val
 obtain ⟨c0,c1,c2,c3⟩:=Pl.cells4 (Go.heap_alloc_new w (.cells #[.int .i64 c.t,.int .i64 c.c,.int .i64 c.wd,.int .i64 c.v] 25))
 have F0:=(Fr.refl [] w).alloc (.cells #[.int .i64 c.t,.int .i64 c.c,.int .i64 c.wd,.int .i64 c.v] 25)
 go_enter Tryd.func11,Tryd.ntmps11
 go_wp2_with fail
 go_ret
 exact ⟨_,rfl,by omega,Ob.newAt (sizeA _ _) _ _,F0.alloc _⟩
section
variable {w:World} {b o p q:Nat} {T:TypeId} {pre post:Array Value} {y:Cx} {s:St}
def Cx.ver (y:Cx):Int:=if Word.versionI y.f7<0 then 0 else Word.versionI y.f7
def Cx.has (y:Cx):Bool:=decide (0≤Word.versionI y.f7)
def PostV (w:World) (v:Int) (g:Bool) (e:Ending) (w':World):Prop:=e = .returned (.tuple #[.int .i64 v,.bool g])∧Fr [] w w'
theorem ver_any (hf:y.f7≤9223372036854775807) (h:CxAt w b T pre post y) (ho:pre.size=o):Calls Tryd.prog 16 #[.pointer (some ⟨b,o,none⟩)] w (PostV w y.ver y.has):=by
 obtain ⟨-,-,-,-,-,-,-,c7⟩:=cx_cells h ho
 have HV:=Lib.hid (Word.version_any y.f7 w hf)
 clear h hf
 unfold Cx.ver Cx.has
 generalize Word.versionI y.f7=v at *
 by_cases e1:v<0
 ·have g1:decide (v<0)=true:=by simpa using e1
  rw [if_pos e1,show decide (0≤v)=false by simp;omega]
  go_enter Tryd.func16,Tryd.ntmps16
  go_wp2_with fail
  refine HV.out.mono ?_;rintro e w2 ⟨rfl,rfl⟩
  go_wp2
  exact bodyPost_ret (v:=.tuple #[.int .i64 0,.bool false]) (by simp [results,Tryd.results16,go_sem]) rfl ⟨rfl,Fr.refl _ _⟩
 ·have g1:decide (v<0)=false:=by simpa using e1
  rw [if_neg e1,show decide (0≤v)=true by simp;omega]
  go_enter Tryd.func16,Tryd.ntmps16
  go_wp2_with fail
  refine HV.out.mono ?_;rintro e w2 ⟨rfl,rfl⟩
  go_wp2
  exact bodyPost_ret (v:=.tuple #[.int .i64 v,.bool true]) (by simp [results,Tryd.results16,go_sem]) rfl ⟨rfl,Fr.refl _ _⟩
end
def CcIs (w:World) (b:Nat) (y:Cx):Prop:=CxAt w b 60 #[] #[] y
theorem CcIs.up {w w':World} {b:Nat} {y:Cx} (h:CcIs w b y) (f:Fr [] w w'):CcIs w' b y:=Pb.up h f
theorem CcIs.kept {S:List Nat} {w w':World} {b:Nat} {y:Cx} (h:CcIs w b y) (f:Fr S w w') (hb:b∉S):CcIs w' b y:=Pb.kept h f hb
theorem CcIs.lt {w:World} {b:Nat} {y:Cx} (h:CcIs w b y):b<w.heap.size:=Pb.lt h
def runC:Nat→Cx→St→Cx×St
 | 0,y,s=>(y,s)
 | n+1,y,s=>let r:=runC n y s;r.1.go r.2
theorem go_ln {y:Cx} {s:St} (h:0≤y.ln∧y.ln≤8):0≤(y.go s).1.ln∧(y.go s).1.ln≤8:=by
 unfold Cx.go
 by_cases e:y.ln=8
 ·rw [if_pos e];exact h
 ·rw [if_neg e]
  show 0≤y.nx s∧y.nx s≤8
  unfold Cx.nx
  split <;> omega
theorem run_ln {y:Cx} {s:St} (h:0≤y.ln∧y.ln≤8):∀ n,0≤(runC n y s).1.ln∧(runC n y s).1.ln≤8
 | 0=>h
 | n+1=>go_ln (run_ln h n)
def PostK (w:World) (b p q:Nat) (y:Cx) (s:St) (e:Ending) (w':World):Prop:=e = .returned (.bool (decide (y.ln=8)))∧CcIs w' b y∧Ar w' p q s∧Fr [b,p,q] w w'
theorem kstep_any {w:World} {b p q:Nat} {y:Cx} {s:St} (hl:0≤y.ln∧y.ln≤8) (t:Word.Tab w) (h:CcIs w b y) (hA:Ar w p q s) (hne:b≠p∧b≠q) (hg:0≠p∧0≠q∧0≠b):Calls Tryd.prog 13 #[.pointer (some ⟨b,0,none⟩),.pointer (some ⟨p,0,none⟩)] w (PostK w b p q (y.go s).1 (y.go s).2) :=
 (step_any (o:=0) hl t h rfl hA hne hg).mono fun e w' h=>h
theorem kplc_any {w:World} {b:Nat} {y:Cx} (h:CcIs w b y):Calls Tryd.prog 17 #[.pointer (some ⟨b,0,none⟩)] w fun e w'=>e = .returned (.int .i64 y.plc)∧Fr [] w w':=plc_any (o:=0) h rfl
theorem kver_any {w:World} {b:Nat} {y:Cx} (hf:y.f7≤9223372036854775807) (h:CcIs w b y):Calls Tryd.prog 16 #[.pointer (some ⟨b,0,none⟩)] w (PostV w y.ver y.has):=ver_any (o:=0) hf h rfl
theorem pk_defC (l:List Int) (q:Int):peek l q=if 0≤q∧q<(l.length:Int) then l.getD q.toNat 0 else 0:=by
 unfold peek isAt nth
 simp only [Bool.and_eq_true,decide_eq_true_eq]
theorem pk_pokeC (l:List Int) (p v q:Int):peek (poke l p v) q=if q=p∧0≤p∧p<(l.length:Int) then v else peek l q:=by
 by_cases hp:0≤p∧p<(l.length:Int)
 ·obtain ⟨k,rfl⟩:=Int.eq_ofNat_of_zero_le hp.1
  have hk:k<l.length:=by omega
  have e:poke l (k:Int) v=l.set k v:=by unfold poke isAt;simp [hk]
  rw [e,pk_defC,pk_defC l,List.length_set]
  by_cases hq:0≤q∧q<(l.length:Int)
  ·rw [if_pos hq,if_pos hq]
   by_cases h:q=(k:Int)
   ·subst h
    rw [if_pos ⟨rfl,hp⟩,Int.toNat_natCast,List.getD_eq_getElem?_getD,List.getElem?_set_self hk];rfl
   ·rw [if_neg (by omega),List.getD_eq_getElem?_getD,List.getD_eq_getElem?_getD,List.getElem?_set_ne (by omega)]
  ·rw [if_neg hq,if_neg hq,if_neg (by omega)]
 ·have e:poke l p v=l:=by unfold poke;rw [if_neg (by unfold isAt;simp;omega)]
  rw [e,if_neg (by omega)]
theorem ln_swap (s:St) (a o v:Int):(s.swap a o v).l=if 0≤a∧a<(s.l.length:Int)∧peek s.l a=o then poke s.l a v else s.l:=by
 unfold St.swap St.can isAt
 by_cases h:0≤a∧a<(s.l.length:Int)∧peek s.l a=o
 ·rw [if_pos h,if_pos (by simp [h.1,h.2.1,h.2.2])];rfl
 ·rw [if_neg h]
  by_cases h2:(decide (0≤a) && decide (a<(s.l.length:Int)) && (peek s.l a == o))=true
  ·exfalso;simp at h2;exact h ⟨h2.1.1,h2.1.2,h2.2⟩
  ·rw [if_neg h2];rfl
theorem can_iff (s:St) (a o:Int):s.can a o=true↔(0≤a∧a<(s.l.length:Int)∧peek s.l a=o):=by
 unfold St.can isAt;simp [and_assoc]
theorem sa_in {y:Cx} (h:0≤y.ch∧y.ch≤100000) (h2:0≤y.f1∧y.f1≤1000):y.sa=y.ch+7+3 * y.f1:=by
 unfold Cx.sa stAt;exact w64 (by omega) (by omega)
section
variable {y:Cx} {s:St}
theorem go0 (hl:y.ln=0) (h:0≤y.ch∧y.ch≤100000):(y.go s).1 = { y with ln:=if peek s.l (y.ch+6)=0 then 1 else 8 } ∧ (y.go s).2.l=s.l:=by
 unfold Cx.go Cx.step Cx.act Cx.put Cx.nx Cx.goes
 rw [if_neg (by omega)]
 simp only [hl,w64 (a:=y.ch+6) (by omega) (by omega)]
 refine ⟨?_,rfl⟩
 by_cases e:peek s.l (y.ch+6)=0 <;> simp [e]
theorem go1 (hl:y.ln=1) (h:0≤y.ch∧y.ch≤100000):(y.go s).1 = { y with f1:=peek s.l (y.ch+1),ln:=if 0≤peek s.l (y.ch+1)∧peek s.l (y.ch+1)<y.rm then 2 else 8 } ∧ (y.go s).2.l=poke s.l (y.ch+1) (wrap64 (peek s.l (y.ch+1)+1)):=by
 unfold Cx.go Cx.step Cx.act Cx.put Cx.nx Cx.goes Cx.put
 rw [if_neg (by omega)]
 simp only [hl,w64 (a:=y.ch+1) (by omega) (by omega)]
 refine ⟨?_,rfl⟩
 generalize peek s.l (y.ch+1)=v
 simp only [Cx.plc]
 by_cases e1:v<0
 ·simp [e1] <;> omega
 ·by_cases e2:y.rm≤v
  ·simp [e1,e2] <;> omega
  ·simp [e1,e2]
   rw [if_neg (by omega),if_pos (by omega)]
theorem go2 (hl:y.ln=2) (h:0≤y.ch∧y.ch≤100000) (h2:0≤y.f1∧y.f1≤1000):(y.go s).1 = { y with ln:=3 } ∧ (y.go s).2.l=poke s.l (y.ch+7+3 * y.f1+1) y.ky:=by
 have e:=sa_in h h2
 unfold Cx.go Cx.step Cx.act Cx.put Cx.nx Cx.goes
 rw [if_neg (by omega)]
 simp only [hl,e,w64 (a:=y.ch+7+3 * y.f1+1) (by omega) (by omega)]
 exact ⟨rfl,rfl⟩
theorem go3 (hl:y.ln=3) (h:0≤y.ch∧y.ch≤100000) (h2:0≤y.f1∧y.f1≤1000):(y.go s).1 = { y with ln:=4 } ∧ (y.go s).2.l=poke s.l (y.ch+7+3 * y.f1+2) y.dt:=by
 have e:=sa_in h h2
 unfold Cx.go Cx.step Cx.act Cx.put Cx.nx Cx.goes
 rw [if_neg (by omega)]
 simp only [hl,e,w64 (a:=y.ch+7+3 * y.f1+2) (by omega) (by omega)]
 exact ⟨rfl,rfl⟩
theorem go4 (hl:y.ln=4) (h:0≤y.ch∧y.ch≤100000) (h2:0≤y.f1∧y.f1≤1000) (h3:y.ch+7+3 * y.f1<(s.l.length:Int)):(y.go s).1 = { y with ln:=if peek s.l (y.ch+7+3 * y.f1)=0 then 5 else 8 } ∧ (y.go s).2.l=if peek s.l (y.ch+7+3 * y.f1)=0 then poke s.l (y.ch+7+3 * y.f1) 1 else s.l:=by
 have e:=sa_in h h2
 unfold Cx.go Cx.step Cx.act Cx.put Cx.nx Cx.goes
 rw [if_neg (by omega)]
 simp only [hl,e,ln_swap]
 have e2:=can_iff s (y.ch+7+3 * y.f1) 0
 by_cases e1:peek s.l (y.ch+7+3 * y.f1)=0
 ·have e3:s.can (y.ch+7+3 * y.f1) 0=true:=e2.2 ⟨by omega,by omega,e1⟩
  simp [e1,e3,ln_swap] <;> omega
 ·have e3:¬ s.can (y.ch+7+3 * y.f1) 0=true:=fun h=>e1 (e2.1 h).2.2
  simp [e1,e3,ln_swap]
theorem go5 (hl:y.ln=5):(y.go s).1 = { y with f5:=peek s.l 1,ln:=6 } ∧ (y.go s).2.l=s.l:=by
 unfold Cx.go Cx.step Cx.act Cx.put Cx.nx Cx.goes
 rw [if_neg (by omega)]
 simp only [hl]
 exact ⟨rfl,rfl⟩
theorem go6 (hl:y.ln=6) (h:0≤y.ch∧y.ch≤100000) (h2:0≤y.f1∧y.f1≤1000) (h3:y.ch+7+3 * y.f1<(s.l.length:Int)):(y.go s).1 = { y with ln:=7 } ∧ (y.go s).2.l=if peek s.l (y.ch+7+3 * y.f1)=1 then poke s.l (y.ch+7+3 * y.f1) (stateW y.f5) else s.l:=by
 have e:=sa_in h h2
 unfold Cx.go Cx.step Cx.act Cx.put Cx.nx Cx.goes
 rw [if_neg (by omega)]
 simp only [hl,e]
 refine ⟨rfl,?_⟩
 show (s.swap (y.ch+7+3 * y.f1) 1 (stateW y.f5)).l=_
 rw [ln_swap]
 by_cases e1:peek s.l (y.ch+7+3 * y.f1)=1
 ·rw [if_pos e1,if_pos ⟨by omega,by omega,e1⟩]
 ·rw [if_neg e1,if_neg (fun h=>e1 h.2.2)]
theorem go7 (hl:y.ln=7) (h:0≤y.ch∧y.ch≤100000) (h2:0≤y.f1∧y.f1≤1000):(y.go s).1 = { y with f7:=peek s.l (y.ch+7+3 * y.f1),ln:=8 } ∧ (y.go s).2.l=s.l:=by
 have e:=sa_in h h2
 unfold Cx.go Cx.step Cx.act Cx.put Cx.nx Cx.goes
 rw [if_neg (by omega)]
 simp only [hl,e]
 exact ⟨rfl,rfl⟩
end
structure DvI (i:Nat) (y:Cx) (s:St) (dead:Bool) (giv:Int):Prop where
 ch:y.ch=16
 ky:y.ky=5
 dt:y.dt=6
 rm:y.rm=4
 ln:y.ln=i
 le:i≤7
 len:s.l.length=100
 st:peek s.l 22=0
 ck:peek s.l 1=900
 c0:i≤1→peek s.l 17=0
 p:2≤i→y.f1=0
 k:3≤i→peek s.l 24=5
 d:4≤i→peek s.l 25=6
 g:6≤i→y.f5=900
 f7:y.f7=0
 w:(dead=true∧giv = -1∧peek s.l 23=2∧i≤4)∨(dead=false∧0≤giv∧giv≤65535∧peek s.l 23=giv+3∧5≤i)∨(dead=false∧giv = -1∧peek s.l 23=if i≤4 then 0 else if i≤6 then 1 else 903)
structure DvF (y:Cx) (s:St) (dead:Bool) (giv:Int):Prop where
 f7:y.f7≤9223372036854775807
 a:dead=true→y.has=false∧y.ver=0∧peek s.l 23=2
 b:dead=false→0≤giv→y.has=true∧y.ver=giv
 c:dead=false→giv<0→y.has=true∧y.ver=900∧peek s.l 24=5∧peek s.l 25=6
theorem ver_of {y:Cx} {v:Int} (h:y.f7=v+3) (hv:0≤v):y.has=true∧y.ver=v:=by
 unfold Cx.has Cx.ver Word.versionI
 rw [h,if_neg (by omega),if_neg (by omega)]
 exact ⟨by simp;omega,by omega⟩
theorem ver_no {y:Cx} (h:y.f7<3):y.has=false∧y.ver=0:=by
 unfold Cx.has Cx.ver Word.versionI
 rw [if_pos (by omega),if_pos (by omega)]
 exact ⟨rfl,rfl⟩
theorem DvI.step {i:Nat} {y:Cx} {s:St} {dead:Bool} {giv:Int} (h:DvI i y s dead giv):((y.go s).1.ln=8∧DvF (y.go s).1 (y.go s).2 dead giv)∨((y.go s).1.ln≠8∧i≤6∧DvI (i+1) (y.go s).1 (y.go s).2 dead giv):=by
 obtain ⟨ch,ky,dt,rm,ln,le,len,st,ck,c0,p,k,d,g,f7,w⟩:=h
 have hch:0≤y.ch∧y.ch≤100000:=by omega
 rcases (by omega:i=0∨i=1∨i=2∨i=3∨i=4∨i=5∨i=6∨i=7) with rfl | rfl | rfl | rfl | rfl | rfl | rfl | rfl
 ·obtain ⟨e1,e2⟩:=go0 (s:=s) ln hch
  rw [ch,show (16+6:Int)=22 by decide,if_pos st] at e1
  refine .inr ⟨by rw [e1];simp,by omega,?_⟩
  constructor <;> (try rw [e1]) <;> (try rw [e2]) <;> simp_all
 ·obtain ⟨e1,e2⟩:=go1 (s:=s) ln hch
  have c0:=c0 (by omega)
  rw [ch,rm,show (16+1:Int)=17 by decide,c0,if_pos (by omega)] at e1
  rw [ch,show (16+1:Int)=17 by decide,c0,show wrap64 (0+1)=1 from w64 (a:=0+1) (by decide) (by decide)] at e2
  refine .inr ⟨by rw [e1];simp,by omega,?_⟩
  constructor <;> (try rw [e1]) <;> (try rw [e2]) <;> simp_all [pk_pokeC,length_poke]
 ·have p:=p (by omega)
  obtain ⟨e1,e2⟩:=go2 (s:=s) ln hch (by omega)
  rw [ch,ky,p,show (16+7+3 * 0+1:Int)=24 by decide] at e2
  refine .inr ⟨by rw [e1];simp,by omega,?_⟩
  constructor <;> (try rw [e1]) <;> (try rw [e2]) <;> simp_all [pk_pokeC,length_poke]
 ·have p:=p (by omega)
  obtain ⟨e1,e2⟩:=go3 (s:=s) ln hch (by omega)
  rw [ch,dt,p,show (16+7+3 * 0+2:Int)=25 by decide] at e2
  refine .inr ⟨by rw [e1];simp,by omega,?_⟩
  constructor <;> (try rw [e1]) <;> (try rw [e2]) <;> simp_all [pk_pokeC,length_poke]
 ·have p:=p (by omega)
  obtain ⟨e1,e2⟩:=go4 (s:=s) ln hch (by omega) (by omega)
  rw [ch,p,show (16+7+3 * 0:Int)=23 by decide] at e1 e2
  rcases w with ⟨w1,w2,w3,w4⟩ | ⟨w1,w2,w3,w4,w5⟩ | ⟨w1,w2,w3⟩
  ·left
   rw [w3,if_neg (by decide)] at e1 e2
   refine ⟨by rw [e1],?_⟩
   have hv:=ver_no (y:=(y.go s).1) (by rw [e1];show y.f7<3;omega)
   constructor
   ·rw [e1];show y.f7≤_;omega
   ·intro _;exact ⟨hv.1,hv.2,by rw [e2];exact w3⟩
   ·intro h;simp [w1] at h
   ·intro h;simp [w1] at h
  ·omega
  ·rw [if_pos (by omega)] at w3
   rw [if_pos w3] at e1 e2
   refine .inr ⟨by rw [e1];simp,by omega,?_⟩
   constructor <;> (try rw [e1]) <;> (try rw [e2]) <;> simp_all [pk_pokeC,length_poke]
 ·have p:=p (by omega)
  obtain ⟨e1,e2⟩:=go5 (s:=s) ln
  refine .inr ⟨by rw [e1];simp,by omega,?_⟩
  rcases w with ⟨w1,w2,w3,w4⟩ | ⟨w1,w2,w3,w4,w5⟩ | ⟨w1,w2,w3⟩
  ·omega
  ·constructor <;> (try rw [e1]) <;> (try rw [e2]) <;> simp_all
  ·rw [if_neg (by omega),if_pos (by omega)] at w3
   constructor <;> (try rw [e1]) <;> (try rw [e2]) <;> simp_all
 ·have p:=p (by omega)
  have g:=g (by omega)
  obtain ⟨e1,e2⟩:=go6 (s:=s) ln hch (by omega) (by omega)
  rw [ch,p,show (16+7+3 * 0:Int)=23 by decide] at e2
  refine .inr ⟨by rw [e1];simp,by omega,?_⟩
  rcases w with ⟨w1,w2,w3,w4⟩ | ⟨w1,w2,w3,w4,w5⟩ | ⟨w1,w2,w3⟩
  ·omega
  ·rw [if_neg (by omega)] at e2
   constructor <;> (try rw [e1]) <;> (try rw [e2]) <;> simp_all
  ·rw [if_neg (by omega),if_pos (by omega)] at w3
   rw [if_pos w3,g,show stateW 900=903 by decide] at e2
   constructor <;> (try rw [e1]) <;> (try rw [e2]) <;> simp_all [pk_pokeC,length_poke]
 ·have p:=p (by omega)
  obtain ⟨e1,e2⟩:=go7 (s:=s) ln hch (by omega)
  rw [ch,p,show (16+7+3 * 0:Int)=23 by decide] at e1
  refine .inl ⟨by rw [e1],?_⟩
  have e7:(y.go s).1.f7=peek s.l 23:=by rw [e1]
  rcases w with ⟨w1,w2,w3,w4⟩ | ⟨w1,w2,w3,w4,w5⟩ | ⟨w1,w2,w3⟩
  ·omega
  ·constructor
   ·omega
   ·intro h;simp [w1] at h
   ·intro _ _;exact ver_of (by omega) w2
   ·intro _ h;omega
  ·rw [if_neg (by omega),if_neg (by omega)] at w3
   constructor
   ·omega
   ·intro h;simp [w1] at h
   ·intro _ h;omega
   ·intro _ _
    have hv:=ver_of (y:=(y.go s).1) (v:=900) (by omega) (by omega)
    exact ⟨hv.1,hv.2,by rw [e2];exact k (by omega),by rw [e2];exact d (by omega)⟩
theorem DvI.shut {i:Nat} {y:Cx} {s:St} {dead:Bool} {giv:Int} (h:DvI i y s dead giv) (h0:peek s.l 23=0):DvI i y (s.poke 23 2) true (-1)∧giv = -1:=by
 obtain ⟨ch,ky,dt,rm,ln,le,len,st,ck,c0,p,k,d,g,f7,w⟩:=h
 have hp:∀ j,peek (s.poke 23 2).l j=if j=23 then 2 else peek s.l j:=fun j=>by
  show peek (poke s.l 23 2) j=_
  rw [pk_pokeC,len];simp
 have hi:i≤4∧giv = -1:=by
  rcases w with ⟨w1,w2,w3,w4⟩ | ⟨w1,w2,w3,w4,w5⟩ | ⟨w1,w2,w3⟩
  ·omega
  ·omega
  ·refine ⟨?_,w2⟩
   by_cases e:i≤4
   ·exact e
   ·rw [if_neg e] at w3;split at w3 <;> omega
 refine ⟨⟨ch,ky,dt,rm,ln,le,?_,?_,?_,?_,p,?_,?_,g,f7,.inl ⟨rfl,rfl,?_,hi.1⟩⟩,hi.2⟩
 ·show (poke s.l 23 2).length=100;rw [length_poke];exact len
 all_goals (first | (intro hh;rw [hp,if_neg (by decide)];first | exact c0 hh | exact k hh | exact d hh) | (rw [hp];first | exact st | exact ck | rfl))
theorem DvI.give {i:Nat} {y:Cx} {s:St} {dead:Bool} {giv v:Int} (h:DvI i y s dead giv) (h0:peek s.l 23=1) (hv:0≤v∧v≤65535):DvI i y (s.poke 23 (stateW v)) dead v∧giv = -1:=by
 obtain ⟨ch,ky,dt,rm,ln,le,len,st,ck,c0,p,k,d,g,f7,w⟩:=h
 have e3:stateW v=v+3:=by unfold stateW hd;omega
 rw [e3]
 have hp:∀ j,peek (s.poke 23 (v+3)).l j=if j=23 then v+3 else peek s.l j:=fun j=>by
  show peek (poke s.l 23 (v+3)) j=_
  rw [pk_pokeC,len];simp
 have hi:5≤i∧giv = -1∧dead=false:=by
  rcases w with ⟨w1,w2,w3,w4⟩ | ⟨w1,w2,w3,w4,w5⟩ | ⟨w1,w2,w3⟩
  ·omega
  ·omega
  ·refine ⟨?_,w2,w1⟩
   by_cases e:i≤4
   ·rw [if_pos e] at w3;omega
   ·omega
 refine ⟨⟨ch,ky,dt,rm,ln,le,?_,?_,?_,?_,p,?_,?_,g,f7,.inr (.inl ⟨hi.2.2,hv.1,hv.2,?_,hi.1⟩)⟩,hi.2.1⟩
 ·show (poke s.l 23 _).length=100;rw [length_poke];exact len
 all_goals (first | (intro hh;rw [hp,if_neg (by decide)];first | exact c0 hh | exact k hh | exact d hh) | (rw [hp];first | exact st | exact ck | rfl))
def yD:Cx:=Cx.new 4 16 5 6
def sD:St:=(Pl.begun 2 4 100).poke 1 900
theorem DvI.new:DvI 0 yD sD false (-1):=by
 refine ⟨rfl,rfl,rfl,rfl,rfl,by decide,by decide +kernel,by decide +kernel,by decide +kernel,fun _=>by decide +kernel,by omega,by omega,by omega,by omega,rfl,.inr (.inr ⟨rfl,rfl,by decide +kernel⟩)⟩
set_option maxRecDepth 100000
def s0:St:=Pl.begun 1 3 100
def y0:Cx:=Cx.new 3 15 7 99
def s8:St:=(runC 8 y0 s0).2
def s9:St:=s8.poke 21 1
def s10:St:=(y0.go s9).2
theorem end8:(runC 8 y0 s0).1.ln=8∧(runC 8 y0 s0).1.ver=0∧(runC 8 y0 s0).1.has=true∧(runC 8 y0 s0).1.plc=0∧(runC 8 y0 s0).1.f7=3:=by decide +kernel
theorem run8:∀ k,k<8→(runC k y0 s0).1.ln≠8:=by decide +kernel
theorem end9:(y0.go s9).1.ln=8∧(y0.go s9).1.ver=0∧(y0.go s9).1.has=false∧(y0.go s9).1.f7=0:=by decide +kernel
theorem pk10:peek s10.l 16=1∧peek s10.l 22=3∧peek s10.l 23=7:=by decide +kernel
theorem tabLt {w:World} (t:Word.Tab w):0<w.heap.size:=World.block_lt_of_cell? w _ t.1
theorem new1 (w:World):Calls Tryd.prog 11 #[.agg #[.int .i64 1,.int .i64 3,.int .i64 100,.int .i64 1000],.int .i64 15,.int .i64 7,.int .i64 99] w fun e w'=>∃ b,e = .returned (.pointer (some ⟨b,0,none⟩))∧w.heap.size≤b∧CcIs w' b y0∧Fr [] w w':=new_any ⟨1,3,100,1000⟩ 15 7 99 w
def CcR (W:World) (b p q:Nat) (y:Cx) (s:St) (v:Value) (wr:World):Prop:=∃ k,v = .int .i64 (k:Nat)∧k<8∧CcIs wr b (runC k y s).1∧Ar wr p q (runC k y s).2∧Fr [b,p,q] W wr
theorem known_true (w:World) (t:Word.Tab w):Calls Tryd.prog 6 #[] w fun e w'=>e = .returned (.bool true)∧Fr [] w w':=by
 have isE:=Er.isE
 go_enter Tryd.func6,Tryd.ntmps6
 go_wp2_with fail
 refine (Pl.conf_any 1 3 100 _).mono ?_;rintro e w1 ⟨rfl,F1⟩
 have G:=F1.alloc (.cells #[.int .i64 1,.int .i64 3,.int .i64 100,.int .i64 1000] 25)
 have oc:=Ob.new w1 25 #[.int .i64 1,.int .i64 3,.int .i64 100,.int .i64 1000]
 obtain ⟨c0,c1,c2,c3⟩:=Pl.cells4 oc
 have hcw:=oc.lt
 have hw1:=F1.size
 clear F1
 go_wp2_with fail
 refine (Pl.make_yes 1 3 100 1000 (by decide) _).mono ?_;rintro e w2 ⟨p,q,rfl,hp,hq,A,F2⟩
 rw [sizeA] at hp hq
 replace oc:=oc.up F2
 have hcw2:=oc.lt
 have hA2:=A.lt
 replace G:=G.trans F2
 have hG:=G.size
 have A:Ar w2 p q s0:=A
 clear F2 c0 c1 c2 c3
 generalize hbc:w1.heap.size=bc at *
 have nqc:bc≠q:=by omega
 have npc:bc≠p:=by omega
 have hwq:w.heap.size≤q:=by omega
 have hwp:w.heap.size≤p:=by omega
 obtain ⟨c0,c1,c2,c3⟩:=Pl.cells4 oc
 go_wp2_with fail
 refine (Pl.first_any 1 3 100 1000 (by decide) (by decide) _).mono ?_;rintro e w3 ⟨rfl,F3⟩
 replace A:=A.kept F3
 replace oc:=oc.up F3
 replace G:=G.trans F3
 clear F3 c0 c1 c2 c3 hG hA2 hcw2 hcw
 rw [show (3+1+4+7:Int)=15 by decide]
 obtain ⟨c0,c1,c2,c3⟩:=Pl.cells4 oc
 have hcl:=oc.lt
 have hA3:=A.lt
 have hG:=G.size
 go_wp2_with fail
 refine (new1 _).mono ?_;rintro e w4 ⟨b,rfl,hb,D,F4⟩
 replace A:=A.kept F4
 replace oc:=oc.up F4
 replace G:=G.trans F4
 have hlt:=tabLt t
 have HN:=Lib.hid (show (b≠p∧b≠q)∧(0≠p∧0≠q∧0≠b∧0≠bc)∧(bc≠b∧bc≠p∧bc≠q)∧(w.heap.size≤b∧w.heap.size≤p∧w.heap.size≤q∧w.heap.size≤bc) by omega)
 have HT:=Lib.hid (Gq.tab_up t G)
 have HO:=Lib.hid oc
 have HG:=Lib.hid G
 have HP:=Lib.hid (kplc_any D)
 clear F4 c0 c1 c2 c3 t hcl hw1 hp hq hA3 hG hb hlt oc G hbc nqc npc hwq hwp
 go_wp2_with fail
 refine HP.out.mono ?_;rintro e w5 ⟨rfl,F5⟩
 replace D:=D.up F5
 replace A:=A.kept F5
 have HT5:=Lib.hid (Gq.tab_up HT.out F5)
 have HO5:=Lib.hid (HO.out.up F5)
 have HG5:=Lib.hid (HG.out.trans F5)
 rw [show y0.plc = -1 from by decide]
 clear F5 HT HO HG HP
 go_wp2_with fail
 go_loopw [6] (CcR w5 b p q y0 s0) (fun v _=>20 - (intOf v).toNat)
 case atStart=>exact ⟨0,rfl,by omega,D,A,Fr.refl _ _⟩
 ·skip
  obtain ⟨k,rfl,hk8,D2,A2,F2⟩:=hrel
  have HS:=Lib.hid (kstep_any (run_ln (y:=y0) (s:=s0) (by decide) k) (Gq.tab_kept HT5.out F2 (by simp;exact ⟨HN.out.2.1.2.2.1,HN.out.2.1.1,HN.out.2.1.2.1⟩)) D2 A2 HN.out.1 ⟨HN.out.2.1.1,HN.out.2.1.2.1,HN.out.2.1.2.2.1⟩)
  have HF:=Lib.hid F2
  have g1:decide ((k:Int)<20)=true:=by simp;omega
  clear D2 A2 F2 D A
  go_wp2_with fail
  refine HS.out.mono ?_;rintro e w6 ⟨rfl,D3,A3,F3⟩
  have HF4:=Lib.hid (HF.out.trans F3)
  clear HF F3
  by_cases hk:k<7
  ·have g3:decide (((runC k y0 s0).1.go (runC k y0 s0).2).1.ln=8)=false:=by simp;exact run8 (k+1) (by omega)
   go_wp2_with fail
   go_roundw
   case rel=>exact ⟨k+1,by simp,by omega,D3,A3,HF4.out⟩
   case measure=>simp [intOf];omega
  ·obtain rfl:k=7:=by omega
   have g3:decide (((runC 7 y0 s0).1.go (runC 7 y0 s0).2).1.ln=8)=true:=by simp;exact end8.1
   have D4:CcIs w6 b (runC 8 y0 s0).1:=D3
   have A4:Ar w6 p q s8:=A3
   have HA:=Lib.hid A4
   have HD:=Lib.hid D4
   have HV:=Lib.hid (kver_any (by rw [end8.2.2.2.2];decide) D4)
   rw [end8.2.1,end8.2.2.1] at HV
   have FF:=HF4.out
   have o5:=HO5.out.kept FF (by simp;exact HN.out.2.2.1)
   have t5:=Gq.tab_kept HT5.out FF (by simp;exact ⟨HN.out.2.1.2.2.1,HN.out.2.1.1,HN.out.2.1.2.1⟩)
   have HG6:=Lib.hid (HG5.out.own FF (by simp;exact ⟨HN.out.2.2.2.1,HN.out.2.2.2.2.1,HN.out.2.2.2.2.2.1⟩))
   have HT6:=Lib.hid t5
   have HO6:=Lib.hid o5
   clear D3 A3 HS D4 A4 FF HF4 o5 t5
   go_wp2_with fail
   refine HV.out.mono ?_;rintro e w7 ⟨rfl,F7⟩
   have HD7:=Lib.hid (HD.out.up F7)
   have HA7:=Lib.hid (HA.out.kept F7)
   have HT7:=Lib.hid (Gq.tab_up HT6.out F7)
   have HO7:=Lib.hid (HO6.out.up F7)
   have HG7:=Lib.hid (HG6.out.trans F7)
   clear F7 HV HD HA HT6 HO6 HG6
   go_wp2_with fail
   refine (poke_any _ p q _ _ _ HA7.out).mono ?_;rintro e w8 ⟨rfl,A8,F8⟩
   have A8:Ar w8 p q s9:=A8
   have o8:=HO7.out.kept F8 (by simp;exact HN.out.2.2.1.2.2)
   have hA8:=A8.lt
   have hD8:=(HD7.out.kept F8 (by simp;exact HN.out.1.2)).lt
   have t8:=Gq.tab_kept HT7.out F8 (by simp;exact HN.out.2.1.2.1)
   have hlt:=tabLt t8
   have HD8:=Lib.hid (HD7.out.kept F8 (by simp;exact HN.out.1.2))
   have HG8:=Lib.hid (HG7.out.own F8 (by simp;exact HN.out.2.2.2.2.2.1))
   have hG:=HG8.out.size
   obtain ⟨c0,c1,c2,c3⟩:=Pl.cells4 o8
   clear F8 HA7 HD7 HT7 HO7 HG7 o8
   go_wp2_with fail
   refine (new1 _).mono ?_;rintro e w9 ⟨b2,rfl,hb2,D9,F9⟩
   have A9:=A8.kept F9
   have t9:=Gq.tab_up t8 F9
   have HN2:=Lib.hid (show (b2≠p∧b2≠q)∧0≠b2∧b≠b2∧w.heap.size≤b2 by omega)
   have HD9:=Lib.hid (HD8.out.up F9)
   have HG9:=Lib.hid (HG8.out.trans F9)
   have HS:=Lib.hid (kstep_any (y:=y0) (by decide) t9 D9 A9 HN2.out.1 ⟨HN.out.2.1.1,HN.out.2.1.2.1,HN2.out.2.1⟩)
   clear c0 c1 c2 c3 hA8 hD8 t8 hlt hG hb2 D9 F9 A9 t9 A8 HD8 HG8
   go_wp2_with fail
   refine HS.out.mono ?_;rintro e w10 ⟨rfl,D10,A10,F10⟩
   rw [show decide ((y0.go s9).1.ln=8)=true from decide_eq_true end9.1]
   have HV:=Lib.hid (kver_any (by rw [end9.2.2.2];decide) D10)
   rw [end9.2.1,end9.2.2.1] at HV
   have HA10:=Lib.hid (show Ar w10 p q s10 from A10)
   have HD10:=Lib.hid (HD9.out.kept F10 (by simp;exact ⟨HN2.out.2.2.1,HN.out.1⟩))
   have HG10:=Lib.hid (HG9.out.own F10 (by simp;exact ⟨HN2.out.2.2.2,HN.out.2.2.2.2.1,HN.out.2.2.2.2.2.1⟩))
   clear HS D10 A10 F10 HD9 HG9
   go_wp2_with fail
   refine HV.out.mono ?_;rintro e w11 ⟨rfl,F11⟩
   have HA11:=Lib.hid (HA10.out.kept F11)
   have HP:=Lib.hid (kplc_any (HD10.out.up F11))
   have HG11:=Lib.hid (HG10.out.trans F11)
   rw [end8.2.2.2.1] at HP
   clear HV F11 HA10 HG10
   go_wp2_with fail
   refine HP.out.mono ?_;rintro e w12 ⟨rfl,F12⟩
   have HA12:=Lib.hid (HA11.out.kept F12)
   have HG12:=Lib.hid (HG11.out.trans F12)
   clear HP F12 HA11 HG11
   go_wp2_with fail
   refine (peek_any _ p q _ _ HA12.out).mono ?_;rintro e _ ⟨rfl,rfl⟩
   rw [pk10.1]
   go_wp2_with fail
   refine (Pl.state_any 15 0 (by decide) (by decide) (by decide) (by decide) _).mono ?_;rintro e _ ⟨rfl,rfl⟩
   rw [show (15+7+3 * 0:Int)=22 by decide]
   go_wp2_with fail
   refine (peek_any _ p q _ _ HA12.out).mono ?_;rintro e _ ⟨rfl,rfl⟩
   rw [pk10.2.1]
   go_wp2_with fail
   refine (Pl.state_any 15 0 (by decide) (by decide) (by decide) (by decide) _).mono ?_;rintro e _ ⟨rfl,rfl⟩
   rw [show (15+7+3 * 0:Int)=22 by decide]
   go_wp2_with fail
   refine (peek_any _ p q _ _ HA12.out).mono ?_;rintro e _ ⟨rfl,rfl⟩
   rw [pk10.2.2]
   go_wp2_with fail
   go_ret
   exact ⟨rfl,HG12.out⟩
def took (y:Cx):Int:=if 2≤y.ln then 1 else 0
structure Tw (y:Cx) (s:St) (ky dt:Int):Prop where
 ch:y.ch=16
 k:y.ky=ky
 d:y.dt=dt
 rm:y.rm=5
 ln:0≤y.ln∧y.ln≤8
 f1:2≤y.ln→y.f1=0∨y.f1=1
 st:2≤y.ln→peek s.l (23+3 * y.f1)=if y.ln≤4 then 0 else if y.ln≤6 then 1 else 3
 ks:3≤y.ln→peek s.l (24+3 * y.f1)=ky
 ds:4≤y.ln→peek s.l (25+3 * y.f1)=dt
 f5:6≤y.ln→y.f5=0
 f7:8≤y.ln→y.f7=3
structure Bo (x y:Cx) (s:St) (kx dx ky dy:Int):Prop where
 hx:Tw x s kx dx
 hy:Tw y s ky dy
 len:s.l.length=200
 ck:peek s.l 1=0
 fr:peek s.l 22=0
 ct:peek s.l 17=took x+took y
 e:∀ j:Int,took x+took y≤j→j≤1→peek s.l (23+3 * j)=0
 ne:2≤x.ln→2≤y.ln→x.f1≠y.f1
 nx:2≤x.ln→y.ln<2→x.f1=0
 ny:2≤y.ln→x.ln<2→y.f1=0
theorem Bo.symm {x y:Cx} {s:St} {kx dx ky dy:Int} (h:Bo x y s kx dx ky dy):Bo y x s ky dy kx dx :=
 ⟨h.hy,h.hx,h.len,h.ck,h.fr,by rw [h.ct];omega,fun j hj hl=>h.e j (by omega) hl,fun a b c=>h.ne b a c.symm,h.ny,h.nx⟩
theorem Tw.same {y:Cx} {s s':St} {ky dt:Int} (h:Tw y s ky dt) (hs:∀ i:Int,23+3 * y.f1≤i→i≤25+3 * y.f1→2≤y.ln→peek s'.l i=peek s.l i):Tw y s' ky dt :=
 ⟨h.ch,h.k,h.d,h.rm,h.ln,h.f1,fun hl=>by rw [hs _ (by omega) (by omega) hl];exact h.st hl,fun hl=>by rw [hs _ (by omega) (by omega) (by omega)];exact h.ks hl,fun hl=>by rw [hs _ (by omega) (by omega) (by omega)];exact h.ds hl,h.f5,h.f7⟩
theorem Bo.step {x y:Cx} {s:St} {kx dx ky dy:Int} (h:Bo x y s kx dx ky dy):Bo (x.go s).1 y (x.go s).2 kx dx ky dy∧(x.go s).1.ln=(if x.ln=8 then 8 else x.ln+1):=by
 obtain ⟨hx,hy,len,ck,fr,ct,e,ne,nx,ny⟩:=h
 have hch:0≤x.ch∧x.ch≤100000:=by rw [hx.ch];omega
 obtain ⟨ch,k,d,rm,ln,f1,st,ks,ds,f5,f7⟩:=hx
 have hty:(took y=0∧y.ln<2)∨(took y=1∧2≤y.ln):=by unfold took;split <;> omega
 by_cases e8:x.ln=8
 ·have eg:x.go s=(x,s):=by unfold Cx.go;rw [if_pos e8]
  rw [eg,if_pos e8]
  exact ⟨⟨⟨ch,k,d,rm,ln,f1,st,ks,ds,f5,f7⟩,hy,len,ck,fr,ct,e,ne,nx,ny⟩,e8⟩
 rw [if_neg e8]
 rcases (by omega:x.ln=0∨x.ln=1∨(2≤x.ln∧x.ln≤7)) with l0 | l1 | l2
 ·obtain ⟨e1,e2⟩:=go0 (s:=s) l0 hch
  replace e1:(x.go s).1 = { x with ln:=1 }:=by rw [e1,ch,show (16+6:Int)=22 by decide,if_pos fr]
  have tx:took x=0:=by unfold took;rw [if_neg (by omega)]
  rw [e1]
  have tz:took { x with ln:=1 } = 0:=by unfold took;rw [if_neg (by show ¬ (2:Int)≤1;omega)]
  refine ⟨⟨⟨ch,k,d,rm,by show (0:Int)≤1∧(1:Int)≤8;omega,?_,?_,?_,?_,?_,?_⟩,hy.same (fun i _ _ _=>by rw [e2]),by rw [e2];exact len,by rw [e2];exact ck,by rw [e2];exact fr,by rw [e2,ct,tx,tz],fun j hj hl=>by rw [e2];exact e j (by rw [tz] at hj;omega) hl,?_,?_,?_⟩,by show (1:Int)=x.ln+1;omega⟩
  all_goals (intro hh;first | (exact absurd (show (2:Int)≤1 from hh) (by decide)) | (exact absurd (show (3:Int)≤1 from hh) (by decide)) | (exact absurd (show (4:Int)≤1 from hh) (by decide)) | (exact absurd (show (6:Int)≤1 from hh) (by decide)) | (exact absurd (show (8:Int)≤1 from hh) (by decide)) | (intro _;exact ny hh (by omega)))
 ·obtain ⟨e1,e2⟩:=go1 (s:=s) l1 hch
  have tx:took x=0:=by unfold took;rw [if_neg (by omega)]
  rw [tx] at ct e
  replace e1:(x.go s).1 = { x with f1:=0+took y,ln:=2 }:=by rw [e1,ch,rm,show (16+1:Int)=17 by decide,ct,if_pos (by omega)]
  rw [ch,show (16+1:Int)=17 by decide,ct,w64 (a:=0+took y+1) (by omega) (by omega)] at e2
  have hp:∀ j,j≠17→peek (x.go s).2.l j=peek s.l j:=fun j hj=>by rw [e2,pk_pokeC,if_neg (by omega)]
  have hc:peek (x.go s).2.l 17=0+took y+1:=by rw [e2,pk_pokeC,if_pos (by rw [len];omega)]
  rw [e1]
  have tz:took { x with f1:=0+took y,ln:=2 } = 1:=by unfold took;rw [if_pos (by show (2:Int)≤2;omega)]
  refine ⟨⟨⟨ch,k,d,rm,by show (0:Int)≤2∧(2:Int)≤8;omega,fun _=>by show 0+took y=0∨0+took y=1;omega,fun _=>?_,?_,?_,?_,?_⟩,hy.same (fun i h1 h2 h3=>hp i (by have:=hy.f1 h3;omega)),by rw [e2,length_poke];exact len,by rw [hp _ (by decide)];exact ck,by rw [hp _ (by decide)];exact fr,by rw [hc,tz];omega,fun j hj hl=>by rw [hp _ (by rw [tz] at hj;omega)];exact e j (by rw [tz] at hj;omega) hl,?_,?_,?_⟩,by show (2:Int)=x.ln+1;omega⟩
  ·show peek (x.go s).2.l (23+3 * (0+took y))=if (2:Int)≤4 then 0 else if (2:Int)≤6 then 1 else 3
   rw [if_pos (by decide),hp _ (by omega)]
   exact e _ (by omega) (by omega)
  ·intro hh;exact absurd (show (3:Int)≤2 from hh) (by decide)
  ·intro hh;exact absurd (show (4:Int)≤2 from hh) (by decide)
  ·intro hh;exact absurd (show (6:Int)≤2 from hh) (by decide)
  ·intro hh;exact absurd (show (8:Int)≤2 from hh) (by decide)
  ·intro _ h2
   show 0+took y≠y.f1
   have:=ny h2 (by omega)
   omega
  ·intro _ h2
   show 0+took y=0
   omega
  ·intro _ hh;exact absurd (show (2:Int)<2 from hh) (by decide)
 ·have tx:took x=1:=by unfold took;rw [if_pos (by omega)]
  have hf:=f1 l2.1
  have hf2:0≤x.f1∧x.f1≤1000:=by omega
  have hst:=st l2.1
  rw [tx] at ct e
  -- whatever the line: the put is the same but for the line,f5,f7;words change only within its cell
  have key:∃ z:Cx,(x.go s).1=z∧z.ch=x.ch∧z.ky=x.ky∧z.dt=x.dt∧z.rm=x.rm∧z.f1=x.f1∧z.ln=x.ln+1∧(x.go s).2.l.length=s.l.length∧(∀ j,(j<23+3 * x.f1∨25+3 * x.f1<j)→peek (x.go s).2.l j=peek s.l j)∧peek (x.go s).2.l (23+3 * x.f1)=(if x.ln+1≤4 then 0 else if x.ln+1≤6 then 1 else 3)∧(3≤x.ln+1→peek (x.go s).2.l (24+3 * x.f1)=kx)∧(4≤x.ln+1→peek (x.go s).2.l (25+3 * x.f1)=dx)∧(6≤x.ln+1→z.f5=0)∧(8≤x.ln+1→z.f7=3):=by
   rcases (by omega:x.ln=2∨x.ln=3∨x.ln=4∨x.ln=5∨x.ln=6∨x.ln=7) with l | l | l | l | l | l
   ·obtain ⟨e1,e2⟩:=go2 (s:=s) l hch hf2
    rw [ch,k] at e2
    refine ⟨_,e1,rfl,rfl,rfl,rfl,rfl,by show (3:Int)=x.ln+1;omega,by rw [e2,length_poke],fun j hj=>?_,?_,fun _=>?_,fun h=>by omega,fun h=>by omega,fun h=>by omega⟩
    ·rw [e2,pk_pokeC,if_neg (by omega)]
    ·rw [e2,pk_pokeC,if_neg (by omega),hst,l,if_pos (by omega),if_pos (by omega)]
    ·rw [e2,pk_pokeC,if_pos (by rw [len];omega)]
   ·obtain ⟨e1,e2⟩:=go3 (s:=s) l hch hf2
    rw [ch,d] at e2
    refine ⟨_,e1,rfl,rfl,rfl,rfl,rfl,by show (4:Int)=x.ln+1;omega,by rw [e2,length_poke],fun j hj=>?_,?_,fun _=>?_,fun _=>?_,fun h=>by omega,fun h=>by omega⟩
    ·rw [e2,pk_pokeC,if_neg (by omega)]
    ·rw [e2,pk_pokeC,if_neg (by omega),hst,l,if_pos (by omega),if_pos (by omega)]
    ·rw [e2,pk_pokeC,if_neg (by omega)];exact ks (by omega)
    ·rw [e2,pk_pokeC,if_pos (by rw [len];omega)]
   ·obtain ⟨e1,e2⟩:=go4 (s:=s) l hch hf2 (by rw [ch,len];omega)
    rw [l,if_pos (by omega)] at hst
    rw [ch,show (16+7+3 * x.f1:Int)=23+3 * x.f1 by omega,if_pos hst] at e2
    replace e1:(x.go s).1 = { x with ln:=5 }:=by rw [e1,ch,show (16+7+3 * x.f1:Int)=23+3 * x.f1 by omega,if_pos hst]
    refine ⟨_,e1,rfl,rfl,rfl,rfl,rfl,by show (5:Int)=x.ln+1;omega,by rw [e2,length_poke],fun j hj=>?_,?_,fun _=>?_,fun _=>?_,fun h=>by omega,fun h=>by omega⟩
    ·rw [e2,pk_pokeC,if_neg (by omega)]
    ·rw [e2,pk_pokeC,if_pos (by rw [len];omega),if_neg (by omega),if_pos (by omega)]
    ·rw [e2,pk_pokeC,if_neg (by omega)];exact ks (by omega)
    ·rw [e2,pk_pokeC,if_neg (by omega)];exact ds (by omega)
   ·obtain ⟨e1,e2⟩:=go5 (s:=s) l
    refine ⟨_,e1,rfl,rfl,rfl,rfl,rfl,by show (6:Int)=x.ln+1;omega,by rw [e2],fun j hj=>by rw [e2],?_,fun _=>by rw [e2];exact ks (by omega),fun _=>by rw [e2];exact ds (by omega),fun _=>ck,fun h=>by omega⟩
    rw [e2,hst,l,if_neg (by omega),if_pos (by omega),if_neg (by omega),if_pos (by omega)]
   ·obtain ⟨e1,e2⟩:=go6 (s:=s) l hch hf2 (by rw [ch,len];omega)
    rw [l,if_neg (by omega),if_pos (by omega)] at hst
    rw [ch,show (16+7+3 * x.f1:Int)=23+3 * x.f1 by omega,if_pos hst,f5 (by omega),show stateW 0=3 by decide] at e2
    refine ⟨_,e1,rfl,rfl,rfl,rfl,rfl,by show (7:Int)=x.ln+1;omega,by rw [e2,length_poke],fun j hj=>?_,?_,fun _=>?_,fun _=>?_,fun _=>f5 (by omega),fun h=>by omega⟩
    ·rw [e2,pk_pokeC,if_neg (by omega)]
    ·rw [e2,pk_pokeC,if_pos (by rw [len];omega),if_neg (by omega),if_neg (by omega)]
    ·rw [e2,pk_pokeC,if_neg (by omega)];exact ks (by omega)
    ·rw [e2,pk_pokeC,if_neg (by omega)];exact ds (by omega)
   ·obtain ⟨e1,e2⟩:=go7 (s:=s) l hch hf2
    rw [l,if_neg (by omega),if_neg (by omega)] at hst
    replace e1:(x.go s).1 = { x with f7:=3,ln:=8 }:=by rw [e1,ch,show (16+7+3 * x.f1:Int)=23+3 * x.f1 by omega,hst]
    refine ⟨_,e1,rfl,rfl,rfl,rfl,rfl,by show (8:Int)=x.ln+1;omega,by rw [e2],fun j hj=>by rw [e2],?_,fun _=>by rw [e2];exact ks (by omega),fun _=>by rw [e2];exact ds (by omega),fun _=>f5 (by omega),fun _=>rfl⟩
    rw [e2,hst,l,if_neg (by omega),if_neg (by omega)]
  obtain ⟨z,ez,z1,z2,z3,z4,z5,z6,zl,zo,zs,zk,zd,zf,zg⟩:=key
  rw [ez]
  have tz:took z=1:=by unfold took;rw [if_pos (by omega)]
  refine ⟨⟨⟨by omega,by omega,by omega,by omega,by omega,fun _=>by omega,fun _=>?_,fun hh=>?_,fun hh=>?_,fun hh=>zf (by omega),fun hh=>zg (by omega)⟩,hy.same (fun i h1 h2 h3=>zo i (by have:=hy.f1 h3;have:=ne l2.1 h3;omega)),by omega,by rw [zo _ (by omega)];exact ck,by rw [zo _ (by omega)];exact fr,by rw [zo _ (by omega),ct,tz],fun j hj hl=>?_,fun _ h2=>by rw [z5];exact ne l2.1 h2,fun _ h2=>by rw [z5];exact nx l2.1 h2,fun h2 hh=>by omega⟩,z6⟩
  ·rw [z5,z6];exact zs
  ·rw [z5];exact zk (by omega)
  ·rw [z5];exact zd (by omega)
  ·have hj1:j=1∧took y=0:=by rw [tz] at hj;omega
   have:=nx l2.1 (by omega)
   rw [zo _ (by omega)]
   exact e j (by omega) hl
def xA (k:Int):Cx:=Cx.new 5 16 k 111
def yA (k:Int):Cx:=Cx.new 5 16 k 222
def sA:St:=Pl.begun 2 5 200
theorem Bo.new (k1 k2:Int):Bo (xA k1) (yA k2) sA k1 111 k2 222:=by
 have tw:∀ (k d:Int),Tw (Cx.new 5 16 k d) sA k d:=fun k d=>by
  refine ⟨rfl,rfl,rfl,rfl,⟨by show (0:Int)≤0;omega,by show (0:Int)≤8;omega⟩,fun h=>absurd (show (2:Int)≤0 from h) (by decide),fun h=>absurd (show (2:Int)≤0 from h) (by decide),fun h=>absurd (show (3:Int)≤0 from h) (by decide),fun h=>absurd (show (4:Int)≤0 from h) (by decide),fun h=>absurd (show (6:Int)≤0 from h) (by decide),fun h=>absurd (show (8:Int)≤0 from h) (by decide)⟩
 refine ⟨tw _ _,tw _ _,by decide +kernel,by decide +kernel,by decide +kernel,?_,fun j h1 h2=>?_,fun h=>absurd (show (2:Int)≤0 from h) (by decide),fun h=>absurd (show (2:Int)≤0 from h) (by decide),fun h=>absurd (show (2:Int)≤0 from h) (by decide)⟩
 ·show peek sA.l 17=took _+took _
  rw [show took (xA k1)=0 from rfl,show took (yA k2)=0 from rfl];decide +kernel
 ·rw [show took (xA k1)=0 from rfl,show took (yA k2)=0 from rfl] at h1
  rcases (by omega:j=0∨j=1) with rfl | rfl <;> decide +kernel
structure FuI (n i:Nat) (s:St):Prop where
 len:s.l.length=200
 fr:peek s.l 21=0
 ck:peek s.l 1=0
 ct:peek s.l 16=i
 e:∀ j:Nat,j<n→i≤j→peek s.l (22+3 * j)=0
 d:∀ j:Nat,j<n→j<i→peek s.l (22+3 * j)=3∧peek s.l (24+3 * j)=100+j
def yF (n i:Nat):Cx:=Cx.new n 15 i (100+i)
structure FuE (n i:Nat) (s:St) (m:Nat):Prop where
 on:∀ k:Nat,k<m→(runC k (yF n i) s).1.ln=(k:Int)
 off:(runC m (yF n i) s).1.ln=8
 f7:(runC m (yF n i) s).1.f7≤9223372036854775807
 has:(runC m (yF n i) s).1.has=decide (i<n)
 plc:(runC m (yF n i) s).1.plc=if i<n then (i:Int) else -1
 nx:FuI n (i+1) (runC m (yF n i) s).2
theorem runS (k:Nat) (y:Cx) (s:St):runC (k+1) y s=((runC k y s).1.go (runC k y s).2):=rfl
theorem FuI.put {n i:Nat} {s:St} (h:FuI n i s) (hn:n≤15) (hi:i<n):FuE n i s 8:=by
 have y0:(yF n i).ln=0:=rfl
 obtain ⟨a1,b1⟩:=go0 (y:=yF n i) (s:=s) rfl ⟨by show (0:Int)≤15;omega,by show (15:Int)≤100000;omega⟩
 rw [show (yF n i).ch+6=21 from rfl,if_pos h.fr] at a1
 rw [show (yF n i).go s=runC 1 (yF n i) s from rfl] at a1 b1
 obtain ⟨a2,b2⟩:=go1 (y:=(runC 1 (yF n i) s).1) (s:=(runC 1 (yF n i) s).2) (by rw [a1]) (by rw [a1];exact ⟨by show (0:Int)≤15;omega,by show (15:Int)≤100000;omega⟩)
 rw [← runS,a1,b1] at a2
 rw [← runS,a1,b1] at b2
 rw [show ({ yF n i with ln:=1 }:Cx).ch+1=16 from rfl,show ({ yF n i with ln:=1 }:Cx).rm=(n:Int) from rfl,h.ct,if_pos (by omega)] at a2
 rw [show ({ yF n i with ln:=1 }:Cx).ch+1=16 from rfl,h.ct,w64 (by omega) (by omega)] at b2
 have ch:∀ z:Cx,z.ch=15→0≤z.ch∧z.ch≤100000:=fun z h=>by omega
 have f1:∀ z:Cx,z.f1=i→0≤z.f1∧z.f1≤1000:=fun z h=>by omega
 obtain ⟨a3,b3⟩:=go2 (y:=(runC 2 (yF n i) s).1) (s:=(runC 2 (yF n i) s).2) (by rw [a2]) (ch _ (by rw [a2];rfl)) (f1 _ (by rw [a2]))
 rw [← runS,a2] at a3
 rw [← runS,a2,b2] at b3
 obtain ⟨a4,b4⟩:=go3 (y:=(runC 3 (yF n i) s).1) (s:=(runC 3 (yF n i) s).2) (by rw [a3]) (ch _ (by rw [a3];rfl)) (f1 _ (by rw [a3]))
 rw [← runS,a3] at a4
 rw [← runS,a3,b3] at b4
 have b4':(runC 4 (yF n i) s).2.l=poke (poke (poke s.l 16 ((i:Int)+1)) (23+3 * (i:Int)) i) (24+3 * (i:Int)) (100+(i:Int)):=by
  rw [b4]
  show poke (poke (poke s.l 16 _) (15+7+3 * (i:Int)+1) i) (15+7+3 * (i:Int)+2) (100+(i:Int))=_
  rw [show 15+7+3 * (i:Int)+1=23+3 * (i:Int) by omega,show 15+7+3 * (i:Int)+2=24+3 * (i:Int) by omega]
 have hp4:∀ q,peek (runC 4 (yF n i) s).2.l q=if q=24+3 * (i:Int) then 100+(i:Int) else if q=23+3 * (i:Int) then (i:Int) else if q=16 then (i:Int)+1 else peek s.l q:=by
  intro q
  rw [b4',pk_pokeC,pk_pokeC,pk_pokeC]
  simp only [length_poke,h.len]
  repeat' split
  all_goals first | rfl | omega
 have hl4:(runC 4 (yF n i) s).2.l.length=200:=by rw [b4];simp only [length_poke];exact h.len
 obtain ⟨a5,b5⟩:=go4 (y:=(runC 4 (yF n i) s).1) (s:=(runC 4 (yF n i) s).2) (by rw [a4]) (ch _ (by rw [a4];rfl)) (f1 _ (by rw [a4])) (by rw [a4,hl4];show (15:Int)+7+3 * i<_;omega)
 have e5:(runC 4 (yF n i) s).1.ch+7+3 * (runC 4 (yF n i) s).1.f1=22+3 * (i:Int):=by rw [a4];show (15:Int)+7+3 * i=_;omega
 have e0:peek (runC 4 (yF n i) s).2.l (22+3 * (i:Int))=0:=by rw [hp4,if_neg (by omega),if_neg (by omega),if_neg (by omega)];exact h.e i hi (Nat.le_refl _)
 rw [e5,if_pos e0] at a5 b5
 rw [← runS] at a5 b5
 rw [a4] at a5
 obtain ⟨a6,b6⟩:=go5 (y:=(runC 5 (yF n i) s).1) (s:=(runC 5 (yF n i) s).2) (by rw [a5])
 rw [← runS] at a6 b6
 have e6:peek (runC 5 (yF n i) s).2.l 1=0:=by rw [b5,pk_pokeC,if_neg (by omega),hp4,if_neg (by omega),if_neg (by omega),if_neg (by omega)];exact h.ck
 rw [a5,e6] at a6
 have hl5:(runC 5 (yF n i) s).2.l.length=200:=by rw [b5,length_poke];exact hl4
 have c6:(runC 6 (yF n i) s).1.ch=15∧(runC 6 (yF n i) s).1.f1=i:=by rw [a6];exact ⟨rfl,rfl⟩
 have hl6:(runC 6 (yF n i) s).2.l.length=200:=by rw [b6];exact hl5
 obtain ⟨a7,b7⟩:=go6 (y:=(runC 6 (yF n i) s).1) (s:=(runC 6 (yF n i) s).2) (by rw [a6]) (ch _ c6.1) (f1 _ c6.2) (by rw [c6.1,c6.2,hl6];omega)
 have e7:(runC 6 (yF n i) s).1.ch+7+3 * (runC 6 (yF n i) s).1.f1=22+3 * (i:Int):=by rw [a6];show (15:Int)+7+3 * i=_;omega
 have e1:peek (runC 6 (yF n i) s).2.l (22+3 * (i:Int))=1:=by rw [b6,b5,pk_pokeC,if_pos (by omega)]
 rw [e7,if_pos e1,show (runC 6 (yF n i) s).1.f5=0 by rw [a6],show stateW 0=3 by decide] at b7
 rw [← runS] at a7 b7
 rw [a6] at a7
 have hp7:∀ q,peek (runC 7 (yF n i) s).2.l q=if q=22+3 * (i:Int) then 3 else if q=24+3 * (i:Int) then 100+(i:Int) else if q=23+3 * (i:Int) then (i:Int) else if q=16 then (i:Int)+1 else peek s.l q:=by
  intro q
  rw [b7,pk_pokeC,b6,b5,length_poke,hl4,pk_pokeC,hl4,hp4]
  repeat' split
  all_goals first | rfl | omega
 have hl7:(runC 7 (yF n i) s).2.l.length=200:=by rw [b7,length_poke,b6];exact hl5
 obtain ⟨a8,b8⟩:=go7 (y:=(runC 7 (yF n i) s).1) (s:=(runC 7 (yF n i) s).2) (by rw [a7]) (ch _ (by rw [a7];rfl)) (f1 _ (by rw [a7]))
 have e8:(runC 7 (yF n i) s).1.ch+7+3 * (runC 7 (yF n i) s).1.f1=22+3 * (i:Int):=by rw [a7];show (15:Int)+7+3 * i=_;omega
 have e3:peek (runC 7 (yF n i) s).2.l (22+3 * (i:Int))=3:=by rw [hp7,if_pos rfl]
 rw [e8,e3] at a8
 rw [← runS] at a8 b8
 rw [a7] at a8
 have g7:(runC 8 (yF n i) s).1.f7=3:=by rw [a8]
 refine ⟨fun k hk=>?_,by rw [a8],by omega,?_,?_,⟨by rw [b8];exact hl7,?_,?_,?_,?_,?_⟩⟩
 ·rcases (by omega:k=0∨k=1∨k=2∨k=3∨k=4∨k=5∨k=6∨k=7) with rfl | rfl | rfl | rfl | rfl | rfl | rfl | rfl
  ·rfl
  ·rw [a1];rfl
  ·rw [a2];rfl
  ·rw [a3];rfl
  ·rw [a4];rfl
  ·rw [a5];rfl
  ·rw [a6];rfl
  ·rw [a7];rfl
 ·rw [(ver_of (y:=(runC 8 (yF n i) s).1) (v:=0) (by omega) (by omega)).1];simp [hi]
 ·have p1:(runC 8 (yF n i) s).1.f1=i:=by rw [a8]
  have p2:(runC 8 (yF n i) s).1.rm=n:=by rw [a8];try rfl
  unfold Cx.plc
  rw [p1,p2,if_neg (by omega),if_neg (by omega),if_pos hi]
 ·rw [b8,hp7,if_neg (by omega),if_neg (by omega),if_neg (by omega),if_neg (by omega)];exact h.fr
 ·rw [b8,hp7,if_neg (by omega),if_neg (by omega),if_neg (by omega),if_neg (by omega)];exact h.ck
 ·rw [b8,hp7,if_neg (by omega),if_neg (by omega),if_neg (by omega),if_pos rfl];simp
 ·intro j hj hij
  rw [b8,hp7,if_neg (by omega),if_neg (by omega),if_neg (by omega),if_neg (by omega)];exact h.e j hj (by omega)
 ·intro j hj hij
  rw [b8,hp7,hp7]
  by_cases ej:j=i
  ·subst ej
   rw [if_pos rfl,if_neg (by omega),if_pos rfl];exact ⟨rfl,rfl⟩
  ·rw [if_neg (by omega),if_neg (by omega),if_neg (by omega),if_neg (by omega),if_neg (by omega),if_neg (by omega),if_neg (by omega),if_neg (by omega)]
   exact h.d j hj (by omega)
theorem FuI.over {n i:Nat} {s:St} (h:FuI n i s) (hi:n≤i) (h30:i≤30):FuE n i s 2:=by
 obtain ⟨a1,b1⟩:=go0 (y:=yF n i) (s:=s) rfl ⟨by show (0:Int)≤15;omega,by show (15:Int)≤100000;omega⟩
 rw [show (yF n i).ch+6=21 from rfl,if_pos h.fr] at a1
 rw [show (yF n i).go s=runC 1 (yF n i) s from rfl] at a1 b1
 obtain ⟨a2,b2⟩:=go1 (y:=(runC 1 (yF n i) s).1) (s:=(runC 1 (yF n i) s).2) (by rw [a1]) (by rw [a1];exact ⟨by show (0:Int)≤15;omega,by show (15:Int)≤100000;omega⟩)
 rw [← runS,a1,b1] at a2
 rw [← runS,a1,b1] at b2
 rw [show ({ yF n i with ln:=1 }:Cx).ch+1=16 from rfl,show ({ yF n i with ln:=1 }:Cx).rm=(n:Int) from rfl,h.ct,if_neg (by omega)] at a2
 rw [show ({ yF n i with ln:=1 }:Cx).ch+1=16 from rfl,h.ct,w64 (by omega) (by omega)] at b2
 have hp:∀ q,q≠16→peek (runC 2 (yF n i) s).2.l q=peek s.l q:=fun q hq=>by rw [b2,pk_pokeC,if_neg (by omega)]
 have g7:(runC 2 (yF n i) s).1.f7=0:=by rw [a2];rfl
 refine ⟨fun k hk=>?_,by rw [a2],by omega,?_,?_,⟨by rw [b2,length_poke];exact h.len,by rw [hp _ (by decide)];exact h.fr,by rw [hp _ (by decide)];exact h.ck,?_,?_,?_⟩⟩
 ·rcases (by omega:k=0∨k=1) with rfl | rfl
  ·rfl
  ·rw [a1];rfl
 ·rw [(ver_no (y:=(runC 2 (yF n i) s).1) (by omega)).1];simp;omega
 ·have p1:(runC 2 (yF n i) s).1.f1=i:=by rw [a2]
  have p2:(runC 2 (yF n i) s).1.rm=n:=by rw [a2];try rfl
  unfold Cx.plc
  rw [p1,p2,if_neg (by omega),if_pos (by omega),if_neg (by omega)]
 ·rw [b2,pk_pokeC,if_pos (by rw [h.len];omega)];simp
 ·intro j hj hij;omega
 ·intro j hj hij
  rw [hp _ (by omega),hp _ (by omega)];exact h.d j hj (by omega)
theorem fu_new:∀ n:Nat,n<16→3≤n→(Pl.begun 1 n 200).l.length=200∧peek (Pl.begun 1 n 200).l 21=0∧peek (Pl.begun 1 n 200).l 1=0∧peek (Pl.begun 1 n 200).l 16=0∧∀ j:Nat,j<n→peek (Pl.begun 1 n 200).l (22+3 * j)=0:=by decide +kernel
theorem FuI.new {n:Nat} (h1:3≤n) (h2:n≤15):FuI n 0 (Pl.begun 1 n 200):=by
 obtain ⟨a,b,c,d,e⟩:=fu_new n (by omega) h1
 exact ⟨a,b,c,d,fun j hj _=>e j hj,fun j _ h=>by omega⟩
end Go.Proofs.YtmdplidjkkjmmaaDoor.Cc
