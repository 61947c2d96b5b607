/- Parts. -/
import Derived.Test.YtppajakfaomkaaaGreatDoorYaa
import Derived.Test.YtppajakfaomkaaaGreatDoorYac
import Derived.Test.YtppajakfaomkaaaGreatDoorYad
set_option linter.unusedVariables false
set_option linter.unusedSimpArgs false
set_option maxRecDepth 100000
set_option maxHeartbeats 12800000
namespace Go.Proofs.YtppajakfaomkaaaGreatDoor.Og
open Go.RowKit Go.Maps Ar
abbrev O:=Int×Int×Int×Int
def q25 (os:List O) (i:Nat):O:=os.getD i (0,0,0,0)
def J0 (rs:List (List O)) (i:Nat):List O:=rs.getD i []
def wfO (o:O):Prop:=(Lit.int .i64 o.1).wf=true
def Uo (w:World) (v:Value) (os:List O):Prop:=∃ (a:Option Addr) (cap:Nat),v = .slice a os.length cap/\os.length<=maxLen/\(∀ o∈os,wfO o) /\
 (os.length=0\/∃ b off,a=some ⟨b,off,none⟩/\b<w.heap.size/\∀ i,i<os.length->w.cell? ⟨b,off+i * 4,none⟩=some (.int .i64 (q25 os i).1)/\w.cell? ⟨b,off+i * 4+1,none⟩=some (.int .i64 (q25 os i).2.1)/\w.cell? ⟨b,off+i * 4+2,none⟩=some (.int .i64 (q25 os i).2.2.1)/\w.cell? ⟨b,off+i * 4+3,none⟩=some (.int .i64 (q25 os i).2.2.2))
def Wh (w:World) (v:Value) (rs:List (List O)):Prop:=∃ (a:Option Addr) (cap:Nat) (x:Nat->Value),v = .slice a rs.length cap/\rs.length<=maxLen /\
 (rs.length=0\/∃ b off,a=some ⟨b,off,none⟩/\b<w.heap.size/\∀ i,i<rs.length->w.cell? ⟨b,off+i,none⟩=some (x i))/\∀ i,i<rs.length->Uo w (x i) (J0 rs i)
def Scr (w:World) (s:Value) (t c wd v:Int) (rs:List (List O)) (ps ds:List Int):Prop:=∃ vo vp vd,s = .agg #[.int .i64 t,.int .i64 c,.int .i64 wd,.int .i64 v,vo,vp,vd]/\Wh w vo rs/\Law.Ints w .i64 vp ps/\Law.Ints w .i64 vd ds
theorem Zl {w w':World} (f:Fr [] w w') {b i:Nat} {v:Value} (h:w.cell? ⟨b,i,none⟩=some v):w'.cell? ⟨b,i,none⟩=some v:=f.cell h (by simp)
theorem Uo.up {w w':World} {v:Value} {os:List O} (h:Uo w v os) (f:Fr [] w w'):Uo w' v os:=by
 obtain ⟨a,cap,h1,h2,h3,h4⟩:=h
 refine ⟨a,cap,h1,h2,h3,?_⟩
 rcases h4 with h | ⟨b,off,h5,h6,h7⟩
 ·exact .inl h
 ·refine .inr ⟨b,off,h5,qj h6 f.size,fun i hi=>?_⟩
  obtain ⟨c0,c1,c2,c3⟩:=h7 i hi
  exact ⟨Zl f c0,Zl f c1,Zl f c2,Zl f c3⟩
theorem Wh.up {w w':World} {v:Value} {rs:List (List O)} (h:Wh w v rs) (f:Fr [] w w'):Wh w' v rs:=by
 obtain ⟨a,cap,x,h1,h2,h3,h4⟩:=h
 refine ⟨a,cap,x,h1,h2,?_,fun i hi=>(h4 i hi).up f⟩
 rcases h3 with h | ⟨b,off,h5,h6,h7⟩
 ·exact .inl h
 ·exact .inr ⟨b,off,h5,qj h6 f.size,fun i hi=>Zl f (h7 i hi)⟩
theorem q5z {w w':World} {v:Value} {zs:List Int} (h:Law.Ints w .i64 v zs) (f:Fr [] w w'):Law.Ints w' .i64 v zs:=by
 obtain ⟨a,cap,h1,h2,h3,h4⟩:=h
 refine ⟨a,cap,h1,h2,h3,?_⟩
 rcases h4 with h | ⟨b,off,h5,h6,h7⟩
 ·exact .inl h
 ·exact .inr ⟨b,off,h5,qj h6 f.size,fun i hi=>Zl f (h7 i hi)⟩
theorem Scr.up {w w':World} {s:Value} {t c wd v:Int} {rs:List (List O)} {ps ds:List Int} (h:Scr w s t c wd v rs ps ds) (f:Fr [] w w'):Scr w' s t c wd v rs ps ds:=by
 obtain ⟨vo,vp,vd,h1,h2,h3,h4⟩:=h
 exact ⟨vo,vp,vd,h1,h2.up f,q5z h3 f,q5z h4 f⟩
theorem qbe (w:World):Uo w (.slice none 0 0) []:=⟨none,0,rfl,by simp [maxLen],by simp,.inl rfl⟩
theorem q88 (w:World):Wh w (.slice none 0 0) []:=⟨none,0,fun _=>undef,rfl,by simp [maxLen],.inl rfl,by simp⟩
theorem U0 {rs:List (List O)} {i:Nat} (h:i<rs.length):J0 rs i∈rs:=by
 unfold J0;simp [List.getD_eq_getElem?_getD,h]
theorem q83 {os:List O} {i:Nat} (h:i<os.length):q25 os i∈os:=by
 unfold q25;simp [List.getD_eq_getElem?_getD,h]
theorem q9i {rs:List (List O)} {p:List O->Bool} (h:∀ i,i<rs.length->p (J0 rs i)=true):rs.all p=true:=by
 rw [List.all_eq_true];intro x hx
 obtain ⟨i,hi,rfl⟩:=List.getElem_of_mem hx
 have:=h i hi
 unfold J0 at this
 simpa [List.getD_eq_getElem?_getD,hi] using this
theorem q8n {os:List O} {p:O->Bool} (h:∀ i,i<os.length->p (q25 os i)=true):os.all p=true:=by
 rw [List.all_eq_true];intro x hx
 obtain ⟨i,hi,rfl⟩:=List.getElem_of_mem hx
 have:=h i hi
 unfold q25 at this
 simpa [List.getD_eq_getElem?_getD,hi] using this
theorem q55 {α:Type} {rs:List α} {p:α->Bool} {x:α} (hx:x∈rs) (h:p x=false):rs.all p=false:=by
 cases e:rs.all p with
 | false=>rfl
 | true=>rw [List.all_eq_true] at e;rw [e x hx] at h;cases h
def long (os:List O):Bool:=decide (1000<os.length)
def large (t:Int) (rs:List (List O)) (ps:List Int):Bool:=decide (t<rs.length) || (decide (20000<ps.length) || rs.any long)
def qbp (o:O):Bool:=fit o.1 o.2.1 o.2.2.1 o.2.2.2
def qce (os:List O):Bool:=os.all qbp
def has (rs:List (List O)) (x:Int):Bool:=decide (0<=thr x) && (decide (thr x<rs.length) && decide (ind x<(J0 rs (thr x).toNat).length))
end Go.Proofs.YtppajakfaomkaaaGreatDoor.Og
