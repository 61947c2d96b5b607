/- Parts. -/
import Derived.Test.YtbddhncgemeohaaGreatDoorYab
import Derived.Below
import Derived.Deep.Fields
import Derived.Deep.Slices
import Derived.OpenShut
import Derived.ProofKit
import Derived.WalkSpells
set_option linter.unusedVariables false
set_option linter.unusedSimpArgs false
set_option maxRecDepth 100000
set_option maxHeartbeats 12800000
namespace Go.Proofs.YtbddhncgemeohaaGreatDoor.Law
open Go.ChangeShapes Go.WideShapes Go.ChangeAt Go.RowKit Go.Deep
section
variable {H:Type} {enc:TypeId×Value->H} {P:Program}
theorem Ut {f:Func} {s:ChangeSpec} {apart fresh handsOn again:Bool} {W W':World} {args:Array Value} {v:Value} {ds gs:List (DataW H)} {before pa pv:List MemPlace}
  (hW:DataW.Whole enc P f.params.toList s.vars apart W args.toList ds gs before)
  (hres:∀ (b:Nat) (sp:Nat->Bool) (hd:Bool),DataW.TrodAll enc P W' b sp hd f.resultTypes.toList (v.resultList f.resultTypes.size) (s.fn H (ds++gs)).results [])
  (hargs:∀ sp:Nat->Bool,(∀ p∈before,sp p.block=true)->DataW.TrodAll enc P W' 0 sp true f.params.toList args.toList (s.fn H (ds++gs)).args pa)
  (hvars:∀ sp:Nat->Bool,(∀ p∈before,sp p.block=true)->DataW.TrodVars enc P W' sp s.vars (s.fn H (ds++gs)).vars pv)
  (hps:before=pa++pv) (hb:Below W.heap.size W W')
  (hok:∀ (j:Nat) (t:TypeId) (r:Value),f.resultTypes[j]? = some t->(v.resultList f.resultTypes.size)[j]? = some r->Value.okWide P W' .any 0 t r) :
  s.post enc P f apart fresh handsOn again W args v W':=by
 have hlt:∀ p∈before,p.block<W.heap.size:=fun p hp=>hW.lt p hp
 have hold:∀ p∈before,(fun b=>decide (b<W.heap.size)) p.block=true:=fun p hp=>by simpa using hlt p hp
 refine ⟨ds,gs,before,[],pa,pv,hW,hres _ _ _,hargs _ hold,hvars _ hold,World.keptBut_mono (fun p hp=>⟨hp,?_⟩) (hb.frame (· ∈ before)),fun _=>?_⟩
 ·rw [hps,List.mem_append] at hp;exact Or.inr hp
 ·obtain ⟨_,_,_,_,_,hz,hn⟩:=hW;refine ⟨hok,_,_,([]++pa)++pv,⟨[]++pa,pv,trodAll_append (hargs _ (fun _ _=>rfl)) (hres _ _ _),hvars _ (fun _ _=>rfl),rfl,?_,?_⟩,?_⟩
  ·intro b off hp;have hin:MemPlace.cell b off∈before:=by rw [hps];simpa using hp
   rw [hb.frozen (hlt _ hin)];exact hz b off hin
  ·intro ha;have:=hn ha;rw [hps] at this;simpa using this
  ·intro p hp _;rw [hps];simpa using hp
theorem Vr (hl:laidOutB P=true) {W W':World} (hb:Below W.heap.size W W') {sp:Nat->Bool}:∀ (ts:List TypeId) (vs:List Value) (ds:List (DataW H)) (ps:List MemPlace),
  ts.all (fun t=>P.readableRec t && decide (t<P.types.size))=true->DataW.TrodAll enc P W 0 (fun _=>true) true ts vs ds ps->(∀ x∈ps,x.block<W.heap.size)->(∀ x∈ps,sp x.block=true) ->
  DataW.TrodAll enc P W' 0 sp true ts vs ds ps
 | [],vs,ds,ps,_,h,_,_=>by
  cases vs <;> cases ds <;> simp_all [DataW.TrodAll]
 | t :: ts,vs,ds,ps,hr,h,hlt,hs=>by
  match vs,ds,h with
  | v :: vs,d :: ds,⟨p,q,h1,h2,hpq⟩ =>
   subst hpq
   simp only [List.all_cons,Bool.and_eq_true,decide_eq_true_eq] at hr
   exact ⟨p,q,WideElems.Trod_stays hl hr.1.1 hr.1.2 h1 (fun x hx=>hb.same (hlt x (List.mem_append_left _ hx))) (fun x hx=>hs x (List.mem_append_left _ hx)),
    Vr hl hb ts vs ds q hr.2 h2 (fun x hx=>hlt x (List.mem_append_right _ hx)) (fun x hx=>hs x (List.mem_append_right _ hx)),rfl⟩
theorem q2d {f:Func} {s:ChangeSpec} {W W':World} {args:Array Value} {ds gs:List (DataW H)} {before:List MemPlace} {tb:TypeId}
  (hl:laidOutB P=true) (hr:f.params.toList.all (fun t=>P.readableRec t && decide (t<P.types.size))=true) (htb:P.underlying tb=some .bool) (hrt:f.resultTypes = #[tb])
  (hvars:s.vars=[]) (hfn:(s.fn H (ds++gs)) = { results:=[.lit (.bool true)],args:=ds })
  (hW:DataW.Whole enc P f.params.toList s.vars false W args.toList ds gs before) (hb:Below W.heap.size W W') :
  s.post enc P f false true false false W args (.bool true) W':=by
 have hW':=hW;have hlt:∀ p∈before,p.block<W.heap.size:=fun p hp=>hW.lt p hp
 obtain ⟨p,q,hA,hV,rfl,hfz,hnd⟩:=hW;rw [hvars] at hV;have hgq:gs=[]/\q=[]:=trodVars_none hV;obtain ⟨rfl,rfl⟩:=hgq;refine Ut (pa:=p) (pv:=[]) hW' ?_ ?_ ?_ rfl hb ?_
 ·intro b sp hd;rw [hfn,hrt];exact trodAll_cons_mk (shut_bool htb _) trodAll_mk0
 ·intro sp hsp;rw [hfn];simp only [List.append_nil] at hsp hlt;exact Vr hl hb _ _ _ _ hr hA hlt hsp
 ·intro sp hsp;rw [hfn,hvars];rfl
 ·exact ok_one hrt rfl (okWide_bool_mk htb _)
theorem Zi {w:World} {base:Nat} {spare:Nat->Bool} {held:Bool} {t e:TypeId} {fs:Array Field} {fuel:Nat} {cs:List Value} {x:DataW H×List MemPlace} (ht:P.underlying t=some (.slice e)) (he:P.underlying e=some (.struct fs))
  (hone:oneCellFields P fs=true) (hC:P.cellsOf e=fs.size) (h:DataW.trod enc P w base spare held fuel t cs=some x) :
  (cs=[.slice none 0 0]/\x=(.nil,[])) \/
  ∃ (a:Addr) (len cap m:Nat) (D:Nat->DataW H) (Pl:Nat->List MemPlace),cs=[.slice (some a) len cap]/\base<=a.block/\len<=cap/\cap<=maxLen/\m=(if spare a.block then cap else len) /\
   x=(.slice ((List.range len).map D) ((List.range (m - len)).map fun j=>D (len+j)),MemPlace.row a (m * fs.size)++(List.range m).flatMap Pl) /\
   ∀ i,i<m->∃ (ys:List (DataW H×List MemPlace)) (n:Nat),D i = .agg (ys.map (·.1))/\Pl i=ys.flatMap (·.2)/\ys.length=fs.size /\
    ∀ (j:Nat) (f:Field),fs[j]? = some f->∃ (v:Value) (y:DataW H×List MemPlace),w.cell? (a.add (i * fs.size+j))=some v/\ys[j]? = some y/\DataW.trod enc P w base spare held n f.type [v]=some y:=by
 rcases open_slice ht h with h0 | ⟨a,len,cap,m,n,D,Pl,hcs,hb,hl,hm,hmm,hx,hi⟩
 ·exact .inl h0
 ·refine .inr ⟨a,len,cap,m,D,Pl,hcs,hb,hl,hm,hmm,by rw [hC] at hx;exact hx,fun i him=>?_⟩;obtain ⟨cs',hc,ht'⟩:=hi i him;rw [hC] at hc;obtain ⟨ys,n',hn',hy,hlen,hyl,hf⟩:=DataW.trod_struct he ht';obtain ⟨_,hcl,hat⟩:=World.cells?_some hc;simp only [Prod.mk.injEq] at hy;refine ⟨ys,n',hy.1,hy.2,hyl,fun j f hj=>?_⟩;obtain ⟨ho,hk⟩:=hone_of hone j f hj;have hjl:j<fs.size:=(Array.getElem?_eq_some_iff.1 hj).1;have hcell:=hat j hjl;have hv:cs'[j]? = some (cs'[j]'(by omega)):=List.getElem?_eq_getElem Ly;have h1:=hf j f hj;rw [ho,hk] at h1
  have hone':(cs'.drop j).take 1=[cs'[j]'(by omega)]:=by rw [List.drop_eq_getElem_cons Ly];rfl
  rw [hone'] at h1;have hys:ys[j]? = some (ys[j]'(by omega)):=List.getElem?_eq_getElem Ly;refine ⟨_,_,?_,hys,h1.trans hys⟩;rw [<- Go.Deep.add_add,hcell,hv]
def Ints (w:World) (k:IntKind) (v:Value) (zs:List Int):Prop :=
 ∃ (a:Option Addr) (cap:Nat),v = .slice a zs.length cap/\zs.length<=maxLen/\(∀ n∈zs,(Lit.int k n).wf=true) /\
  (zs.length=0\/∃ b off,a=some ⟨b,off,none⟩/\b<w.heap.size/\∀ i,i<zs.length->w.cell? ⟨b,off+i,none⟩=some (.int k (zs.getD i 0)))
theorem q3v {fs:Array Field} {t:TypeId} (h:(fs.all fun f=>f.type == t)=true):∀ (j:Nat) (f:Field),fs[j]? = some f->f.type=t:=by intro j f hj;have:=Array.all_eq_true_iff_forall_mem.1 h f (Array.mem_of_getElem? hj);simpa using this
end
end Go.Proofs.YtbddhncgemeohaaGreatDoor.Law
namespace Go.Proofs.YtbddhncgemeohaaGreatDoor.Og
open Go.RowKit Go.Maps Ar
abbrev O:=Int×Int×Int×Int
def q2j (os:List O) (i:Nat):O:=os.getD i (0,0,0,0)
def J9 (rs:List (List O)) (i:Nat):List O:=rs.getD i []
def wfO (o:O):Prop:=(Lit.int .i64 o.1).wf=true
def Tg (w:World) (v:Value) (os:List O):Prop:=∃ (a:Option Addr) (cap:Nat),v = .slice a os.length cap/\os.length<=maxLen/\(∀ o∈os,wfO o) /\
 (os.length=0\/∃ b off,a=some ⟨b,off,none⟩/\b<w.heap.size/\∀ i,i<os.length->w.cell? ⟨b,off+i * 4,none⟩=some (.int .i64 (q2j os i).1)/\w.cell? ⟨b,off+i * 4+1,none⟩=some (.int .i64 (q2j os i).2.1)/\w.cell? ⟨b,off+i * 4+2,none⟩=some (.int .i64 (q2j os i).2.2.1)/\w.cell? ⟨b,off+i * 4+3,none⟩=some (.int .i64 (q2j os i).2.2.2))
def Wv (w:World) (v:Value) (rs:List (List O)):Prop:=∃ (a:Option Addr) (cap:Nat) (x:Nat->Value),v = .slice a rs.length cap/\rs.length<=maxLen /\
 (rs.length=0\/∃ b off,a=some ⟨b,off,none⟩/\b<w.heap.size/\∀ i,i<rs.length->w.cell? ⟨b,off+i,none⟩=some (x i))/\∀ i,i<rs.length->Tg w (x i) (J9 rs i)
def Scr (w:World) (s:Value) (t c wd v:Int) (rs:List (List O)) (ps ds:List Int):Prop:=∃ vo vp vd,s = .agg #[.int .i64 t,.int .i64 c,.int .i64 wd,.int .i64 v,vo,vp,vd]/\Wv w vo rs/\Law.Ints w .i64 vp ps/\Law.Ints w .i64 vd ds
theorem Zz {w w':World} (f:Fr [] w w') {b i:Nat} {v:Value} (h:w.cell? ⟨b,i,none⟩=some v):w'.cell? ⟨b,i,none⟩=some v:=f.cell h Ma
theorem Tg.up {w w':World} {v:Value} {os:List O} (h:Tg w v os) (f:Fr [] w w'):Tg w' v os:=by
 obtain ⟨a,cap,h1,h2,h3,h4⟩:=h;refine ⟨a,cap,h1,h2,h3,?_⟩;rcases h4 with h | ⟨b,off,h5,h6,h7⟩
 ·exact .inl h
 ·refine .inr ⟨b,off,h5,ql h6 f.size,fun i hi=>?_⟩;obtain ⟨c0,c1,c2,c3⟩:=h7 i hi;exact ⟨Zz f c0,Zz f c1,Zz f c2,Zz f c3⟩
theorem Wv.up {w w':World} {v:Value} {rs:List (List O)} (h:Wv w v rs) (f:Fr [] w w'):Wv w' v rs:=by
 obtain ⟨a,cap,x,h1,h2,h3,h4⟩:=h;refine ⟨a,cap,x,h1,h2,?_,fun i hi=>(h4 i hi).up f⟩;rcases h3 with h | ⟨b,off,h5,h6,h7⟩
 ·exact .inl h
 ·exact Hs
theorem q7r {w w':World} {v:Value} {zs:List Int} (h:Law.Ints w .i64 v zs) (f:Fr [] w w'):Law.Ints w' .i64 v zs:=by
 obtain ⟨a,cap,h1,h2,h3,h4⟩:=h;refine ⟨a,cap,h1,h2,h3,?_⟩;rcases h4 with h | ⟨b,off,h5,h6,h7⟩
 ·exact .inl h
 ·exact Hs
theorem Scr.up {w w':World} {s:Value} {t c wd v:Int} {rs:List (List O)} {ps ds:List Int} (h:Scr w s t c wd v rs ps ds) (f:Fr [] w w'):Scr w' s t c wd v rs ps ds:=by obtain ⟨vo,vp,vd,h1,h2,h3,h4⟩:=h;exact ⟨vo,vp,vd,h1,h2.up f,q7r h3 f,q7r h4 f⟩
theorem qaz (w:World):Tg w (.slice none 0 0) []:=⟨none,0,rfl,by simp [maxLen],by simp,.inl rfl⟩
theorem qa7 (w:World):Wv w (.slice none 0 0) []:=⟨none,0,fun _=>undef,rfl,by simp [maxLen],.inl rfl,by simp⟩
theorem Un {rs:List (List O)} {i:Nat} (h:i<rs.length):J9 rs i∈rs:=by unfold J9;simp [List.getD_eq_getElem?_getD,h]
theorem q87 {os:List O} {i:Nat} (h:i<os.length):q2j os i∈os:=by unfold q2j;simp [List.getD_eq_getElem?_getD,h]
theorem q8t {rs:List (List O)} {p:List O->Bool} (h:∀ i,i<rs.length->p (J9 rs i)=true):rs.all p=true:=by rw [List.all_eq_true];intro x hx;obtain ⟨i,hi,rfl⟩:=List.getElem_of_mem hx;exact Gm
theorem q9r {os:List O} {p:O->Bool} (h:∀ i,i<os.length->p (q2j os i)=true):os.all p=true:=by rw [List.all_eq_true];intro x hx;obtain ⟨i,hi,rfl⟩:=List.getElem_of_mem hx;have:=h i hi;unfold q2j at this;simpa [List.getD_eq_getElem?_getD,hi] using this
theorem q76 {α:Type} {rs:List α} {p:α->Bool} {x:α} (hx:x∈rs) (h:p x=false):rs.all p=false:=by
 cases e:rs.all p with
 | false=>rfl
 | true=>rw [List.all_eq_true] at e;rw [e x hx] at h;cases h
def long (os:List O):Bool:=decide (1000<os.length)
def large (t:Int) (rs:List (List O)) (ps:List Int):Bool:=decide (t<rs.length) || (decide (20000<ps.length) || rs.any long)
def qb1 (o:O):Bool:=fit o.1 o.2.1 o.2.2.1 o.2.2.2
def qd0 (os:List O):Bool:=os.all qb1
theorem c7 {w:World} {b:Nat} {t:TypeId} {x0 x1 x2 x3 x4 x5 x6:Value} (h:w.heap[b]? = some (.cells #[x0,x1,x2,x3,x4,x5,x6] t (0,0))) :
  w.cell? ⟨b,0,none⟩=some x0/\w.cell? ⟨b,1,none⟩=some x1/\w.cell? ⟨b,2,none⟩=some x2/\w.cell? ⟨b,3,none⟩=some x3/\w.cell? ⟨b,4,none⟩=some x4/\w.cell? ⟨b,5,none⟩=some x5/\w.cell? ⟨b,6,none⟩=some x6 :=
 ⟨by rw [cell_of_row _ _ _ _ _ _ h];rfl,by rw [cell_of_row _ _ _ _ _ _ h];rfl,by rw [cell_of_row _ _ _ _ _ _ h];rfl,by rw [cell_of_row _ _ _ _ _ _ h];rfl,by rw [cell_of_row _ _ _ _ _ _ h];rfl,by rw [cell_of_row _ _ _ _ _ _ h];rfl,by rw [cell_of_row _ _ _ _ _ _ h];rfl⟩
def has (rs:List (List O)) (x:Int):Bool:=decide (0<=thr x) && (decide (thr x<rs.length) && decide (ind x<(J9 rs (thr x).toNat).length))
end Go.Proofs.YtbddhncgemeohaaGreatDoor.Og
