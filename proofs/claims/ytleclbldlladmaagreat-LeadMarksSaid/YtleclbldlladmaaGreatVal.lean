/- Parts. -/
import Derived.Test.YtleclbldlladmaaGreatVaa
import Derived.Test.YtleclbldlladmaaGreatVab
import Derived.Test.YtleclbldlladmaaGreatVac
import Derived.Test.YtleclbldlladmaaGreatVad
import Derived.Test.YtleclbldlladmaaGreatVaf
import Derived.Test.YtleclbldlladmaaGreatVag
import Derived.Test.YtleclbldlladmaaGreatVah
import Derived.Test.YtleclbldlladmaaGreatVai
import Derived.Test.YtleclbldlladmaaGreatVaj
import Derived.Test.YtleclbldlladmaaGreatVak
import Derived.Below
import Derived.Deep.Fields
import Derived.Deep.Slices
import Derived.OpenShut
import Derived.ProofKit
set_option linter.unusedVariables false
set_option linter.unusedSimpArgs false
set_option maxRecDepth 100000
set_option maxHeartbeats 12800000
namespace Go.Proofs.YtleclbldlladmaaGreat.Law
open Go.ChangeShapes Go.WideShapes Go.ChangeAt Go.RowKit Go.Deep
section
variable {H:Type} {enc:TypeId×Value->H} {P:Program}
theorem Ug {f:Func} {s:ChangeSpec} {apart fresh handsOn again:Bool} {W W':World} {args:Array Value} {v:Value} {ds gs:List (DataW H)} {before pa pv:List MemPlace}
  (hW:DataW.Whole enc P f.params.toList s.vars apart W args.toList ds gs before)
  (hres:∀ (b:Nat) (sp:Nat->Bool) (hd:Bool),DataW.TrodAll enc P W' b sp hd f.resultTypes.toList (v.resultList f.resultTypes.size) (s.fn H (ds++gs)).results [])
  (hargs:∀ sp:Nat->Bool,(∀ p∈before,sp p.block=true)->DataW.TrodAll enc P W' 0 sp true f.params.toList args.toList (s.fn H (ds++gs)).args pa)
  (hvars:∀ sp:Nat->Bool,(∀ p∈before,sp p.block=true)->DataW.TrodVars enc P W' sp s.vars (s.fn H (ds++gs)).vars pv)
  (hps:before=pa++pv) (hb:Below W.heap.size W W')
  (hok:∀ (j:Nat) (t:TypeId) (r:Value),f.resultTypes[j]? = some t->(v.resultList f.resultTypes.size)[j]? = some r->Value.okWide P W' .any 0 t r) :
  s.post enc P f apart fresh handsOn again W args v W':=by
 have hlt:∀ p∈before,p.block<W.heap.size:=fun p hp=>hW.lt p hp
 have hold:∀ p∈before,(fun b=>decide (b<W.heap.size)) p.block=true:=fun p hp=>by simpa using hlt p hp
 refine ⟨ds,gs,before,[],pa,pv,hW,hres _ _ _,hargs _ hold,hvars _ hold,World.keptBut_mono (fun p hp=>⟨hp,?_⟩) (hb.frame (· ∈ before)),fun _=>?_⟩
 ·rw [hps,List.mem_append] at hp;exact Or.inr hp
 ·obtain ⟨_,_,_,_,_,hz,hn⟩:=hW;refine ⟨hok,_,_,([]++pa)++pv,⟨[]++pa,pv,trodAll_append (hargs _ (fun _ _=>rfl)) (hres _ _ _),hvars _ (fun _ _=>rfl),rfl,?_,?_⟩,?_⟩
  ·intro b off hp;have hin:MemPlace.cell b off∈before:=by rw [hps];simpa using hp
   rw [hb.frozen (hlt _ hin)];exact hz b off hin
  ·intro ha;have:=hn ha;rw [hps] at this;simpa using this
  ·intro p hp _;rw [hps];simpa using hp
theorem Vu (hl:laidOutB P=true) {W W':World} (hb:Below W.heap.size W W') {sp:Nat->Bool}:∀ (ts:List TypeId) (vs:List Value) (ds:List (DataW H)) (ps:List MemPlace),
  ts.all (fun t=>P.readableRec t && decide (t<P.types.size))=true->DataW.TrodAll enc P W 0 (fun _=>true) true ts vs ds ps->(∀ x∈ps,x.block<W.heap.size)->(∀ x∈ps,sp x.block=true) ->
  DataW.TrodAll enc P W' 0 sp true ts vs ds ps
 | [],vs,ds,ps,_,h,_,_=>by
  cases vs <;> cases ds <;> simp_all [DataW.TrodAll]
 | t :: ts,vs,ds,ps,hr,h,hlt,hs=>by
  match vs,ds,h with
  | v :: vs,d :: ds,⟨p,q,h1,h2,hpq⟩ =>
   subst hpq
   simp only [List.all_cons,Bool.and_eq_true,decide_eq_true_eq] at hr
   exact ⟨p,q,WideElems.Trod_stays hl hr.1.1 hr.1.2 h1 (fun x hx=>hb.same (hlt x (List.mem_append_left _ hx))) (fun x hx=>hs x (List.mem_append_left _ hx)),
    Vu hl hb ts vs ds q hr.2 h2 (fun x hx=>hlt x (List.mem_append_right _ hx)) (fun x hx=>hs x (List.mem_append_right _ hx)),rfl⟩
theorem law_post {f:Func} {s:ChangeSpec} {W W':World} {args:Array Value} {ds gs:List (DataW H)} {before:List MemPlace} {tb:TypeId}
  (hl:laidOutB P=true) (hr:f.params.toList.all (fun t=>P.readableRec t && decide (t<P.types.size))=true) (htb:P.underlying tb=some .bool) (hrt:f.resultTypes = #[tb])
  (hvars:s.vars=[]) (hfn:(s.fn H (ds++gs)) = { results:=[.lit (.bool true)],args:=ds })
  (hW:DataW.Whole enc P f.params.toList s.vars false W args.toList ds gs before) (hb:Below W.heap.size W W') :
  s.post enc P f false true false false W args (.bool true) W':=by
 have hW':=hW;have hlt:∀ p∈before,p.block<W.heap.size:=fun p hp=>hW.lt p hp
 obtain ⟨p,q,hA,hV,rfl,hfz,hnd⟩:=hW;rw [hvars] at hV;have hgq:gs=[]/\q=[]:=trodVars_none hV;obtain ⟨rfl,rfl⟩:=hgq;refine Ug (pa:=p) (pv:=[]) hW' ?_ ?_ ?_ rfl hb ?_
 ·intro b sp hd;rw [hfn,hrt];exact trodAll_cons_mk (shut_bool htb _) trodAll_mk0
 ·intro sp hsp;rw [hfn];simp only [List.append_nil] at hsp hlt;exact Vu hl hb _ _ _ _ hr hA hlt hsp
 ·intro sp hsp;rw [hfn,hvars];rfl
 ·exact ok_one hrt rfl (okWide_bool_mk htb _)
theorem Q7 {w:World} {base:Nat} {spare:Nat->Bool} {held:Bool} {t e:TypeId} {fs:Array Field} {fuel:Nat} {cs:List Value} {x:DataW H×List MemPlace} (ht:P.underlying t=some (.slice e)) (he:P.underlying e=some (.struct fs))
  (hone:oneCellFields P fs=true) (hC:P.cellsOf e=fs.size) (h:DataW.trod enc P w base spare held fuel t cs=some x) :
  (cs=[.slice none 0 0]/\x=(.nil,[])) \/
  ∃ (a:Addr) (len cap m:Nat) (D:Nat->DataW H) (Pl:Nat->List MemPlace),cs=[.slice (some a) len cap]/\base<=a.block/\len<=cap/\cap<=maxLen/\m=(if spare a.block then cap else len) /\
   x=(.slice ((List.range len).map D) ((List.range (m - len)).map fun j=>D (len+j)),MemPlace.row a (m * fs.size)++(List.range m).flatMap Pl) /\
   ∀ i,i<m->∃ (ys:List (DataW H×List MemPlace)) (n:Nat),D i = .agg (ys.map (·.1))/\Pl i=ys.flatMap (·.2)/\ys.length=fs.size /\
    ∀ (j:Nat) (f:Field),fs[j]? = some f->∃ (v:Value) (y:DataW H×List MemPlace),w.cell? (a.add (i * fs.size+j))=some v/\ys[j]? = some y/\DataW.trod enc P w base spare held n f.type [v]=some y:=by
 rcases open_slice ht h with h0 | ⟨a,len,cap,m,n,D,Pl,hcs,hb,hl,hm,hmm,hx,hi⟩
 ·exact .inl h0
 ·refine .inr ⟨a,len,cap,m,D,Pl,hcs,hb,hl,hm,hmm,by rw [hC] at hx;exact hx,fun i him=>?_⟩;obtain ⟨cs',hc,ht'⟩:=hi i him;rw [hC] at hc;obtain ⟨ys,n',hn',hy,hlen,hyl,hf⟩:=DataW.trod_struct he ht';obtain ⟨_,hcl,hat⟩:=World.cells?_some hc;simp only [Prod.mk.injEq] at hy;refine ⟨ys,n',hy.1,hy.2,hyl,fun j f hj=>?_⟩;obtain ⟨ho,hk⟩:=hone_of hone j f hj;have hjl:j<fs.size:=(Array.getElem?_eq_some_iff.1 hj).1;have hcell:=hat j hjl;have hv:cs'[j]? = some (cs'[j]'(by omega)):=List.getElem?_eq_getElem Lb;have h1:=hf j f hj;rw [ho,hk] at h1
  have hone':(cs'.drop j).take 1=[cs'[j]'(by omega)]:=by rw [List.drop_eq_getElem_cons Lb];rfl
  rw [hone'] at h1;have hys:ys[j]? = some (ys[j]'(by omega)):=List.getElem?_eq_getElem Lb;refine ⟨_,_,?_,hys,h1.trans hys⟩;rw [<- Go.Deep.add_add,hcell,hv]
def Ints (w:World) (k:IntKind) (v:Value) (zs:List Int):Prop :=
 ∃ (a:Option Addr) (cap:Nat),v = .slice a zs.length cap/\zs.length<=maxLen/\(∀ n∈zs,(Lit.int k n).wf=true) /\
  (zs.length=0\/∃ b off,a=some ⟨b,off,none⟩/\b<w.heap.size/\∀ i,i<zs.length->w.cell? ⟨b,off+i,none⟩=some (.int k (zs.getD i 0)))
theorem qc6 {W:World} {t e:TypeId} {k:IntKind} {v:Value} {d:DataW H} {p:List MemPlace} {r:Reach} {base:Nat} (ht:P.underlying t=some (.slice e)) (he:P.underlying e=some (.int k)) (hc:P.cellsOf e=1)
  (hv:Value.okWide P W r base t v) (h:DataW.Trod enc P W 0 (fun _=>true) true t v d p):∃ zs,Ints W k v zs:=by
 obtain ⟨a0,len,cap,rfl⟩:=okWide_slice ht hv;obtain ⟨fuel,hf⟩:=h;rcases open_ints ht he hc hf with ⟨hcs,hx⟩ | ⟨a,len',cap',zs,hcs,_,hl,hm,hz,hx,hcell,hwz⟩
 ·simp [Value.cells] at hcs;obtain ⟨rfl,rfl,rfl⟩:=hcs;exact Hm
 ·simp [Value.cells] at hcs;obtain ⟨rfl,rfl,rfl⟩:=hcs;simp only [if_true] at hz;have hlen:(zs.take len).length=len:=by rw [List.length_take];omega
  refine ⟨zs.take len,some a,cap,by rw [hlen],by omega,fun n hn=>hwz n (List.mem_of_mem_take hn),?_⟩;by_cases h0:len=0
  ·exact .inl Lb
  ·exact Bh
def Recs (w:World) (n:Nat) (v:Value) (len:Nat) (V:Nat->Nat->Value):Prop :=
 ∃ (a:Option Addr) (cap:Nat),v = .slice a len cap/\len<=maxLen /\
  (len=0\/∃ b off,a=some ⟨b,off,none⟩/\b<w.heap.size/\∀ i,i<len->∀ j,j<n->w.cell? ⟨b,off+(i * n+j),none⟩=some (V i j))
theorem qc4 {W:World} {t e:TypeId} {fs:Array Field} {v:Value} {d:DataW H} {p:List MemPlace} {r:Reach} {base:Nat} (ht:P.underlying t=some (.slice e)) (he:P.underlying e=some (.struct fs))
  (hone:oneCellFields P fs=true) (hC:P.cellsOf e=fs.size) (h0:0<fs.size)
  (hv:Value.okWide P W r base t v) (h:DataW.Trod enc P W 0 (fun _=>true) true t v d p) :
  ∃ len V,Recs W fs.size v len V/\∀ i,i<len->∀ (j:Nat) (f:Field),fs[j]? = some f->∃ n y,DataW.trod enc P W 0 (fun _=>true) true n f.type [V i j]=some y:=by
 obtain ⟨a0,len,cap,rfl⟩:=okWide_slice ht hv;obtain ⟨fuel,hf⟩:=h;rcases Q7 ht he hone hC hf with ⟨hcs,hx⟩ | ⟨a,len',cap',m,D,Pl,hcs,_,hl,hm,hmm,hx,hi⟩
 ·simp [Value.cells] at hcs;obtain ⟨rfl,rfl,rfl⟩:=hcs;exact ⟨0,fun _ _=>undef,⟨none,0,rfl,Nat.zero_le _,.inl rfl⟩,fun i hi=>absurd hi (Nat.not_lt_zero i)⟩
 ·simp [Value.cells] at hcs;obtain ⟨rfl,rfl,rfl⟩:=hcs;simp only [if_true] at hmm
  have hcell:∀ i,i<len->∀ (j:Nat) (f:Field),fs[j]? = some f->∃ v n y,W.cell? (a.add (i * fs.size+j))=some v/\DataW.trod enc P W 0 (fun _=>true) true n f.type [v]=some y:=by intro i hil j f hj;obtain ⟨ys,n,_,_,_,hf'⟩:=hi i Lb;obtain ⟨v,y,h1,h2,h3⟩:=hf' j f hj;exact ⟨v,n,y,h1,h3⟩
  refine ⟨len,fun i j=>((W.cell? (a.add (i * fs.size+j))).getD undef),⟨some a,cap,rfl,by omega,?_⟩,fun i hil j f hj=>?_⟩
  ·by_cases h0':len=0
   ·exact .inl h0'
   ·obtain ⟨b,off,spot⟩:=a;obtain ⟨v0,_,_,hc0,_⟩:=hcell 0 Lb 0 fs[0] (by simp [h0]);have hspot:spot=none:=by simpa [Addr.add] using World.cell?_spot hc0
    subst hspot;refine .inr ⟨b,off,rfl,?_,fun i hil j hj=>?_⟩
    ·have:=World.block_lt_of_cell? W _ hc0;simpa [Addr.add] using this
    ·obtain ⟨v1,_,_,hc1,_⟩:=hcell i hil j fs[j] (by simp [hj]);show _=some ((W.cell? _).getD undef);rw [hc1,<- add_plain,hc1];rfl
  ·obtain ⟨v1,n,y,hc1,ht1⟩:=hcell i hil j f hj;exact ⟨n,y,by show DataW.trod enc P W 0 _ true n f.type [(W.cell? _).getD undef]=_;rw [hc1];exact ht1⟩
theorem recs_int {W:World} {fs:Array Field} {k:IntKind} {len:Nat} {V:Nat->Nat->Value}
  (hV:∀ i,i<len->∀ (j:Nat) (f:Field),fs[j]? = some f->∃ n y,DataW.trod enc P W 0 (fun _=>true) true n f.type [V i j]=some y)
  (hf:∀ (j:Nat) (f:Field),fs[j]? = some f->P.underlying f.type=some (.int k)):∀ i,i<len->∀ j,j<fs.size->∃ x:Int,V i j = .int k x/\(Lit.int k x).wf=true:=by
 intro i hi j hj;obtain ⟨n,y,h⟩:=hV i hi j fs[j] (by simp [hj]);obtain ⟨x,hx,-,hw⟩:=DataW.trod_int (hf j fs[j] (by simp [hj])) h;exact ⟨x,by simpa using hx,hw⟩
theorem q4q {fs:Array Field} {t:TypeId} (h:(fs.all fun f=>f.type == t)=true):∀ (j:Nat) (f:Field),fs[j]? = some f->f.type=t:=by intro j f hj;have:=Array.all_eq_true_iff_forall_mem.1 h f (Array.mem_of_getElem? hj);simpa using this
end
end Go.Proofs.YtleclbldlladmaaGreat.Law
namespace Go.Proofs.YtleclbldlladmaaGreat.Og
open Go.RowKit Go.Maps Ar
abbrev O:=Int×Int×Int×Int
def q2h (os:List O) (i:Nat):O:=os.getD i (0,0,0,0)
def J7 (rs:List (List O)) (i:Nat):List O:=rs.getD i []
def wfO (o:O):Prop:=(Lit.int .i64 o.1).wf=true
def Uh (w:World) (v:Value) (os:List O):Prop:=∃ (a:Option Addr) (cap:Nat),v = .slice a os.length cap/\os.length<=maxLen/\(∀ o∈os,wfO o) /\
 (os.length=0\/∃ b off,a=some ⟨b,off,none⟩/\b<w.heap.size/\∀ i,i<os.length->w.cell? ⟨b,off+i * 4,none⟩=some (.int .i64 (q2h os i).1)/\w.cell? ⟨b,off+i * 4+1,none⟩=some (.int .i64 (q2h os i).2.1)/\w.cell? ⟨b,off+i * 4+2,none⟩=some (.int .i64 (q2h os i).2.2.1)/\w.cell? ⟨b,off+i * 4+3,none⟩=some (.int .i64 (q2h os i).2.2.2))
def U5 (w:World) (v:Value) (rs:List (List O)):Prop:=∃ (a:Option Addr) (cap:Nat) (x:Nat->Value),v = .slice a rs.length cap/\rs.length<=maxLen /\
 (rs.length=0\/∃ b off,a=some ⟨b,off,none⟩/\b<w.heap.size/\∀ i,i<rs.length->w.cell? ⟨b,off+i,none⟩=some (x i))/\∀ i,i<rs.length->Uh w (x i) (J7 rs i)
def Scr (w:World) (s:Value) (t c wd v:Int) (rs:List (List O)) (ps ds:List Int):Prop:=∃ vo vp vd,s = .agg #[.int .i64 t,.int .i64 c,.int .i64 wd,.int .i64 v,vo,vp,vd]/\U5 w vo rs/\Law.Ints w .i64 vp ps/\Law.Ints w .i64 vd ds
theorem Zz {w w':World} (f:Fr [] w w') {b i:Nat} {v:Value} (h:w.cell? ⟨b,i,none⟩=some v):w'.cell? ⟨b,i,none⟩=some v:=f.cell h Lc
theorem Uh.up {w w':World} {v:Value} {os:List O} (h:Uh w v os) (f:Fr [] w w'):Uh w' v os:=by
 obtain ⟨a,cap,h1,h2,h3,h4⟩:=h;refine ⟨a,cap,h1,h2,h3,?_⟩;rcases h4 with h | ⟨b,off,h5,h6,h7⟩
 ·exact .inl h
 ·refine .inr ⟨b,off,h5,qj h6 f.size,fun i hi=>?_⟩;obtain ⟨c0,c1,c2,c3⟩:=h7 i hi;exact ⟨Zz f c0,Zz f c1,Zz f c2,Zz f c3⟩
theorem U5.up {w w':World} {v:Value} {rs:List (List O)} (h:U5 w v rs) (f:Fr [] w w'):U5 w' v rs:=by
 obtain ⟨a,cap,x,h1,h2,h3,h4⟩:=h;refine ⟨a,cap,x,h1,h2,?_,fun i hi=>(h4 i hi).up f⟩;rcases h3 with h | ⟨b,off,h5,h6,h7⟩
 ·exact .inl h
 ·exact Ha
theorem q7f {w w':World} {v:Value} {zs:List Int} (h:Law.Ints w .i64 v zs) (f:Fr [] w w'):Law.Ints w' .i64 v zs:=by
 obtain ⟨a,cap,h1,h2,h3,h4⟩:=h;refine ⟨a,cap,h1,h2,h3,?_⟩;rcases h4 with h | ⟨b,off,h5,h6,h7⟩
 ·exact .inl h
 ·exact Ha
theorem Scr.up {w w':World} {s:Value} {t c wd v:Int} {rs:List (List O)} {ps ds:List Int} (h:Scr w s t c wd v rs ps ds) (f:Fr [] w w'):Scr w' s t c wd v rs ps ds:=by obtain ⟨vo,vp,vd,h1,h2,h3,h4⟩:=h;exact ⟨vo,vp,vd,h1,h2.up f,q7f h3 f,q7f h4 f⟩
theorem qb5 (w:World):Uh w (.slice none 0 0) []:=⟨none,0,rfl,by simp [maxLen],by simp,.inl rfl⟩
theorem q7r (w:World):U5 w (.slice none 0 0) []:=⟨none,0,fun _=>undef,rfl,by simp [maxLen],.inl rfl,by simp⟩
theorem Uq {rs:List (List O)} {i:Nat} (h:i<rs.length):J7 rs i∈rs:=by unfold J7;simp [List.getD_eq_getElem?_getD,h]
theorem q8y {os:List O} {i:Nat} (h:i<os.length):q2h os i∈os:=by unfold q2h;simp [List.getD_eq_getElem?_getD,h]
theorem q7v {rs:List (List O)} {p:List O->Bool} (h:∀ i,i<rs.length->p (J7 rs i)=true):rs.all p=true:=by rw [List.all_eq_true];intro x hx;obtain ⟨i,hi,rfl⟩:=List.getElem_of_mem hx;exact Gg
theorem q89 {os:List O} {p:O->Bool} (h:∀ i,i<os.length->p (q2h os i)=true):os.all p=true:=by rw [List.all_eq_true];intro x hx;obtain ⟨i,hi,rfl⟩:=List.getElem_of_mem hx;have:=h i hi;unfold q2h at this;simpa [List.getD_eq_getElem?_getD,hi] using this
theorem q5x {α:Type} {rs:List α} {p:α->Bool} {x:α} (hx:x∈rs) (h:p x=false):rs.all p=false:=by
 cases e:rs.all p with
 | false=>rfl
 | true=>rw [List.all_eq_true] at e;rw [e x hx] at h;cases h
end Go.Proofs.YtleclbldlladmaaGreat.Og
namespace Go.Proofs.YtleclbldlladmaaGreat.Mx
open Go.RowKit Ar Ref Og Mp
structure Gt where
 key:Int
 c:Cf
 w:Wk
 l:Option Lok
 over:Bool
def Gt.new (c:Cf) (key:Int):Gt:=⟨key,c,Wk.new c key,none,false⟩
def Gt.step (g:Gt) (s:St):Gt×St :=
 if g.over=true then (g,s) else
 match g.l with
 | some x=>({ g with l:=some (x.step s).1,over:=decide ((x.step s).1.line=0) },(x.step s).2)
 | none=>(if (g.w.step s).1.line=0 then { g with w:=(g.w.step s).1,l:=some (Lok.new g.c (g.w.step s).1.at_ g.key g.key 1073741824) } else { g with w:=(g.w.step s).1 },(g.w.step s).2)
def Vt:An:=⟨0,false,0,0,0,[]⟩
def Xw (l:List It) (key:Int):An :=
 match l.find? (fun y=>y.k == key) with
 | some y=>⟨0,decide (0<=q3b y.d),max 0 (q3b y.d),q9x y.d,0,[]⟩
 | none=>⟨0,false,0,-1,0,[]⟩
def Gt.answer (g:Gt):An:=if g.over=true then (match g.l with | some x=>Xw x.l g.key | none=>Vt) else Vt
structure Sn where
 c:Cf
 t:Int
 seq:Int
 lo:Int
 hi:Int
 k:Km
 w:Option Wk
 l:Option Lok
 line:Int
 at_:Int
 n:Int
 items:List It
def Sn.new (c:Cf) (t seq lo hi:Int):Sn:=⟨c,t,seq,lo,hi,Km.new c t seq,none,none,10,0,0,[]⟩
def Sn.chunk (x:Sn) (at_:Int):Sn:={ x with at_:=at_,line:=1,l:=some (Lok.new x.c at_ x.lo x.hi x.k.version) }
def X8:List It->It->List It
 | [],x=>[x]
 | y :: r,x=>if y.k<x.k then y :: X8 r x else if y.k=x.k then x :: r else x :: y :: r
def Sn.step (x:Sn) (s:St):Sn×St :=
 if x.line=10 then
  (if x.hi<x.lo then ({ x with line:=0 },s)
   else (if (x.k.step s).1.line=0 then { x with k:=(x.k.step s).1,w:=some (Wk.new x.c x.lo),line:=if (x.k.step s).1.e=0 then 11 else 0 } else { x with k:=(x.k.step s).1 },(x.k.step s).2))
 else if x.line=11 then
  (match x.w with
   | some y=>(if (y.step s).1.line=0 then ({ x with w:=some (y.step s).1 }:Sn).chunk (y.step s).1.at_ else { x with w:=some (y.step s).1 },(y.step s).2)
   | none=>(x,s))
 else if x.line=1 then
  (match x.l with
   | some y=>(if (y.step s).1.line=0 then { x with l:=some (y.step s).1,items:=(y.step s).1.l.foldl X8 x.items,line:=2 } else { x with l:=some (y.step s).1 },(y.step s).2)
   | none=>(x,s))
 else if x.line=2 then
  ({ x with n:=atW (qw s.l (wrap64 (x.at_+2))),line:=if atW (qw s.l (wrap64 (x.at_+2)))=0 then 4 else 3 },s.load (wrap64 (x.at_+2)))
 else if x.line=3 then
  (if qw s.l (wrap64 x.n)<=x.hi then x.chunk x.n else { x with line:=4 },s.load (wrap64 x.n))
 else if x.line=4 then ({ x with line:=0 },s.store (q9t x.t) (ko x.seq 0))
 else (x,s)
def Xv (l:List It):List (Int×Int):=l.filterMap fun y=>if 0<=q3b y.d then some (y.k,q3b y.d) else none
def Sn.answer (x:Sn):An :=
 if x.line≠0 then Vt else if x.k.e≠0 then ⟨x.k.e,false,0,0,0,[]⟩ else ⟨0,false,0,-1,x.k.version,Xv x.items⟩
structure Bd where
 c:Cf
 chunk:Int
 mate:Int
 after:Int
 versions:List Int
 line:Int
 i:Int
 mn:Int
 at_:Int
 x:It
 l:List It
 groups:List (List It)
 w:List (Int×Int)
 repl:Int
 e:Int
def Bd.new (c:Cf) (chunk mate after:Int) (vs:List Int):Bd:=⟨c,chunk,mate,after,vs,1,0,0,0,⟨0,0,0⟩,[],[],[],0,0⟩
def Bd.on (b:Bd):Bd:=if Q3 b.c b.mate<=b.i+1 then { b with i:=b.i+1,groups:=xy (Yf b.l b.versions) b.c.c,line:=5 } else { b with i:=b.i+1,line:=2 }
def Bd.sa (b:Bd):Int:=yt b.c b.chunk b.mate b.i
def Bd.nth (b:Bd):Int×Int:=b.w.getD b.i.toNat (0,0)
def Bd.five (b:Bd) (v:Int):Bd :=
 let n:=(b.groups.length:Int) * z6 b.c
 let l:=yf b.c (wrap64 v) b.after b.mn b.groups
 if v<1\/b.c.wd - n<v\/l=[] then { b with at_:=v,e:=14,line:=0 } else { b with at_:=v,w:=yg l,i:=0,line:=6 }
def Bd.step (b:Bd) (s:St):Bd×St :=
 if b.line=1 then (({ b with mn:=qw s.l (wrap64 b.chunk),i:=-1 }:Bd).on,s.load (wrap64 b.chunk))
 else if b.line=2 then (let b':Bd:={ b with x:=⟨0,Vi (qw s.l b.sa),0⟩,line:=3 };if qw s.l b.sa<3 then b'.on else b',s.load b.sa)
 else if b.line=3 then ({ b with x:=⟨qw s.l (wrap64 (b.sa+1)),b.x.v,b.x.d⟩,line:=4 },s.load (wrap64 (b.sa+1)))
 else if b.line=4 then (let x':It:=⟨b.x.k,b.x.v,qw s.l (wrap64 (b.sa+2))⟩;({ b with x:=x',l:=b.l++[x'] }:Bd).on,s.load (wrap64 (b.sa+2)))
 else if b.line=5 then (b.five (qw s.l 2),s.add 2 (b.groups.length * z6 b.c))
 else if b.line=6 then ({ b with i:=b.i+1,line:=if (b.w.length:Int)<=b.i+1 then 7 else 6 },s.store b.nth.1 b.nth.2)
 else if b.line=7 then ({ b with line:=8 },s.swap (wrap64 (b.chunk+5)) 0 b.at_)
 else if b.line=8 then ({ b with repl:=qw s.l (wrap64 (b.chunk+5)),line:=0 },s.load (wrap64 (b.chunk+5)))
 else (b,s)
def Ld.three (x:Ld):Int×Int×Int:=if x.line≠0 then (0,0,0) else if x.alone=true then (x.l,0,x.after) else (x.l,x.n,x.after)
structure Fm where
 chunk:Int
 part:Int
 l:Ld
 s:Option Sl
 n:Option Nd
 b:Option Bd
 p:Option Sp
 repl:Int
def J9 (ds:List Int):Bool:=match ds with | []=>false | d :: _=>decide (bits .and .i64 d 1=1)
def Fm.new (c:Cf) (chunk:Int) (draw:Bool):Fm:=⟨chunk,1,Ld.new c chunk draw,none,none,none,none,0⟩
def Fm.splice (f:Fm) (c:Cf) (repl:Int):Fm:={ f with repl:=repl,part:=6,p:=some (Sp.new c f.l.three.1 f.l.three.2.1 repl) }
structure Md where
 c:Cf
 draws:List Int
 f:List Fm
 e:Int
def Md.new (c:Cf) (chunk:Int) (ds:List Int):Md:=⟨c,ds,[Fm.new c chunk (J9 ds)],0⟩
def Nd.new (c:Cf):Nd:=⟨c,0,1,0,0,.slice none 0 0,[]⟩
def Md.step (m:Md) (s:St):Md×St :=
 match m.f.getLast? with
 | none=>(m,s)
 | some f =>
  let put (g:Fm):Md:={ m with f:=m.f.dropLast++[g] }
  if f.part=1 then
   let l:=(f.l.step s).1
   let m':Md:=if l.drew=true/\f.l.drew=false/\m.draws≠[] then { m with draws:=m.draws.tail } else m
   ({ m' with f:=m.f.dropLast++[if l.line=0 then { f with l:=l,part:=2,s:=some (Sl.new m.c l.three.1 l.three.2.1) } else { f with l:=l }] },(f.l.step s).2)
  else if f.part=2 then
   (match f.s with
    | some x=>(put { f with s:=some (x.step s).1,part:=if (x.step s).1.line=0 then 3 else 2 },(x.step s).2)
    | none=>(m,s))
  else if f.part=3 then
   (let r:=qw s.l (wrap64 (f.l.three.1+5))
    put (if r=0 then { f with part:=4 } else f.splice m.c r),s.load (wrap64 (f.l.three.1+5)))
  else if f.part=4 then
   (match f.n with
    | none=>(put { f with n:=some (Nd.new m.c) },s.load 1)
    | some x=>(put (if (x.step s).1.line=0 then { f with n:=some (x.step s).1,part:=5,b:=some (Bd.new m.c f.l.three.1 f.l.three.2.1 f.l.three.2.2 (x.step s).1.l) } else { f with n:=some (x.step s).1 }),(x.step s).2))
  else if f.part=5 then
   (match f.b with
    | some x=>(if (x.step s).1.line=0 then (if (x.step s).1.e=0 then put (({ f with b:=some (x.step s).1 }:Fm).splice m.c (x.step s).1.repl) else { m with e:=(x.step s).1.e,f:=[] }) else put { f with b:=some (x.step s).1 },(x.step s).2)
    | none=>(m,s))
  else if f.part=6 then
   (match f.p with
    | some x=>(if (x.step s).1.line=0 then (if (x.step s).1.stuck=0 then { m with f:=m.f.dropLast } else { m with f:=m.f.dropLast++[({ f with p:=some (x.step s).1 }:Fm).splice m.c f.repl,Fm.new m.c (x.step s).1.stuck (J9 m.draws)] }) else put { f with p:=some (x.step s).1 },(x.step s).2)
    | none=>(m,s))
  else (m,s)
structure Pt where
 c:Cf
 key:Int
 data:Int
 draws:List Int
 w:Wk
 x:Option Cl
 m:Option Md
 over:Bool
 version:Int
 e:Int
 placed:Bool
def Pt.new (c:Cf) (key data:Int) (ds:List Int):Pt:=⟨c,key,data,ds,Wk.new c key,none,none,false,0,0,false⟩
def Pt.step (p:Pt) (s:St):Pt×St :=
 if p.over=true then (p,s) else
 match p.m with
 | some m=>(if (m.step s).1.f=[] then { p with placed:=false,draws:=(m.step s).1.draws,e:=(m.step s).1.e,over:=decide ((m.step s).1.e≠0),m:=none,x:=none,w:=Wk.new p.c p.key } else { p with placed:=false,draws:=(m.step s).1.draws,m:=some (m.step s).1 },(m.step s).2)
 | none =>
  match p.x with
  | some x =>
   (let y:=(x.step s).1
    let p':Pt:={ p with x:=some y,placed:=decide (x.i<0) && decide (0<=y.i) }
    if y.line=0 then (if 0<=y.version then { p' with version:=y.version,over:=true } else { p' with m:=some (Md.new p.c y.chunk p.draws) }) else p',(x.step s).2)
  | none=>(if (p.w.step s).1.line=0 then { p with placed:=false,w:=(p.w.step s).1,x:=some (Cl.new p.c (p.w.step s).1.at_ p.key p.data) } else { p with placed:=false,w:=(p.w.step s).1 },(p.w.step s).2)
structure Th where
 next:Int
 busy:Bool
 scans:Int
 p:Option Pt
 g:Option Gt
 s:Option Sn
def Th.new:Th:=⟨0,false,0,none,none,none⟩
structure Ev where
 th:Int
 ix:Int
 op:O
 begin_:Int
 end_:Int
 steps:Int
 alloc:Int
 at_:Int
 version:Int
 ans:An
structure Mc where
 c:Cf
 ops:List (List O)
 draws:List Int
 a:St
 t:List Th
 now:Int
 idle:Int
 ticks:List Int
 e:List Ev
def Mc.th (m:Mc) (t:Int):Th:=m.t.getD t.toNat Th.new
def Mc.opsOf (m:Mc) (t:Int):List O:=if t<0 then [] else m.ops.getD t.toNat []
def Mc.over (m:Mc) (t:Int):Bool:=decide (t<0) || decide ((m.t.length:Int)<=t) || (!(m.th t).busy && decide (((m.opsOf t).length:Int)<=(m.th t).next))
def vn (t i:Int):Int:=if t<0\/8<=t\/i<0\/1000<=i then -1 else t * 1000+i
def ofP (w:Int):Int×Int:=if w<0\/8000<=w then (-1,-1) else (w / 1000,w % 1000)
def Mc.drawsOf (m:Mc) (w:Int):List Int:=if m.draws=[] then [] else m.draws.drop (Int.tmod (ofP w).2 m.draws.length).toNat
def Mc.begun (m:Mc) (t:Int):Th :=
 let x:=m.th t
 let o:=(m.opsOf t).getD x.next.toNat (0,0,0,0)
 let w:=vn t x.next
 if o.1=1 then ⟨x.next+1,true,x.scans,some (Pt.new m.c o.2.1 (Ja w o.2.2.1) (m.drawsOf w)),none,none⟩
 else if o.1=2 then ⟨x.next+1,true,x.scans,some (Pt.new m.c o.2.1 (Ja w (-1)) (m.drawsOf w)),none,none⟩
 else if o.1=3 then ⟨x.next+1,true,x.scans,none,some (Gt.new m.c o.2.1),none⟩
 else ⟨x.next+1,true,x.scans+1,none,none,some (Sn.new m.c t (x.scans+1) o.2.1 o.2.2.2)⟩
def Mc.begins (m:Mc) (t:Int):Mc :=
 let x:=m.th t
 { m with t:=m.t.set t.toNat (m.begun t),e:=m.e++[⟨t,x.next,(m.opsOf t).getD x.next.toNat (0,0,0,0),m.now,-1,0,-1,-1,-1,Vt⟩] }
def Mc.event (m:Mc) (t i:Int):Option Nat:=m.e.findIdx? fun x=>x.th == t && x.ix == i
def qcn (p:Pt):An:=if p.e=0 then ⟨0,false,0,-1,p.version,[]⟩ else ⟨p.e,false,0,0,0,[]⟩
def qa6:Ev:=⟨0,0,(0,0,0,0),0,0,0,0,0,0,Vt⟩
def Mc.steps (m:Mc) (t:Int) (k:Nat):Mc :=
 let x:=m.th t
 let v:=m.e.getD k qa6
 match x.p with
 | some p =>
  let p':=(p.step m.a).1
  let v1:Ev:=if p'.placed=true then { v with alloc:=m.now } else v
  let v2:Ev:=if p'.over=true then { v1 with ans:=qcn p',steps:=v1.steps+1,end_:=m.now } else { v1 with steps:=v1.steps+1 }
  { m with a:=(p.step m.a).2,t:=m.t.set t.toNat { x with p:=some p',busy:=!p'.over && x.busy },e:=m.e.set k v2 }
 | none =>
  match x.g with
  | some g =>
   let g':=(g.step m.a).1
   let v1:Ev:={ v with ans:=g'.answer,steps:=v.steps+1 }
   { m with a:=(g.step m.a).2,t:=m.t.set t.toNat { x with g:=some g',busy:=!g'.over && x.busy },e:=m.e.set k (if g'.over=true then { v1 with end_:=m.now } else v1) }
  | none =>
   match x.s with
   | some y =>
    let y':=(y.step m.a).1
    let v1:Ev:={ v with ans:=y'.answer,steps:=v.steps+1 }
    { m with a:=(y.step m.a).2,t:=m.t.set t.toNat { x with s:=some y',busy:=!decide (y'.line=0) && x.busy },e:=m.e.set k (if y'.line=0 then { v1 with end_:=m.now } else v1) }
   | none=>m
def Mc.notes (m:Mc):Mc :=
 let l:=m.a.a
 let m1:Mc:=if l.kind=4/\l.at_=1 then { m with ticks:=m.ticks++[m.now] } else m
 if l.kind=3/\l.ok=true/\l.old=1/\3<=l.new then
  match m1.event (ofP (q9x (qw m.a.l (wrap64 (l.at_+2))))).1 (ofP (q9x (qw m.a.l (wrap64 (l.at_+2))))).2 with
  | some k=>{ m1 with e:=m1.e.set k { (m1.e.getD k qa6) with at_:=m.now,version:=Vi l.new } }
  | none=>m1
 else m1
def Mc.pick (m:Mc) (t:Int):Mc :=
 if m.over t=true then { m with idle:=m.idle+1,now:=m.now+1 }
 else
  let m1:=if (m.th t).busy=true then m else m.begins t
  match m1.event t ((m1.th t).next - 1) with
  | some k =>
   let m2:=m1.steps t k
   let m3:=if m1.a.n<m2.a.n then m2.notes else m2
   { m3 with now:=m3.now+1 }
  | none=>m1
end Go.Proofs.YtleclbldlladmaaGreat.Mx
namespace Go.Proofs.YtleclbldlladmaaGreat.Mx
open Go.RowKit Ar Ref
structure Xp (x:Lok):Prop where
 c:x.c.Ok
 i0:0<=x.i
 i1:x.i<=16
 len:(x.l.length:Int)<=x.i
 one:x.line=1->x.l=[]
 two:2<=x.line->x.i<x.count
 cnt:x.count<=x.c.c
theorem Xp.new {c:Cf} (hc:c.Ok) (chunk lo hi most:Int):Xp (Lok.new c chunk lo hi most):=by have h1:=hc.c2;have h2:=hc.t1;exact ⟨hc,by simp [Lok.new],by simp [Lok.new],by simp [Lok.new],fun _=>rfl,by simp [Lok.new],by simp [Lok.new];omega⟩
theorem q0i (l:List It) (x:It):(q0a l x).length=l.length+1:=by
 induction l with
 | nil=>rfl
 | cons y r ih=>unfold q0a;split <;> simp [ih]
theorem q0p (l:List It) (x:It):(q15 l x).length<=l.length+1:=by
 unfold q15;split
 ·simp
 ·rw [q0i];omega
theorem Zf {x:Lok} (hc:x.c.Ok) (h1:-1<=x.i) (h2:x.i<x.count\/x.i = -1) (h3:(x.l.length:Int)<=x.i+1) (h4:x.count<=x.c.c):Xp x.on:=by
 have:=hc.c16;unfold Lok.on;split
 ·exact ⟨hc,by simp only;omega,by simp only;omega,by simp only;omega,by simp,by simp,h4⟩
 ·exact ⟨hc,by simp only;omega,by simp only;omega,by simp only;omega,by simp,by simp only;intro;omega,h4⟩
theorem J2 {x:Lok} (hc:x.c.Ok) (h1:0<=x.i) (h2:x.i<x.count) (h3:(x.l.length:Int)<=x.i) (h4:x.count<=x.c.c):Xp x.seven:=by
 have:=hc.c16;unfold Lok.seven;split
 ·exact Zf hc Ls (.inl h2) Ls h4
 ·exact ⟨hc,h1,by simp only;omega,h3,by simp,fun _=>h2,h4⟩
theorem q1q {x:Lok} (h:Xp x) (v:Int) (hl:x.live=true):Xp (x.next v):=by
 obtain ⟨hc,i0,i1,len,one,two,cnt⟩:=h;have h16:=hc.c16;have hc2:=hc.c2;have ht1:=hc.t1;unfold Lok.live at hl;simp only [Bool.and_eq_true,decide_eq_true_eq] at hl;unfold Lok.next;split
 ·rename_i e;have hl0:=one e;exact Zf hc Ls (.inr rfl) (by simp only [hl0];simp) Ls
 ·have h2:=two Lb;split
  ·split
   ·exact Ey
   ·exact Fh
  ·split
   ·split
    ·exact Ey
    ·split
     ·exact Fh
     ·exact J2 hc i0 h2 len cnt
   ·split
    ·exact Fh
    ·split
     ·exact Fh
     ·split
      ·split
       ·exact Ey
       ·exact J2 hc i0 h2 len cnt
      ·exact Zf hc Ls (.inl h2) (by have:=q0p x.l ⟨x.k,Vi x.s,v⟩;simp only;omega) cnt
theorem Xp.step {x:Lok} (h:Xp x) (s:St):Xp (x.step s).1:=by
 unfold Lok.step;split
 ·rename_i hl;exact q1q h _ hl
 ·exact h
def Lok.as (x:Lok) (v:Value):Lok:={ x with lv:=v }
theorem q42 (x:Lok) (v:Value):(x.as v).on=x.on.as v:=by unfold Lok.on Lok.as;simp only;split <;> rfl
theorem q25 (x:Lok) (v:Value):(x.as v).seven=x.seven.as v:=by
 unfold Lok.seven;rw [show (x.as v).skips=x.skips from rfl];split
 ·exact q42 { x with line:=7 } v
 ·rfl
theorem qaq (x:Lok) (v:Value) (u:Int):(x.as v).next u=(x.next u).as v:=by
 unfold Lok.next;rw [show (x.as v).line=x.line from rfl,show (x.as v).lo=x.lo from rfl,show (x.as v).hi=x.hi from rfl,show (x.as v).s=x.s from rfl];split
 ·exact q42 { x with count:=max 0 (min u x.c.c),i:=-1 } v
 ·split
  ·split
   ·exact q42 { x with s:=u,line:=3 } v
   ·rfl
  ·split
   ·split
    ·exact q42 { x with k:=u } v
    ·split
     ·rfl
     ·exact q25 { x with k:=u } v
   ·split
    ·rfl
    ·split
     ·rfl
     ·split
      ·split
       ·exact q42 { x with s:=u } v
       ·exact q25 { x with s:=u } v
      ·exact q42 { x with l:=q15 x.l ⟨x.k,Vi x.s,u⟩ } v
theorem qbg (x:Lok) (v:Value) (s:St):(x.as v).step s=((x.step s).1.as v,(x.step s).2):=by unfold Lok.step;rw [show (x.as v).live=x.live from rfl,show (x.as v).told s=x.told s from rfl,show (x.as v).act s=x.act s from rfl,qaq];split <;> rfl
def Stp (w:World) (At:World->List Nat->Prop) (B:List Nat) (p q:Nat) (t:St) (over:Bool) (e:Ending) (w':World):Prop :=
 e = .returned (.bool over)/\(∃ B',At w' B'/\∀ k,k∈B'->k∈B\/w.heap.size<=k)/\Rar w' p q t/\Fr (p :: q :: B) w w'
theorem Stp.of {w w':World} {At:World->List Nat->Prop} {B B':List Nat} {p q:Nat} {t:St} {over:Bool} {e:Ending} (h1:e = .returned (.bool over)) (h2:At w' B') (h3:∀ k,k∈B'->k∈B\/w.heap.size<=k) (h4:Rar w' p q t) (h5:Fr (p :: q :: B) w w'):Stp w At B p q t over e w':=⟨h1,⟨B',h2,h3⟩,h4,h5⟩
def vg:Option Nat->Value
 | none=>.pointer none
 | some b=>.pointer (some ⟨b,0,none⟩)
def Mk (w:World) (At:World->List Nat->Nat->Prop) (e:Ending) (w':World):Prop:=∃ b B,e = .returned (.pointer (some ⟨b,0,none⟩))/\At w' B b/\(∀ k,k∈B->w.heap.size<=k)/\Fr [] w w'
def q06 (w:World) (B:List Nat) (b:Nat) (x:Lok):Prop:=∃ lv,vh w b (x.as lv)/\Sq fT w lv x.l/\b∉lv.ownBlock.toList/\B=b :: lv.ownBlock.toList/\∀ k,k∈B->k<w.heap.size
theorem q06.lt {w:World} {B:List Nat} {b:Nat} {x:Lok} (h:q06 w B b x):∀ k,k∈B->k<w.heap.size:=by obtain ⟨lv,h1,h2,h3,h4,h5⟩:=h;exact h5
theorem q06.kept {S:List Nat} {w w':World} {B:List Nat} {b:Nat} {x:Lok} (h:q06 w B b x) (f:Fr S w w') (hS:∀ k,k∈B->k∉S):q06 w' B b x:=by obtain ⟨lv,h1,h2,h3,rfl,h5⟩:=h;exact ⟨lv,Ob.kept h1 f (hS b Lc),h2.kept f (fun g hg=>hS g (by simp only [List.mem_cons];exact .inr hg)),h3,rfl,fun k hk=>qj (h5 k hk) f.size⟩
theorem q06.new {w:World} {b:Nat} {c:Cf} {chunk lo hi most:Int} (h:vh w b (Lok.new c chunk lo hi most)):q06 w [b] b (Lok.new c chunk lo hi most) :=
 ⟨.slice none 0 0,h,Sq.nil w,by simp [Value.ownBlock],by simp [Value.ownBlock],fun k hk=>by simp at hk;subst hk;exact Ob.lt h⟩
theorem Qx {α:Type} {f:α->List Value} {w:World} {v:Value} {xs:List α} (h:Sq f w v xs) (hne:xs≠[]):∀ g,g∈v.ownBlock.toList->g<w.heap.size:=by
 obtain ⟨a,cap,rfl,-,-,h6⟩:=h;rcases h6 with h0 | ⟨g,off,rfl,hg,-⟩
 ·exact absurd (List.eq_nil_of_length_eq_zero h0) hne
 ·intro k hk;simp [Value.ownBlock] at hk;subst hk;exact hg
theorem q5g (x:Lok) (hx:Xp x) (B:List Nat) (b p q:Nat) (s:St) (w:World) (h:q06 w B b x) (hA:Rar w p q s) (hp:p∉B) (hq:q∉B) :
  Calls Tryz.prog 92 #[.pointer (some ⟨b,0,none⟩),.pointer (some ⟨p,0,none⟩)] w (Stp w (fun w' B'=>q06 w' B' b (x.step s).1) B p q (x.step s).2 (decide ((x.step s).1.line=0))):=by
 obtain ⟨lv,h1,h2,h3,rfl,h5⟩:=h;have hbl:=h5 b Lc;simp only [List.mem_cons,not_or] at hp hq;have h6:=hx.i1;have h7:=hx.i0;have h8:=hx.len;refine (q5f (x.as lv) hx.c ⟨by show -1<=x.i;omega,by show x.i<=100;omega⟩ (by show x.l.length<=900;omega) b p q s w h1 hA (Ne.symm hp.1) (Ne.symm hq.1) h2 h3 hp.2 hq.2).mono ?_;rintro e w' ⟨he,⟨lv',k1,k2,k3⟩,k4,k5⟩;rw [qbg] at he k1 k2 k3 k4
 have hb':b∉lv'.ownBlock.toList:=by
  rcases k3 with k3 | ⟨-,k3⟩
  ·rw [k3];exact h3
  ·intro hi;have:=k3 b hi;omega
 refine Stp.of he (B':=b :: lv'.ownBlock.toList) ⟨lv',k1,k2,hb',rfl,fun k hk=>?_⟩ (fun k hk=>?_) k4 (k5.mono Nc)
 ·rcases List.mem_cons.1 hk with rfl | hk
  ·exact Ob.lt k1
  ·rcases k3 with k3 | ⟨hne,-⟩
   ·rw [k3] at hk;exact qj (h5 k O8) k5.size
   ·exact Qx k2 hne k hk
 ·rcases List.mem_cons.1 hk with rfl | hk
  ·exact .inl Lc
  ·rcases k3 with k3 | ⟨-,k3⟩
   ·rw [k3] at hk;exact .inl O8
   ·exact .inr (k3 k hk)
def Gt.cells (g:Gt) (bw:Nat) (lp:Option Nat):Array Value:=#[.int .i64 g.key,.int .i64 g.c.t,.int .i64 g.c.c,.int .i64 g.c.wd,.int .i64 g.c.v,.pointer (some ⟨bw,0,none⟩),vg lp,.bool g.over]
def q9s (w:World) (b:Nat) (g:Gt) (bw:Nat) (lp:Option Nat):Prop:=Ob w b 126 (g.cells bw lp)
theorem Z5 {w:World} {b bw:Nat} {lp:Option Nat} {g:Gt} (h:q9s w b g bw lp):w.cell? ⟨b,0,none⟩=some (.int .i64 g.key)/\w.cell? ⟨b,1,none⟩=some (.int .i64 g.c.t)/\w.cell? ⟨b,2,none⟩=some (.int .i64 g.c.c)/\w.cell? ⟨b,3,none⟩=some (.int .i64 g.c.wd)/\w.cell? ⟨b,4,none⟩=some (.int .i64 g.c.v)/\w.cell? ⟨b,5,none⟩=some (.pointer (some ⟨bw,0,none⟩))/\w.cell? ⟨b,6,none⟩=some (vg lp)/\w.cell? ⟨b,7,none⟩=some (.bool g.over) :=
 ⟨h.cell rfl,h.cell rfl,h.cell rfl,h.cell rfl,h.cell rfl,h.cell rfl,h.cell rfl,h.cell rfl⟩
def OpL (w:World) (B:List Nat) (l:Option Lok) (lp:Option Nat):Prop:=match l with | none=>lp=none/\B=[] | some x=>∃ bl,lp=some bl/\q06 w B bl x
theorem OpL.kept {S:List Nat} {w w':World} {B:List Nat} {l:Option Lok} {lp:Option Nat} (h:OpL w B l lp) (f:Fr S w w') (hS:∀ k,k∈B->k∉S):OpL w' B l lp:=by
 cases l with
 | none=>exact h
 | some x=>obtain ⟨bl,h1,h2⟩:=h;exact ⟨bl,h1,h2.kept f hS⟩
theorem OpL.lt {w:World} {B:List Nat} {l:Option Lok} {lp:Option Nat} (h:OpL w B l lp):∀ k,k∈B->k<w.heap.size:=by
 cases l with
 | none=>rw [h.2];simp
 | some x=>obtain ⟨bl,h1,h2⟩:=h;exact h2.lt
def q5c (w:World) (B:List Nat) (b:Nat) (g:Gt):Prop:=∃ bw lp B2,q9s w b g bw lp/\Z2 w bw g.w/\OpL w B2 g.l lp/\b≠bw/\b∉B2/\bw∉B2/\B=b :: bw :: B2
theorem q5c.lt {w:World} {B:List Nat} {b:Nat} {g:Gt} (h:q5c w B b g):∀ k,k∈B->k<w.heap.size:=by obtain ⟨bw,lp,B2,h1,h2,h3,h4,h5,h6,rfl⟩:=h;exact Dz
theorem q5c.kept {S:List Nat} {w w':World} {B:List Nat} {b:Nat} {g:Gt} (h:q5c w B b g) (f:Fr S w w') (hS:∀ k,k∈B->k∉S):q5c w' B b g:=by obtain ⟨bw,lp,B2,h1,h2,h3,h4,h5,h6,rfl⟩:=h;exact ⟨bw,lp,B2,Ob.kept h1 f (hS _ Lc),Ob.kept h2 f (hS _ Lc),h3.kept f (fun k hk=>hS k Ns),h4,h5,h6,rfl⟩
structure q7o (g:Gt):Prop where
 c:g.c.Ok
 wc:g.w.c=g.c
 wk:g.w.key=g.key
 k0:0<=g.key/\g.key<=63
 l:∀ x,g.l=some x->Xp x
theorem Jr (x:Wk) (s:St):(x.step s).1.c=x.c/\(x.step s).1.key=x.key:=by
 unfold Wk.step;split
 ·unfold Wk.next Wk.head Wk.ends;(repeat' split) <;> exact ⟨rfl,rfl⟩
 ·exact ⟨rfl,rfl⟩
theorem q7o.new {c:Cf} (hc:c.Ok) {key:Int} (hk:0<=key/\key<=63):q7o (Gt.new c key):=⟨hc,rfl,rfl,hk,fun x h=>by cases h⟩
theorem q7o.step {g:Gt} (h:q7o g) (s:St):q7o (g.step s).1:=by
 obtain ⟨h1,h2,h3,h4,h5⟩:=h;unfold Gt.step;split
 ·exact ⟨h1,h2,h3,h4,h5⟩
 ·split
  ·rename_i x hx;exact ⟨h1,h2,h3,h4,fun y hy=>by cases hy;exact (h5 x hx).step s⟩
  ·rename_i hx;have:=Jr g.w s;simp only;split
   ·exact ⟨h1,this.1.trans h2,this.2.trans h3,h4,fun y hy=>by cases hy;exact Xp.new h1 _ _ _ _⟩
   ·exact ⟨h1,this.1.trans h2,this.2.trans h3,h4,fun y hy=>by rw [hx] at hy;cases hy⟩
theorem q80 (g:Gt) (hg:q7o g) (B:List Nat) (b p q:Nat) (s:St) (w:World) (h:q5c w B b g) (hA:Rar w p q s) (hp:p∉B) (hq:q∉B) :
  Calls Tryz.prog 75 #[.pointer (some ⟨b,0,none⟩),.pointer (some ⟨p,0,none⟩)] w (Stp w (fun w' B'=>q5c w' B' b (g.step s).1) B p q (g.step s).2 (g.step s).1.over):=by
 obtain ⟨bw,lp,B2,h1,h2,h3,h4,h5,h6,rfl⟩:=h;have hlt:=q5c.lt (b:=b) ⟨bw,lp,B2,h1,h2,h3,h4,h5,h6,rfl⟩;generalize hy:g.step s=y;have HY:=q9 hy;clear hy;obtain ⟨c0,c1,c2,c3,c4,c5,c6,c7⟩:=Z5 h1;have z:=h1.frozen;simp only [List.mem_cons,not_or] at hp hq;cases ho:g.over with
 | true =>
  rw [ho] at c7;have hn:y=(g,s):=by rw [<- HY.out];unfold Gt.step;rw [qf ho]
  subst hn;have HO:=q9 ho;clear ho;go_enter Tryz.func75,Tryz.ntmps75;go_wp2_with fail;go_ret;exact ⟨by rw [HO.out];rfl,⟨_,⟨bw,lp,B2,h1,h2,h3,h4,h5,h6,rfl⟩,fun k hk=>.inl hk⟩,hA,Fr.refl _ _⟩
 | false =>
  rw [ho] at c7;have HO:=q9 ho;clear ho;cases hl:g.l with
  | some x =>
   rw [hl] at h3;obtain ⟨bl,rfl,h3⟩:=h3;unfold vg at c6;simp only at c6;have hxok:=hg.l x hl;have hn:y=({ g with l:=some (x.step s).1,over:=decide ((x.step s).1.line=0) },(x.step s).2):=by rw [<- HY.out];unfold Gt.step;rw [qd O2,hl]
   subst hn;have HL:=q9 (qc hl hxok);clear hl hxok;go_enter Tryz.func75,Tryz.ntmps75;go_wp2_with fail;refine (q5g x HL.out.2 B2 bl p q s w h3 hA hp.2.2 hq.2.2).mono ?_;rintro e w5 ⟨rfl,⟨B3,k1,k2⟩,k3,k4⟩;have hb5:b∉p :: q :: B2:=by simp only [List.mem_cons,not_or];exact ⟨Ne.symm hp.1,Ne.symm hq.1,h5⟩
   have hw5:bw∉p :: q :: B2:=by simp only [List.mem_cons,not_or];exact ⟨Ne.symm hp.2.1,Ne.symm hq.2.1,h6⟩
   have o5:q9s w5 b g bw (some bl):=Ob.kept h1 k4 hb5;have wk5:Z2 w5 bw g.w:=Ob.kept h2 k4 hw5;have D5:Fr (p :: q :: b :: bw :: B2) w w5:=k4.mono (by intro k hk;simp only [List.mem_cons] at hk ⊢;rcases hk with h | h | h <;> simp [h]);have hb3:b∉B3:=fun hi=>by rcases k2 b hi with h | h;exact h5 h;have:=hlt b Lc;omega
   have hw3:bw∉B3:=fun hi=>by rcases k2 bw hi with h | h;exact h6 h;have:=hlt bw Lc;omega
   have hpb:=hp.1;have hqb:=hq.1;clear c0 c1 c2 c3 c4 c5 c6 c7 z h1 h2 h3 k4;obtain ⟨c0,c1,c2,c3,c4,c5,c6,c7⟩:=Z5 o5;have z:=o5.frozen;generalize hov:decide ((x.step s).1.line=0)=ov at *;go_wp2_with fail;go_ret;subst hov;have SC:Fr [b] w5 (w5.setCell ⟨b,7,none⟩ (.bool (decide ((x.step s).1.line=0)))):=Fr.setCell _ Lc;refine ⟨rfl,⟨b :: bw :: B3,⟨bw,some bl,B3,Ob.set o5 (i:=7) (.bool (decide ((x.step s).1.line=0))),Ob.other wk5 (Ne.symm h4) _,⟨bl,rfl,k1.kept SC (by intro k hk hi;simp at hi;subst hi;exact hb3 hk)⟩,h4,hb3,hw3,rfl⟩,fun k hk=>?_⟩,Rar.set k3 (Ne.symm hpb) (Ne.symm hqb) _,D5.setCell' _ Lc⟩;simp only [List.mem_cons] at hk;rcases hk with rfl | rfl | hk
   ·exact .inl Lc
   ·exact .inl Lc
   ·exact (k2 k hk).imp (fun h=>by simp [h]) id
  | none =>
   rw [hl] at h3;obtain ⟨rfl,rfl⟩:=h3;unfold vg at c6;simp only at c6;have hsn:y.2=(g.w.step s).2:=by rw [<- HY.out];unfold Gt.step;rw [qd O2,hl]
   have HL:=q9 hl;clear hl;go_enter Tryz.func75,Tryz.ntmps75;go_wp2_with fail;have hc:=hg.c;refine (Kw g.w (by rw [hg.wc];exact hg.c) (by rw [hg.wk];exact hg.k0) bw p q s w h2 hA (Ne.symm hp.2.1) (Ne.symm hq.2.1)).mono ?_;rintro e w5 ⟨rfl,k1,k3,k4⟩;have o5:q9s w5 b g bw none:=Ob.kept h1 k4 (by simp;exact ⟨h4,Ne.symm hp.1,Ne.symm hq.1⟩);have D5:Fr (p :: q :: b :: bw :: []) w w5:=k4.mono Nc;have hpb:=hp.1;have hqb:=hq.1;have hpw:=hp.2.1;have hqw:=hq.2.1;clear c0 c1 c2 c3 c4 c5 c6 c7 z h1 h2 k4;generalize hyw:(g.w.step s).1=yw at *;generalize hys:(g.w.step s).2=ys at *;by_cases e0:yw.line=0
   ·have g0:decide (yw.line=0)=true:=by simpa using e0
    have hn:y=({ g with w:=yw,l:=some (Lok.new g.c yw.at_ g.key g.key 1073741824) },ys):=by rw [<- HY.out];unfold Gt.step;rw [qd O2,HL.out];simp only;rw [hyw,hys,qf e0]
    subst hn;rw [g0];have HE:=q9 (qc hyw (qc hys (qc e0 g0)));clear hyw hys e0 g0 hsn;go_wp2_with fail;refine qp Le ?_;refine za [] w5 #[true,true,true,true,true,true,true,true,true,true,true,true,true,true,true,true,true,true,true,true,true,false,false,false] 21 3 rfl ?_;refine lpq [true,true,true,true,true,true,true,true,true,true,true,true,true,true,true,true,true,true,true,true,false,false,false,false] 1 ((Fr.refl _ w5).drew) ?_;apply qg;refine ⟨fun wf Ff=>?_,?_⟩
    ·obtain ⟨c0,c1,c2,c3,c4,c5,c6,c7⟩:=Z5 (Ob.up o5 Ff);have y9:=(xc (Ob.up k1 Ff)).2.2.2.2.2.2.2.2.2;have j0:=qb c0;have j1:=qb c1;have j2:=qb c2;have j3:=qb c3;have j4:=qb c4;have j5:=qb c5;have j9:=qb y9;clear c0 c1 c2 c3 c4 c5 c6 c7 y9;exact Ab
    refine loq 20 (fun w7 F7=>?_);have E:=((Fr.refl [] w5).drew.trans F7);clear F7;go_wp2_with fail;refine (Ke g.c yw.at_ g.key g.key 1073741824 w7).mono ?_;rintro e w8 ⟨bl,rfl,hbl,m1,F8⟩;have hE:=E.size;replace E:=E.trans F8;clear F8;go_wp2_with fail;refine ql ⟨E,?_⟩;refine qy (k:=21) rfl Le (fun w10 F10=>?_);replace E:=E.trans F10;replace m1:vh w10 bl (Lok.new g.c yw.at_ g.key g.key 1073741824):=Ob.up m1 F10;clear F10;have o10:q9s w10 b g bw none:=Ob.up o5 E;have k10:Z2 w10 bw yw:=Ob.up k1 E;have A10:=k3.kept E Lc Lc;have D10:=D5.then E;have hbb:bl≠b/\bl≠bw:=by have:=Ob.lt o5;have:=Ob.lt k1;constructor <;> omega
    have hbw:w.heap.size<=bl:=by have:=D5.size;omega
    clear o5 k1 k3 D5;obtain ⟨c0,c1,c2,c3,c4,c5,c6,c7⟩:=Z5 o10;have z:=o10.frozen;go_wp2_with fail;have SC:Fr [b] w10 (w10.setCell ⟨b,6,none⟩ (.pointer (some ⟨bl,0,none⟩))):=Fr.setCell _ Lc;have o11:q9s _ b { g with w:=yw,l:=some (Lok.new g.c yw.at_ g.key g.key 1073741824) } bw (some bl):=Ob.set o10 (i:=6) (.pointer (some ⟨bl,0,none⟩));have k11:Z2 _ bw yw:=Ob.other k10 (Ne.symm h4) (i:=6) (.pointer (some ⟨bl,0,none⟩));have m11:vh _ bl (Lok.new g.c yw.at_ g.key g.key 1073741824):=Ob.other m1 hbb.1 (i:=6) (.pointer (some ⟨bl,0,none⟩));have A11:=Rar.set A10 (Ne.symm hpb) (Ne.symm hqb) (i:=6) (.pointer (some ⟨bl,0,none⟩));have D11:=D10.setCell' (b:=b) (i:=6) (.pointer (some ⟨bl,0,none⟩)) Lc;clear c0 c1 c2 c3 c4 c5 c6 c7 z o10 k10 m1 A10 D10 E SC;generalize (w10.setCell ⟨b,6,none⟩ (.pointer (some ⟨bl,0,none⟩)))=w11 at *;have o12:=o11;have D12:=D11;obtain ⟨c0,c1,c2,c3,c4,c5,c6,c7⟩:=Z5 o12;have L12:=q06.new m11;have hb6:b∉[bl]:=by simp;exact Ne.symm hbb.1
    have hw6:bw∉[bl]:=by simp;exact Ne.symm hbb.2
    have HK12:=q9 k11;have HA12:=q9 A11;clear o11 D11 m11 k11 A11;rw [HO.out] at c7;go_wp2_with fail;go_ret;refine Stp.of (by rw [HO.out];rfl) (B':=b :: bw :: [bl]) ⟨bw,some bl,[bl],o12,HK12.out,⟨bl,rfl,L12⟩,h4,hb6,hw6,rfl⟩ (fun k hk=>?_) HA12.out D12;simp only [List.mem_cons,List.not_mem_nil,or_false] at hk;rcases hk with rfl | rfl | rfl
    ·exact .inl Lc
    ·exact .inl Lc
    ·exact .inr hbw
   ·have g0:decide (yw.line=0)=false:=by simpa using e0
    have hn:y=({ g with w:=yw },ys):=by rw [<- HY.out];unfold Gt.step;rw [qd O2,HL.out];simp only;rw [hyw,hys,qd e0]
    subst hn;rw [g0];obtain ⟨c0,c1,c2,c3,c4,c5,c6,c7⟩:=Z5 o5;rw [HO.out] at c7;have HE:=q9 (qc hyw (qc hys (qc e0 g0)));clear hyw hys e0 g0 hsn;go_wp2_with fail;go_ret;refine Stp.of (by rw [HO.out];rfl) (B':=b :: bw :: []) ⟨bw,none,[],o5,k1,by rw [HL.out];exact ⟨rfl,rfl⟩,h4,h5,h6,rfl⟩ (fun k hk=>.inl hk) k3 D5
end Go.Proofs.YtleclbldlladmaaGreat.Mx
namespace Go.Proofs.YtleclbldlladmaaGreat.Mx
open Go.RowKit Ar Ref Mp
theorem q4k (c:Cf) (key:Int) (w:World):Calls Tryz.prog 72 #[c.val,.int .i64 key] w (Mk w (fun w' B b=>q5c w' B b (Gt.new c key))):=by
 unfold Cf.val;have F0:=(Fr.refl [] w).alloc (.cells #[.int .i64 c.t,.int .i64 c.c,.int .i64 c.wd,.int .i64 c.v] 23);obtain ⟨c0,c1,c2,c3⟩:=Pl.yu (Go.heap_alloc_new w (.cells #[.int .i64 c.t,.int .i64 c.c,.int .i64 c.wd,.int .i64 c.v] 23));go_enter Tryz.func72,Tryz.ntmps72;go_wp2_with fail;generalize hw1:World.alloc w _=w1 at *;have k0:=qb c0;have k1:=qb c1;have k2:=qb c2;have k3:=qb c3;clear c0 c1 c2 c3;refine z7 Le [] (fun w2 F2=>?_);refine epq [true,true,true,true,false,false,false,false] 4 (F2.mono) ?_;apply qg;refine ⟨fun wf Ff=>?_,?_⟩
 ·have k0:=qb (Ff.cell (k0 ⟨w1,Fr.refl _ _⟩) Lc);have k1:=qb (Ff.cell (k1 ⟨w1,Fr.refl _ _⟩) Lc);have k2:=qb (Ff.cell (k2 ⟨w1,Fr.refl _ _⟩) Lc);have k3:=qb (Ff.cell (k3 ⟨w1,Fr.refl _ _⟩) Lc);exact Ab
 clear k0 k1 k2 k3 hw1;refine eoq 4 (fun w3 F3=>?_);have E:=F2.trans F3;clear F2 F3;go_wp2_with fail;refine (Zy c key w3).mono ?_;rintro e w4 ⟨bw,rfl,hbw,k,F4⟩;have hE:=E.size;replace E:=E.trans F4;clear F4;go_wp2_with fail;refine ql ⟨E,?_⟩;refine eoq 5 (fun w5 F5=>?_);replace E:=E.trans F5;replace k:=Ob.up k F5;clear F5;go_wp2_with fail;refine ql ⟨E,?_⟩;refine eoq 6 (fun w5 F5=>?_);replace E:=E.trans F5;replace k:=Ob.up k F5;clear F5;have hk:=Ob.lt k;have og:q9s _ w5.heap.size (Gt.new c key) bw none:=Ob.new w5 126 ((Gt.new c key).cells bw none);unfold Gt.cells Gt.new vg at og;simp only at og;have FA:=(Fr.refl [] w5).alloc (.cells #[.int .i64 key,.int .i64 c.t,.int .i64 c.c,.int .i64 c.wd,.int .i64 c.v,.pointer (some ⟨bw,0,none⟩),.pointer none,.bool false] 126);have hE5:=E.size;go_wp2_with fail;refine ql ⟨E.trans FA,?_⟩;refine eoq 7 (fun w6 F6=>?_);have E2:=(E.trans FA).trans F6;have k2:=Ob.up k (FA.trans F6);have og2:=Ob.up og F6;clear k og E FA F6;generalize w5.heap.size=b at *;go_wp2_with fail;refine ql ⟨E2,?_⟩;refine zr Le (fun w7 F7=>?_);have E3:=q9 (F0.trans (E2.trans F7));have HK:=q9 (qc (Ob.up k2 F7) (Ob.up og2 F7));have hF0:=F0.size;clear k2 og2 E2 F7 F0;go_wp2_with fail;go_ret;refine ⟨b,[b,bw],rfl,⟨bw,none,[],HK.out.2,HK.out.1,⟨rfl,rfl⟩,by omega,by simp,by simp,rfl⟩,fun k hk=>?_,E3.out⟩;simp at hk;exact Hz
theorem U8 {w:World} {b:Nat} {T:TypeId} {x0 x1 x2 x3 x4 x5:Value} (h:Ob w b T #[x0,x1,x2,x3,x4,x5]) (y0 y1 y2 y3 y4 y5:Value) :
  Ob ((((((w.setCell ⟨b,0,none⟩ y0).setCell ⟨b,1,none⟩ y1).setCell ⟨b,2,none⟩ y2).setCell ⟨b,3,none⟩ y3).setCell ⟨b,4,none⟩ y4).setCell ⟨b,5,none⟩ y5) b T #[y0,y1,y2,y3,y4,y5]:=by
 have:=((((((h.set (i:=0) y0).set (i:=1) y1).set (i:=2) y2).set (i:=3) y3).set (i:=4) y4).set (i:=5) y5);rwa [show ((((((#[x0,x1,x2,x3,x4,x5]:Array Value).setIfInBounds 0 y0).setIfInBounds 1 y1).setIfInBounds 2 y2).setIfInBounds 3 y3).setIfInBounds 4 y4).setIfInBounds 5 y5 = #[y0,y1,y2,y3,y4,y5] from rfl] at this
theorem Wt {S:List Nat} {a w:World} {b:Nat} (h:Fr S a w) (hb:b∈S) (y0 y1 y2 y3 y4 y5:Value) :
  Fr S a ((((((w.setCell ⟨b,0,none⟩ y0).setCell ⟨b,1,none⟩ y1).setCell ⟨b,2,none⟩ y2).setCell ⟨b,3,none⟩ y3).setCell ⟨b,4,none⟩ y4).setCell ⟨b,5,none⟩ y5) :=
 (((((h.setCell' y0 hb).setCell' y1 hb).setCell' y2 hb).setCell' y3 hb).setCell' y4 hb).setCell' y5 hb
theorem Qe {w:World} {b:Nat} {T:TypeId} {x0 x1 x2 x3 x4 x5:Value} (h:Ob w b T #[x0,x1,x2,x3,x4,x5]):w.cell? ⟨b,0,none⟩=some x0/\w.cell? ⟨b,1,none⟩=some x1/\w.cell? ⟨b,2,none⟩=some x2/\w.cell? ⟨b,3,none⟩=some x3/\w.cell? ⟨b,4,none⟩=some x4/\w.cell? ⟨b,5,none⟩=some x5 :=
 ⟨h.cell rfl,h.cell rfl,h.cell rfl,h.cell rfl,h.cell rfl,h.cell rfl⟩
def FdAt (l:List It) (key:Int) (w0:World) (u:Value) (wr:World):Prop:=∃ k,k<=l.length/\u = .int .i64 (k:Nat)/\Fr [] w0 wr/\∀ j z,j<k->l[j]? = some z->z.k≠key
theorem q1k {l:List It} {key:Int} {k:Nat} {y:It} (hy:l[k]? = some y) (hk:y.k=key) (h:∀ j z,j<k->l[j]? = some z->z.k≠key):Xw l key=⟨0,decide (0<=q3b y.d),max 0 (q3b y.d),q9x y.d,0,[]⟩:=by
 have:l.find? (fun y=>y.k == key)=some y:=by rw [List.find?_eq_some_iff_getElem];have hlt:=(List.getElem?_eq_some_iff.1 hy).1;refine ⟨by simpa using hk,k,hlt,(List.getElem?_eq_some_iff.1 hy).2,fun j hj=>?_⟩;exact Gq
 unfold Xw;rw [this]
theorem q1j {l:List It} {key:Int} (h:∀ (j:Nat) (z:It),l[j]? = some z->z.k≠key):Xw l key=⟨0,false,0,-1,0,[]⟩:=by
 have:l.find? (fun y=>y.k == key)=none:=by rw [List.find?_eq_none];exact Gl
 unfold Xw;rw [this]
def An0:Array Value:=#[.int .i64 0,.bool false,.int .i64 0,.int .i64 0,.int .i64 0,.slice none 0 0]
theorem q76 (l:List It) (key:Int) (v:Value) (w:World) (hl:l.length<=1000) (hs:Sq fT w v l) :
  Calls Tryz.prog 94 #[v,.int .i64 key] w fun e w'=>e = .returned (Yw (Xw l key) (.slice none 0 0))/\Fr [] w w':=by
 obtain ⟨a,cap,rfl,hcap,hmax,-⟩:=id hs;have F0:=(Fr.refl [] w).alloc (.cells An0 105);have oa:=Ob.new w 105 An0;unfold An0 at F0 oa;go_enter Tryz.func94,Tryz.ntmps94;go_wp2_with fail;generalize hw1:World.alloc w _=w1 at *;clear hw1;have hs1:=q9 (hs.up F0);clear hs;have hw0:=oa.lt;generalize hb:w.heap.size=b at *;go_loopw [5] (fun u wr=>FdAt l key w1 u wr) (fun u _=>l.length - (intOf u).toNat);case atStart=>exact ⟨0,Nat.zero_le _,rfl,Fr.refl _ _,by omega⟩
 case round =>
  obtain ⟨k,hk,rfl,F,h1⟩:=hrel;have oa2:=oa.up F;have z:=oa2.frozen;have FF:=q9 (F0.trans F);have c0:=oa2.cell (i:=0) rfl;have c1:=oa2.cell (i:=1) rfl;have c2:=oa2.cell (i:=2) rfl;have c3:=oa2.cell (i:=3) rfl;have c4:=oa2.cell (i:=4) rfl;have c5:=oa2.cell (i:=5) rfl;by_cases hlt:k<l.length
  ·obtain ⟨y,hy⟩:∃ y,l[k]? = some y:=⟨l[k],List.getElem?_eq_getElem hlt⟩;obtain ⟨g,off,rfl,d0,d1,d2⟩:=xk (hs1.out.up F) hy;by_cases hyk:y.k=key
   ·have HR:=q9 (q1k hy hyk h1);have g1:(y.k == key)=true:=by simpa using hyk
    clear hyk hy h1;go_wp2_with fail;refine (q6b _ _).mono ?_;rintro e _ ⟨rfl,rfl⟩;go_wp2_with fail;refine (q77 _ _).mono ?_;rintro e _ ⟨rfl,rfl⟩;generalize hvv:q3b y.d=vv at *;generalize hwh:q9x y.d=wh at *;have HVW:=q9 (qc hvv hwh);clear hvv hwh;by_cases p1:0<vv
    ·have g2:decide (vv≥0)=true:=by simp;omega
     have HP:=q9 p1;go_wp2_with fail;have o8:=U8 oa2 (.int .i64 0) (.bool true) (.int .i64 vv) (.int .i64 wh) (.int .i64 0) (.slice none 0 0);have F8:=Wt (b:=b) (Fr.refl [b] wr) (List.mem_singleton.2 rfl) (.int .i64 0) (.bool true) (.int .i64 vv) (.int .i64 wh) (.int .i64 0) (.slice none 0 0);obtain ⟨q0,q1,q2,q3,q4,q5⟩:=Qe o8;refine bodyPost_ret (v:=Yw ⟨0,true,vv,wh,0,[]⟩ (.slice none 0 0)) Mh rfl ⟨by rw [HR.out];rw [show decide (0<=vv)=true by have:=HP.out;simp;omega,show max 0 vv=vv by have:=HP.out;omega],FF.out.own F8 Ll⟩
    ·by_cases p2:vv=0
     ·have HP:=q9 p2;subst p2;go_wp2_with fail;have o8:=U8 oa2 (.int .i64 0) (.bool true) (.int .i64 0) (.int .i64 wh) (.int .i64 0) (.slice none 0 0);have F8:=Wt (b:=b) (Fr.refl [b] wr) (List.mem_singleton.2 rfl) (.int .i64 0) (.bool true) (.int .i64 0) (.int .i64 wh) (.int .i64 0) (.slice none 0 0);obtain ⟨q0,q1,q2,q3,q4,q5⟩:=Qe o8;refine bodyPost_ret (v:=Yw ⟨0,true,0,wh,0,[]⟩ (.slice none 0 0)) Mh rfl ⟨by rw [HR.out];rfl,FF.out.own F8 Ll⟩
     ·have g2:decide (vv≥0)=false:=by simp;omega
      have HP:=q9 (qc p1 p2);go_wp2_with fail;have o8:=U8 oa2 (.int .i64 0) (.bool false) (.int .i64 0) (.int .i64 wh) (.int .i64 0) (.slice none 0 0);have F8:=Wt (b:=b) (Fr.refl [b] wr) (List.mem_singleton.2 rfl) (.int .i64 0) (.bool false) (.int .i64 0) (.int .i64 wh) (.int .i64 0) (.slice none 0 0);obtain ⟨q0,q1,q2,q3,q4,q5⟩:=Qe o8;refine bodyPost_ret (v:=Yw ⟨0,false,0,wh,0,[]⟩ (.slice none 0 0)) Mh rfl ⟨by rw [HR.out];rw [show decide (0<=vv)=false by have:=HP.out;simp;omega,show max 0 vv=0 by have:=HP.out;omega],FF.out.own F8 Ll⟩
   ·have g1:(y.k == key)=false:=by simpa using hyk
    have HY:=q9 (qc hy hyk);clear hyk hy;go_wp2_with fail;go_roundw
    case rel=>exact ⟨k+1,by omega,by go_num,F,fun j z hj hz=>by
     by_cases e:j=k
     ·subst e;rw [HY.out.1] at hz;cases hz;exact HY.out.2
     ·exact h1 j z Lb hz⟩
    case measure=>simp [intOf];omega
  ·obtain rfl:k=l.length:=by omega
   have HR:=q9 (q1j (fun j z hz=>h1 j z (List.getElem?_eq_some_iff.1 hz).1 hz));clear h1;go_wp2_with fail;have o8:=U8 oa2 (.int .i64 0) (.bool false) (.int .i64 0) (.int .i64 (-1)) (.int .i64 0) (.slice none 0 0);have F8:=Wt (b:=b) (Fr.refl [b] wr) (List.mem_singleton.2 rfl) (.int .i64 0) (.bool false) (.int .i64 0) (.int .i64 (-1)) (.int .i64 0) (.slice none 0 0);obtain ⟨q0,q1,q2,q3,q4,q5⟩:=Qe o8;refine bodyPost_ret (v:=Yw ⟨0,false,0,-1,0,[]⟩ (.slice none 0 0)) Mh rfl ⟨by rw [HR.out],FF.out.own F8 Ll⟩
theorem Y2 (g:Gt) (hg:q7o g) (hn:g.over=true->g.l≠none) (B:List Nat) (b:Nat) (w:World) (h:q5c w B b g) :
  Calls Tryz.prog 76 #[.pointer (some ⟨b,0,none⟩)] w fun e w'=>e = .returned (Yw g.answer (.slice none 0 0))/\Fr [] w w':=by
 obtain ⟨bw,lp,B2,h1,h2,h3,h4,h5,h6,rfl⟩:=h;have F0:=(Fr.refl [] w).alloc (.cells An0 105);have oa:=Ob.new w 105 An0;have h1':=h1;replace h1:=Ob.up h1 F0;have hlt:=Ob.lt h1';unfold An0 at F0 oa h1;obtain ⟨c0,c1,c2,c3,c4,c5,c6,c7⟩:=Z5 h1;cases ho:g.over with
 | false =>
  rw [ho] at c7;have HO:=q9 ho;clear ho hn;have q0:=Qe oa;obtain ⟨q0,q1,q2,q3,q4,q5⟩:=q0;have z:=oa.frozen;go_enter Tryz.func76,Tryz.ntmps76;go_wp2_with fail;generalize hw1:World.alloc w _=w1 at *;generalize w.heap.size=br at *;obtain ⟨q0,q1,q2,q3,q4,q5⟩:=Qe oa;refine bodyPost_ret (v:=Yw Vt (.slice none 0 0)) (by simp [results,Tryz.results76,go_sem,q0,q1,q2,q3,q4,q5,Yw,Vt]) rfl ⟨by unfold Gt.answer;rw [HO.out];rfl,F0⟩
 | true =>
  rw [ho] at c7;have HO:=q9 ho;cases hl:g.l with
  | none=>exact absurd hl (hn ho)
  | some x =>
   rw [hl] at h3;obtain ⟨bl,rfl,lv,k1,k2,k3,rfl,k5⟩:=h3;unfold vg at c6;simp only at c6;have hxok:=hg.l x hl;have hlen:x.l.length<=1000:=by have:=hxok.len;have:=hxok.i1;omega
   have HA:=q9 (show g.answer=Xw x.l g.key by unfold Gt.answer;rw [qf ho,hl]);clear ho hl hn;replace k1:=Ob.up k1 F0;replace k2:=Sq.up k2 F0;go_enter Tryz.func76,Tryz.ntmps76;go_wp2_with fail;generalize hw1:World.alloc w _=w1 at *;have hbr:bl≠w.heap.size/\b≠w.heap.size:=by have:=k5 bl Lc;omega
   have hlv:w.heap.size∉lv.ownBlock.toList:=by intro hi;have:=k5 _ (List.mem_cons_of_mem _ hi);omega
   generalize hbr0:w.heap.size=br at *;clear c0 c1 c2 c3 c4 c5 c6 c7;refine z7 Le [br] (fun w2 F2=>?_);refine epq [true,true,true,true,true,true,true,true,true,true,true,true,false] 1 (F2.mono) ?_;apply qg;refine ⟨fun wf Ff=>?_,?_⟩
   ·have hf:q9s wf b g bw (some bl):=Ob.kept h1 Ff (by simp;exact hbr.2);obtain ⟨c0,c1,c2,c3,c4,c5,c6,c7⟩:=Z5 hf;unfold vg at c6;simp only at c6;have hk:vh wf bl (x.as lv):=Ob.kept k1 Ff (by simp;exact hbr.1);have y14:=(qx hk).2.2.2.2.2.2.2.2.2.2.2.2.2.2;have hsq:=Sq.kept k2 Ff (by intro g hg hi;simp at hi;subst hi;exact hlv hg);have HF:=q9 (show ∀ s:In wf,Calls Tryz.prog 94 #[lv,.int .i64 g.key] s.at_ fun e w'=>e = .returned (Yw (Xw x.l g.key) (.slice none 0 0))/\Fr [] s.at_ w' from fun s=>q76 x.l g.key lv _ hlen (hsq.up s.fr));have j0:=qb c0;have j6:=qb c6;have j14:=qb y14;rw [show (x.as lv).lv=lv from rfl] at j14;clear c0 c1 c2 c3 c4 c5 c6 c7 y14;simp only [sel];repeat (go_big_quiet_step ((go_at_call 94;exact Calls.in_ (HF.out _))))
    exact wpQuiet_nil rfl
   refine eoq 12 (fun w3 F3=>?_);have E:=F2.trans F3;replace oa:=oa.up E;clear F2 F3;obtain ⟨q0,q1,q2,q3,q4,q5⟩:=Qe oa;have z:=oa.frozen;generalize Xw x.l g.key=an at *;unfold Yw;go_wp2_with fail;have o8:=U8 oa (.int .i64 an.code) (.bool an.found) (.int .i64 an.val) (.int .i64 an.writer) (.int .i64 an.version) (.slice none 0 0);have F8:=Wt (b:=br) (Fr.refl [br] w3) (List.mem_singleton.2 rfl) (.int .i64 an.code) (.bool an.found) (.int .i64 an.val) (.int .i64 an.writer) (.int .i64 an.version) (.slice none 0 0);clear q0 q1 q2 q3 q4 q5 z oa;refine ql ⟨(E.mono).trans F8,?_⟩;refine zr Le (fun w4 F4=>?_);have o9:=o8.up F4;have G:=F0.trans E;have F9:=q9 ((G.own F8 Ll).trans F4);clear o8 F8 F4;go_wp2_with fail;obtain ⟨q0,q1,q2,q3,q4,q5⟩:=Qe o9;refine bodyPost_ret (v:=Yw an (.slice none 0 0)) (by simp [results,Tryz.results76,go_sem,q0,q1,q2,q3,q4,q5,Yw]) rfl ⟨by rw [HA.out],F9.out⟩
theorem Vn {A Y Z Y':List Nat} {n:Nat} (h:(A++(Y++Z)).Nodup) (hlt:∀ k,k∈A++(Y++Z)->k<n) (hY:Y'.Nodup) (hs:∀ k,k∈Y'->k∈Y\/n<=k):(A++(Y'++Z)).Nodup:=by
 rw [List.nodup_append] at h ⊢;obtain ⟨h1,h2,h3⟩:=h;rw [List.nodup_append] at h2 ⊢;obtain ⟨h4,h5,h6⟩:=h2;refine ⟨h1,⟨hY,h5,fun a ha b hb e=>?_⟩,fun a ha b hb e=>?_⟩
 ·subst e;rcases hs a ha with h | h
  ·exact h6 a h a hb rfl
  ·have:=hlt a (by simp [hb]);omega
 ·subst e;rcases List.mem_append.1 hb with h | h
  ·rcases hs a h with h' | h'
   ·exact h3 a ha a (by simp [h']) rfl
   ·have:=hlt a (by simp [ha]);omega
  ·exact h3 a ha a Mq rfl
theorem q1z {A Y Z Y':List Nat} {n:Nat} (hs:∀ k,k∈Y'->k∈Y\/n<=k):∀ k,k∈A++(Y'++Z)->k∈A++(Y++Z)\/n<=k:=by
 intro k hk;simp only [List.mem_append] at hk ⊢;rcases hk with h | h | h
 ·exact .inl (.inl h)
 ·exact (hs k h).imp (fun h=>.inr (.inl h)) id
 ·exact .inl (.inr (.inr h))
theorem qa3 (v:Value):v.ownBlock.toList.Nodup:=by cases v.ownBlock <;> simp
theorem q06.nd {w:World} {B:List Nat} {b:Nat} {x:Lok} (h:q06 w B b x):B.Nodup:=by obtain ⟨lv,h1,h2,h3,rfl,h5⟩:=h;exact List.nodup_cons.2 ⟨h3,qa3 lv⟩
def OpW (w:World) (B:List Nat) (o:Option Wk) (wp:Option Nat):Prop:=match o with | none=>wp=none/\B=[] | some y=>∃ bw,wp=some bw/\Z2 w bw y/\B=[bw]
theorem OpW.kept {S:List Nat} {w w':World} {B:List Nat} {o:Option Wk} {wp:Option Nat} (h:OpW w B o wp) (f:Fr S w w') (hS:∀ k,k∈B->k∉S):OpW w' B o wp:=by
 cases o with
 | none=>exact h
 | some x=>obtain ⟨bl,h1,h2,rfl⟩:=h;exact ⟨bl,h1,Ob.kept h2 f (hS _ Lc),rfl⟩
theorem OpW.lt {w:World} {B:List Nat} {o:Option Wk} {wp:Option Nat} (h:OpW w B o wp):∀ k,k∈B->k<w.heap.size:=by
 cases o with
 | none=>rw [h.2];simp
 | some x=>obtain ⟨bl,h1,h2,rfl⟩:=h;intro k hk;simp at hk;subst hk;exact Ob.lt h2
def Sn.cells (x:Sn) (bk:Nat) (wp lp:Option Nat) (iv:Value):Array Value:=#[.int .i64 x.c.t,.int .i64 x.c.c,.int .i64 x.c.wd,.int .i64 x.c.v,.int .i64 x.t,.int .i64 x.seq,.int .i64 x.lo,.int .i64 x.hi,.pointer (some ⟨bk,0,none⟩),vg wp,vg lp,.int .i64 x.line,.int .i64 x.at_,.int .i64 x.n,iv]
def Tp (w:World) (b:Nat) (x:Sn) (bk:Nat) (wp lp:Option Nat) (iv:Value):Prop:=Ob w b 131 (x.cells bk wp lp iv)
theorem zo {w:World} {b bk:Nat} {wp lp:Option Nat} {iv:Value} {x:Sn} (h:Tp w b x bk wp lp iv):w.cell? ⟨b,0,none⟩=some (.int .i64 x.c.t)/\w.cell? ⟨b,1,none⟩=some (.int .i64 x.c.c)/\w.cell? ⟨b,2,none⟩=some (.int .i64 x.c.wd)/\w.cell? ⟨b,3,none⟩=some (.int .i64 x.c.v)/\w.cell? ⟨b,4,none⟩=some (.int .i64 x.t)/\w.cell? ⟨b,5,none⟩=some (.int .i64 x.seq)/\w.cell? ⟨b,6,none⟩=some (.int .i64 x.lo)/\w.cell? ⟨b,7,none⟩=some (.int .i64 x.hi)/\w.cell? ⟨b,8,none⟩=some (.pointer (some ⟨bk,0,none⟩))/\w.cell? ⟨b,9,none⟩=some (vg wp)/\w.cell? ⟨b,10,none⟩=some (vg lp)/\w.cell? ⟨b,11,none⟩=some (.int .i64 x.line)/\w.cell? ⟨b,12,none⟩=some (.int .i64 x.at_)/\w.cell? ⟨b,13,none⟩=some (.int .i64 x.n)/\w.cell? ⟨b,14,none⟩=some (iv) :=
 ⟨h.cell rfl,h.cell rfl,h.cell rfl,h.cell rfl,h.cell rfl,h.cell rfl,h.cell rfl,h.cell rfl,h.cell rfl,h.cell rfl,h.cell rfl,h.cell rfl,h.cell rfl,h.cell rfl,h.cell rfl⟩
def Ky (w:World) (B:List Nat) (b:Nat) (x:Sn):Prop:=∃ bk wp lp iv Bw Bl,Tp w b x bk wp lp iv/\Yz w bk x.k/\OpW w Bw x.w wp/\OpL w Bl x.l lp/\Sq fT w iv x.items/\(∀ g,g∈iv.ownBlock.toList->g<w.heap.size)/\B=b :: bk :: (Bw++(Bl++iv.ownBlock.toList))/\B.Nodup
theorem Ky.lt {w:World} {B:List Nat} {b:Nat} {x:Sn} (h:Ky w B b x):∀ k,k∈B->k<w.heap.size:=by
 obtain ⟨bk,wp,lp,iv,Bw,Bl,h1,h2,h3,h4,h5,h6,rfl,h8⟩:=h;intro k hk;simp only [List.mem_cons,List.mem_append] at hk;rcases hk with rfl | rfl | hk | hk | hk
 ·exact Ob.lt h1
 ·exact Ob.lt h2
 ·exact h3.lt k hk
 ·exact h4.lt k hk
 ·exact h6 k hk
theorem Ky.kept {S:List Nat} {w w':World} {B:List Nat} {b:Nat} {x:Sn} (h:Ky w B b x) (f:Fr S w w') (hS:∀ k,k∈B->k∉S):Ky w' B b x:=by obtain ⟨bk,wp,lp,iv,Bw,Bl,h1,h2,h3,h4,h5,h6,rfl,h8⟩:=h;exact ⟨bk,wp,lp,iv,Bw,Bl,Ob.kept h1 f (hS _ Lc),Ob.kept h2 f (hS _ Lc),h3.kept f (fun k hk=>hS k Ns),h4.kept f (fun k hk=>hS k Ns),h5.kept f (fun k hk=>hS k (by simp only [List.mem_cons,List.mem_append];simp [hk])),fun g hg=>qj (h6 g hg) f.size,rfl,h8⟩
theorem q1g (c:Cf) (tt seq lo hi:Int) (w:World):Calls Tryz.prog 73 #[c.val,.int .i64 tt,.int .i64 seq,.int .i64 lo,.int .i64 hi] w (Mk w (fun w' B b=>Ky w' B b (Sn.new c tt seq lo hi))):=by
 unfold Cf.val;have F0:=(Fr.refl [] w).alloc (.cells #[.int .i64 c.t,.int .i64 c.c,.int .i64 c.wd,.int .i64 c.v] 23);obtain ⟨c0,c1,c2,c3⟩:=Pl.yu (Go.heap_alloc_new w (.cells #[.int .i64 c.t,.int .i64 c.c,.int .i64 c.wd,.int .i64 c.v] 23));go_enter Tryz.func73,Tryz.ntmps73;go_wp2_with fail;generalize hw1:World.alloc w _=w1 at *;refine z7 Le [] (fun w2 F2=>?_);refine epq [true,true,true,true,true,true,true,true,false,false,false,false] 4 (F2.mono) ?_;apply qg;refine ⟨fun wf Ff=>?_,?_⟩
 ·have k0:=qb (Ff.cell c0 Lc);have k1:=qb (Ff.cell c1 Lc);have k2:=qb (Ff.cell c2 Lc);have k3:=qb (Ff.cell c3 Lc);exact Ab
 clear c0 c1 c2 c3 hw1;refine eoq 8 (fun w3 F3=>?_);have E:=F2.trans F3;clear F2 F3;go_wp2_with fail;refine (R7 c tt seq w3).mono ?_;rintro e w4 ⟨bk,rfl,hbk,k,F4⟩;have hE:=E.size;replace E:=E.trans F4;clear F4;go_wp2_with fail;refine ql ⟨E,?_⟩;refine eoq 9 (fun w5 F5=>?_);replace E:=E.trans F5;replace k:=Ob.up k F5;clear F5;go_wp2_with fail;refine ql ⟨E,?_⟩;refine eoq 10 (fun w5 F5=>?_);replace E:=E.trans F5;replace k:=Ob.up k F5;clear F5;have hk:=Ob.lt k;have og:Tp _ w5.heap.size (Sn.new c tt seq lo hi) bk none none (.slice none 0 0):=Ob.new w5 131 ((Sn.new c tt seq lo hi).cells bk none none (.slice none 0 0));unfold Sn.cells Sn.new vg at og;simp only at og;have FA:=(Fr.refl [] w5).alloc (.cells #[.int .i64 c.t,.int .i64 c.c,.int .i64 c.wd,.int .i64 c.v,.int .i64 tt,.int .i64 seq,.int .i64 lo,.int .i64 hi,.pointer (some ⟨bk,0,none⟩),.pointer none,.pointer none,.int .i64 10,.int .i64 0,.int .i64 0,.slice none 0 0] 131);have hE5:=E.size;go_wp2_with fail;refine ql ⟨E.trans FA,?_⟩;refine eoq 11 (fun w6 F6=>?_);have E2:=(E.trans FA).trans F6;have k2:=Ob.up k (FA.trans F6);have og2:=Ob.up og F6;clear k og E FA F6;generalize w5.heap.size=b at *;go_wp2_with fail;refine ql ⟨E2,?_⟩;refine zr Le (fun w7 F7=>?_);have E3:=q9 (F0.trans (E2.trans F7));have HK:=q9 (qc (Ob.up k2 F7) (Ob.up og2 F7));have hF0:=F0.size;clear k2 og2 E2 F7 F0;go_wp2_with fail;go_ret;refine ⟨b,[b,bk],rfl,⟨bk,none,none,.slice none 0 0,[],[],HK.out.2,HK.out.1,⟨rfl,rfl⟩,⟨rfl,rfl⟩,Sq.nil _,by simp [Value.ownBlock],by simp [Value.ownBlock],by simp;omega⟩,fun k hk=>?_,E3.out⟩;simp at hk;exact Hz
def qd6 (w:World) (b p q:Nat) (x:Sn) (bk:Nat) (wp:Option Nat) (iv:Value) (at_:Int) (e:Ending) (w':World):Prop:=∃ bl,e = .returned (.tuple #[])/\w.heap.size<=bl/\Tp w' b (x.chunk at_) bk wp (some bl) iv/\vh w' bl (Lok.new x.c at_ x.lo x.hi x.k.version)/\Fr [b] w w'
theorem Ri (x:Sn) (at_:Int) (b bk p q:Nat) (wp lp:Option Nat) (iv:Value) (w:World) (h:Tp w b x bk wp lp iv) (hk:Yz w bk x.k) :
  Calls Tryz.prog 96 #[.pointer (some ⟨b,0,none⟩),.int .i64 at_] w (qd6 w b p q x bk wp iv at_):=by
 go_enter Tryz.func96,Tryz.ntmps96;refine qp Le ?_;refine wm 1 rfl Le Le Le rfl (fun _ _ d _ _ h=>by cases d <;> exact h) ?_;go_frame;refine wm 2 rfl Le Le Le rfl (fun _ _ d _ _ h=>by cases d <;> exact h) ?_;go_frame;refine za [] w #[true,true,true,true,true,true,true,true,true,true,true,true,true,true,true,true,true,true,true,true,true,true,true,true,true,false,false,false,false,false,false,false,false,false] 23 9 rfl ?_;refine ja [true,false,false,true,true,true,true,true,true,true,true,true,true,true,true,true,true,true,true,true,true,true,true,true,false,false,false,false,false,false,false,false,false,false] 1 (n:=35) (listed':=#[true,true,true,true,true,true,true,true,true,true,true,true,true,true,true,true,true,true,true,true,true,true,true,true,false,false,false,false,false,false,false,false,false,false]) rfl Le Le Le Le rfl Le (fun _ _ d _ _ h=>by cases d <;> exact h) ((Fr.refl _ w).drew) ?_;apply qg;refine ⟨fun wf Ff=>?_,?_⟩
 ·obtain ⟨c0,c1,c2,c3,c4,c5,c6,c7,c8,c9,c10,c11,c12,c13,c14⟩:=zo (Ob.up h Ff);have y5:=(yz (Ob.up hk Ff)).2.2.2.2.2.2.2.2.1;have j0:=qb c0;have j1:=qb c1;have j2:=qb c2;have j3:=qb c3;have j6:=qb c6;have j7:=qb c7;have j8:=qb c8;have j9:=qb y5;clear c0 c1 c2 c3 c4 c5 c6 c7 c8 c9 c10 c11 c12 c13 c14 y5;exact Ab
 refine loq 24 (fun w7 F7=>?_);have E:=((Fr.refl [] w).drew.trans F7);clear F7;go_wp2_with fail;refine (Ke x.c at_ x.lo x.hi x.k.version w7).mono ?_;rintro e w8 ⟨bl,rfl,hbl,m1,F8⟩;have hE:=E.size;replace E:=E.trans F8;clear F8;go_wp2_with fail;refine ql ⟨E,?_⟩;refine qy (k:=25) rfl Le (fun w10 F10=>?_);replace E:=E.trans F10;replace m1:vh w10 bl (Lok.new x.c at_ x.lo x.hi x.k.version):=Ob.up m1 F10;clear F10;have o10:Tp w10 b x bk wp lp iv:=Ob.up h E;have hbb:bl≠b:=by have:=Ob.lt h;omega
 obtain ⟨c0,c1,c2,c3,c4,c5,c6,c7,c8,c9,c10,c11,c12,c13,c14⟩:=zo o10;have z:=o10.frozen;have o11:Tp _ b (x.chunk at_) bk wp (some bl) iv:=Ob.set (Ob.set (Ob.set o10 (i:=12) (.int .i64 at_)) (i:=11) (.int .i64 1)) (i:=10) (.pointer (some ⟨bl,0,none⟩));have m11:vh _ bl (Lok.new x.c at_ x.lo x.hi x.k.version):=Ob.other (Ob.other (Ob.other m1 hbb (i:=12) (.int .i64 at_)) hbb (i:=11) (.int .i64 1)) hbb (i:=10) (.pointer (some ⟨bl,0,none⟩));have E11:=(((E.mono (T:=[b]) Lc).setCell' (b:=b) (i:=12) (.int .i64 at_) Lc).setCell' (b:=b) (i:=11) (.int .i64 1) Lc).setCell' (b:=b) (i:=10) (.pointer (some ⟨bl,0,none⟩)) Lc;go_wp2_with fail;go_end0;exact ⟨bl,rfl,by omega,o11,m11,E11⟩
end Go.Proofs.YtleclbldlladmaaGreat.Mx
namespace Go.Proofs.YtleclbldlladmaaGreat.Og
open Go.RowKit Go.Maps Ar
def long (os:List O):Bool:=decide (1000<os.length)
def large (t:Int) (rs:List (List O)) (ps:List Int):Bool:=decide (t<rs.length) || (decide (20000<ps.length) || rs.any long)
def qbv (o:O):Bool:=fit o.1 o.2.1 o.2.2.1 o.2.2.2
def qco (os:List O):Bool:=os.all qbv
theorem c7 {w:World} {b:Nat} {t:TypeId} {x0 x1 x2 x3 x4 x5 x6:Value} (h:w.heap[b]? = some (.cells #[x0,x1,x2,x3,x4,x5,x6] t (0,0))) :
  w.cell? ⟨b,0,none⟩=some x0/\w.cell? ⟨b,1,none⟩=some x1/\w.cell? ⟨b,2,none⟩=some x2/\w.cell? ⟨b,3,none⟩=some x3/\w.cell? ⟨b,4,none⟩=some x4/\w.cell? ⟨b,5,none⟩=some x5/\w.cell? ⟨b,6,none⟩=some x6 :=
 ⟨by rw [cell_of_row _ _ _ _ _ _ h];rfl,by rw [cell_of_row _ _ _ _ _ _ h];rfl,by rw [cell_of_row _ _ _ _ _ _ h];rfl,by rw [cell_of_row _ _ _ _ _ _ h];rfl,by rw [cell_of_row _ _ _ _ _ _ h];rfl,by rw [cell_of_row _ _ _ _ _ _ h];rfl,by rw [cell_of_row _ _ _ _ _ _ h];rfl⟩
def has (rs:List (List O)) (x:Int):Bool:=decide (0<=thr x) && (decide (thr x<rs.length) && decide (ind x<(J7 rs (thr x).toNat).length))
end Go.Proofs.YtleclbldlladmaaGreat.Og
