/- ClaimTells: whatever the input, the law returns true and the input reads as it did. Its row lists the package-level variables that it names; the card ties them to the program's text. No further condition. -/
import Derived.Test.YthokjbikomjhgaaGreatDoorZLaws13u
import Derived.Test.YthokjbikomjhgaaGreatDoorVbi
import Derived.Test.YthokjbikomjhgaaGreatDoorVan
import Derived.LaidHandle
import Derived.LaidLaws
import Derived.Stop.Joined
import Derived.Test.YthokjbikomjhgaaGreatDoorCards
import Derived.Test.YthokjbikomjhgaaGreatDoorTie
import Derived.Deep.DeepHandedRow
import Derived.Lay
namespace Go.Proofs.YthokjbikomjhgaaGreatDoor.claimTells
open Go.ChangeShapes Go.WideShapes Go.ChangeAt Go.RowKit Go.Deep
set_option linter.unusedVariables false
theorem own:ownKnob Tryz.prog.godebug=none:=by kernel_rfl
theorem laidOut:laidOutB Tryz.prog=true:=by kernel_rfl
theorem readable:Tryz.f10.params.toList.all (fun t=>Tryz.prog.readableRec t && decide (t<Tryz.prog.types.size))=true:=by kernel_rfl
def plainList : List (String × DataW Unit) := [("armillary/word.bounds", Rows.laid_armillary_word_bounds)]
set_option maxRecDepth 100000 in
theorem contract (H:Type) (enc:TypeId×Value→H) (W:World) (base:Nat) (args:Array Value) (ds gs:List (DataW H)) (before:List MemPlace)
  (hval:∀ (j:Nat) t v,Tryz.f10.params[j]? = some t→args[j]? = some v→Value.okWide Tryz.prog W .any base t v)
  (hW:DataW.Whole enc Tryz.prog Tryz.f10.params.toList Rows.claimTellsSpec.vars false W args.toList ds gs before) (hL:laidMet Tryz.prog plainList W) (hE:Er.ErrType W) :
  Calls Tryz.prog 10 args W fun e W'=>∃ v,e = .returned v∧Rows.claimTellsSpec.post enc Tryz.prog Tryz.f10 false true false false W args v W':=by
 have hW':=hW
 obtain ⟨p,q,hA0,hV,rfl,hfz,hnd⟩:=hW
 have hA:DataW.TrodAll enc Tryz.prog W 0 (fun _=>true) true Tryz.f10.params.toList args.toList ds p:=hA0
 rw [Tryz.params10] at hA hval
 obtain ⟨v0,vs0,d0,ds0,p0,q0,hargs,rfl,rfl,h0,r0⟩:=trodAll_cons hA
 obtain ⟨v1,vs1,d1,ds1,p1,q1,rfl,rfl,rfl,h1,r1⟩:=trodAll_cons r0
 obtain ⟨v2,vs2,d2,ds2,p2,q2,rfl,rfl,rfl,h2,r2⟩:=trodAll_cons r1
 obtain ⟨v3,vs3,d3,ds3,p3,q3,rfl,rfl,rfl,h3,r3⟩:=trodAll_cons r2
 obtain ⟨rfl,rfl,rfl⟩:=trodAll_nil r3
 obtain rfl:args = #[v0,v1,v2,v3]:=by cases args;simp_all
 obtain ⟨rfl,rfl⟩:=trodVars_none hV
 have hv0:=hval 0 27 v0 rfl rfl
 obtain ⟨a1,rfl,rfl,rfl,w1⟩:=open_int Tryz.underlying5 (hval 1 5 v1 rfl rfl) h1
 obtain ⟨a2,rfl,rfl,rfl,w2⟩:=open_int Tryz.underlying102 (hval 2 102 v2 rfl rfl) h2
 obtain ⟨len3,V3_u,hI3,hV3⟩:=Law.qcs Tryz.underlying54 Tryz.underlying146 (by kernel_rfl) (by kernel_rfl) (by decide) (hval 3 54 v3 rfl rfl) h3
 clear hA0
 refine (Kc_u.tells13_open a1 a2 v3 len3 V3_u W (Word.tab_of (by simp [plainList]) hL) hE hv0 h0 (by have:=bounds_u8 w1;omega) (by have:=bounds_u16 w2;omega) hI3 (fun i hi j hj=>(Law.recs_int (k:=.i64) hV3 (fun j f h=>by rw [Law.q35 (t:=3) (by kernel_rfl) j f h];exact Tryz.underlying3) i hi j hj).imp fun _ h=>h.1)).mono fun e W' ⟨he,hd⟩=>?_
 subst he
 exact ⟨_,rfl,Law.law_post (tb:=4) laidOut readable Tryz.underlying4 (by kernel_rfl) rfl rfl hW' hd.below⟩
theorem et : Tryz.prog.globalNamed "errors.errorType" = some 1 := by kernel_rfl
theorem rt : (Tryz.prog.cutTypes.find? (·.1 == "internal/reflectlite.rtype")).map (·.2) = some 250 := by kernel_rfl
theorem oneRow:((List.range Tryz.prog.types.size).filter fun t=>Tryz.prog.rowNamed t [101,114,114,111,114])=[108]:=by kernel_rfl
theorem handle_of_laid {W:World} (h:laidMetH Tryz.prog Rows.claimTellsRow.laid W):laidMet Tryz.prog plainList W∧Er.ErrType W:=by
 have h':laidMet Tryz.prog plainList W∧handlesMet Tryz.prog (Rows.claimTellsRow.laid.filter fun x=>x.2.handleName?.isSome) W:=h
 refine ⟨h'.1,?_⟩
 obtain ⟨name,u,ty,e1,e2,e3,e4,e5⟩:=h'.2 _ (List.mem_singleton.2 rfl)
 have en:name=[101,114,114,111,114]:=(qi e1).symm
 subst en
 obtain rfl:=qi (rt.symm.trans e2)
 have hm:ty∈(List.range Tryz.prog.types.size).filter fun t=>Tryz.prog.rowNamed t [101,114,114,111,114]:=List.mem_filter.2 ⟨List.mem_range.2 e3,e4⟩
 rw [oneRow] at hm
 obtain rfl:=List.mem_singleton.1 hm
 have hh:typeHandle Tryz.prog 108 = .pointer (some ⟨3,108,none⟩):=by kernel_rfl
 rw [hh] at e5
 unfold Er.ErrType
 simpa using World.var?_cell et e5 0
def lay (w0:World):World:={ w0 with heap:=w0.heap.modify 1 fun
 | .cells _ t frozen=>.cells #[.iface 250 (.agg #[.pointer (some ⟨3,108,none⟩)])] t frozen
 | o=>o }
theorem laid_plain (os:Os):laidMet Tryz.prog plainList (((lay (World.holding Tryz.prog os ⟨#[],#[],[]⟩)).layVars Tryz.prog plainList).forCall (fun _ _=>0) ⟨#[],#[Value.agg #[.int .i64 0,.int .i64 0,.int .i64 0,.int .i64 0,.slice none 0 0,.slice none 0 0,.slice none 0 0],.int .u8 0,.int .u16 0,.slice none 0 0],[]⟩).memory:=by
 have e1:(plainList.filter fun x=>(plainList.map (·.1)).contains x.1)=plainList:=by kernel_rfl
 have e2:(plainList.filter fun x=>!(plainList.map (·.1)).contains x.1)=[]:=by kernel_rfl
 have h:laidMet Tryz.prog plainList ((lay (World.holding Tryz.prog os ⟨#[],#[],[]⟩)).layVars Tryz.prog plainList):=laidMet_layVars (w0:=lay (World.holding Tryz.prog os ⟨#[],#[],[]⟩)) (plainList.map (·.1)) [] (by rw [e1]) (by rw [e1];kernel_rfl) (by rw [e1];kernel_rfl) (by rw [e2];exact LaidIn.none)
 exact h.of_heap (by simp [World.memory,World.forCall,Input.heap])
theorem laid_met (os:Os):laidMetH Tryz.prog Rows.claimTellsRow.laid (((lay (World.holding Tryz.prog os ⟨#[],#[],[]⟩)).layVars Tryz.prog plainList).forCall (fun _ _=>0) ⟨#[],#[Value.agg #[.int .i64 0,.int .i64 0,.int .i64 0,.int .i64 0,.slice none 0 0,.slice none 0 0,.slice none 0 0],.int .u8 0,.int .u16 0,.slice none 0 0],[]⟩).memory :=
 laidMetH_of_parts (laid_plain os) (by kernel_rfl)
theorem reads (os:Os) {H:Type} (enc:TypeId×Value→H):∃ places,DataW.whole enc Tryz.prog (((lay (World.holding Tryz.prog os ⟨#[],#[],[]⟩)).layVars Tryz.prog plainList).forCall (fun _ _=>0) ⟨#[],#[Value.agg #[.int .i64 0,.int .i64 0,.int .i64 0,.int .i64 0,.slice none 0 0,.slice none 0 0,.slice none 0 0],.int .u8 0,.int .u16 0,.slice none 0 0],[]⟩).memory Tryz.f10.params.toList Rows.claimTellsSpec.vars false (#[Value.agg #[.int .i64 0,.int .i64 0,.int .i64 0,.int .i64 0,.slice none 0 0,.slice none 0 0,.slice none 0 0],.int .u8 0,.int .u16 0,.slice none 0 0]:Array Value).toList 8=some ([.agg [.agg [.lit (.int .i64 0),.lit (.int .i64 0),.lit (.int .i64 0),.lit (.int .i64 0)],.nil,.nil,.nil],.lit (.int .u8 0),.lit (.int .u16 0),.nil],[],places) :=
 ⟨[],by kernel_rfl⟩
set_option maxRecDepth 100000 in
theorem lifted (os:Os) (started:os.Started) (H:Type) (enc:TypeId×Value→H) (F:Stop.Interp) :
  ReturnsInHanded {} Tryz.checked os 10 .any ((OpenSpec.ofChange Rows.claimTellsSpec).preRow enc Tryz.prog Tryz.f10 Rows.claimTellsRow.domain false Rows.claimTellsRow.laid) (((OpenSpec.ofChange Rows.claimTellsSpec).at F).post enc Tryz.prog Tryz.f10 false true false false):=by
 obtain ⟨places,hx⟩:=reads os enc
 refine returnsInHanded_of_row (C:=Tryz.checked) (s:=OpenSpec.ofChange Rows.claimTellsSpec) own started (by kernel_rfl) Tryz.func10
  (witness_row_at (enc:=enc) (C:=Tryz.checked) false ((lay (World.holding Tryz.prog os ⟨#[],#[],[]⟩)).layVars Tryz.prog plainList) #[Value.agg #[.int .i64 0,.int .i64 0,.int .i64 0,.int .i64 0,.slice none 0 0,.slice none 0 0,.slice none 0 0],.int .u8 0,.int .u16 0,.slice none 0 0] rfl (by kernel_rfl) (by kernel_rfl) (by kernel_rfl)
   (OpenSpec.preRow_of_cond 8 hx (by kernel_rfl) (fun k hk=>by cases hk) (by kernel_rfl) (laid_met os))) ?_
 intro W base args ds gs before hval hW _ _ _ hL _ _
 exact contract H enc W base args ds gs before hval hW (handle_of_laid hL).1 (handle_of_laid hL).2
theorem closedF:joinedFacts Tryz.pinned.checked.prog 10 Tryz.f10 (OpenSpec.ofChange Rows.claimTellsSpec).bare Rows.claimTellsRow=true:=by
 unfold joinedFacts
 iterate 20 rw [Bool.and_assoc]
 refine (Bool.and_eq_true _ _).mpr ⟨?_,?_⟩
 ·as_aux_lemma=>kernel_rfl
 ·as_aux_lemma=>kernel_rfl
theorem said:Rows.ClaimTellsSaid :=
 OpenClaim.holds_of_cond 10 Tryz.f10 rfl rfl rfl rfl rfl rfl rfl ⟨rfl,rfl,rfl,rfl,rfl⟩ rfl rfl rfl rfl rfl (by kernel_rfl) Tryz.func10 closedF
  (of_decide_eq_true (by kernel_rfl)) (by unfold Func.isWrapper;first | (rw [qf (by decide +kernel)];kernel_rfl) | (rw [qd (by decide +kernel)];exact ⟨rfl,rfl⟩))
  (fun os started H enc _ F=>by rw [OpenClaim.pre_eq_preRow];exact lifted os started H enc F)
theorem plain (f : FuncId) (fn : Func) (hf : Tryz.pinned.checked.prog.funcNamed "armillary/armillarylaw13.ClaimTells" = some f) (hfn : Tryz.pinned.checked.prog.funcs[f]? = some fn) :
  true=Tryz.pinned.checked.prog.looks []∧∀ (j:Nat) t,fn.params[j]? = some t→Tryz.pinned.checked.prog.wantsStandIn t=false:=by
 obtain rfl : f = 10 := qi ((show Tryz.prog.funcNamed "armillary/armillarylaw13.ClaimTells" = some 10 by kernel_rfl).symm.trans hf) |>.symm
 obtain rfl:fn=Tryz.f10:=(qi (Tryz.func10.symm.trans hfn)).symm
 refine ⟨by kernel_rfl,fun j t ht=>?_⟩
 have all:(Tryz.f10.params.all fun t=>!(Tryz.prog.wantsStandIn t))=true:=by kernel_rfl
 have:=Array.all_eq_true_iff_forall_mem.1 all t (Array.mem_of_getElem? ht)
 have h2:Tryz.prog.wantsStandIn t=false:=by simpa using this
 exact h2
theorem card:Rows.ClaimTellsCardSaid :=
 Claim7.holds_tied_plain_at .later [] _ _ _ _ said (fun _ h=>by cases h) (by kernel_rfl) (fun _ h=>by cases h) claimTells_row_tie rfl ⟨rfl,rfl⟩ (by kernel_rfl) rfl plain (by kernel_rfl)
end Go.Proofs.YthokjbikomjhgaaGreatDoor.claimTells
