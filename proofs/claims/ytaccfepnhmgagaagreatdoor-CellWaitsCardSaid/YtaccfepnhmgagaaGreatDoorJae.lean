/- CellWaits: whatever the input, the law returns true and the input reads as it did. Its row lists the package-level variables that it names; the card ties them to the program's text. No further condition. -/
import Derived.Test.YtaccfepnhmgagaaGreatDoorJad
import Derived.Test.YtaccfepnhmgagaaGreatDoorVbm
import Derived.Test.YtaccfepnhmgagaaGreatDoorVal
import Derived.Test.YtaccfepnhmgagaaGreatDoorCards
import Derived.Test.YtaccfepnhmgagaaGreatDoorTie
import Derived.Deep.DeepHandedRow
import Derived.Lay
set_option linter.unusedVariables false
set_option linter.unusedSimpArgs false
set_option maxRecDepth 100000
namespace Go.Proofs.YtaccfepnhmgagaaGreatDoor.cellWaits
open Go.ChangeShapes Go.WideShapes Go.ChangeAt Go.RowKit Go.Deep
set_option linter.unusedVariables false
theorem own:ownKnob Tryz.prog.godebug=none:=by kernel_rfl
theorem laidOut:laidOutB Tryz.prog=true:=by kernel_rfl
theorem readable:Tryz.f4.params.toList.all (fun t=>Tryz.prog.readableRec t && decide (t<Tryz.prog.types.size))=true:=by kernel_rfl
set_option maxRecDepth 100000 in
theorem contract (H:Type) (enc:TypeId×Value→H) (W:World) (base:Nat) (args:Array Value) (ds gs:List (DataW H)) (before:List MemPlace)
  (hval:∀ (j:Nat) t v,Tryz.f4.params[j]? = some t→args[j]? = some v→Value.okWide Tryz.prog W .any base t v)
  (hW:DataW.Whole enc Tryz.prog Tryz.f4.params.toList Rows.cellWaitsSpec.vars false W args.toList ds gs before) (hL:laidMet Tryz.prog Rows.cellWaitsRow.laid W) :
  Calls Tryz.prog 4 args W fun e W'=>∃ v,e = .returned v∧Rows.cellWaitsSpec.post enc Tryz.prog Tryz.f4 false true false false W args v W':=by
 have hW':=hW;obtain ⟨p,q,hA0,hV,rfl,hfz,hnd⟩:=hW;have hA:DataW.TrodAll enc Tryz.prog W 0 (fun _=>true) true Tryz.f4.params.toList args.toList ds p:=hA0;rw [Tryz.params4] at hA hval;obtain ⟨v0,vs0,d0,ds0,p0,q0,hargs,rfl,rfl,h0,r0⟩:=trodAll_cons hA;obtain ⟨v1,vs1,d1,ds1,p1,q1,rfl,rfl,rfl,h1,r1⟩:=trodAll_cons r0;obtain ⟨v2,vs2,d2,ds2,p2,q2,rfl,rfl,rfl,h2,r2⟩:=trodAll_cons r1;obtain ⟨v3,vs3,d3,ds3,p3,q3,rfl,rfl,rfl,h3,r3⟩:=trodAll_cons r2;obtain ⟨rfl,rfl,rfl⟩:=trodAll_nil r3;obtain rfl:args = #[v0,v1,v2,v3]:=by cases args;simp_all
 obtain ⟨rfl,rfl⟩:=trodVars_none hV;have hv0:=hval 0 27 v0 rfl rfl;obtain ⟨a1,rfl,rfl,rfl,w1⟩:=open_int Tryz.underlying5 (hval 1 5 v1 rfl rfl) h1;obtain ⟨a2,rfl,rfl,rfl,w2⟩:=open_int Tryz.underlying5 (hval 2 5 v2 rfl rfl) h2;obtain ⟨z3,hI3⟩:=Law.qcp (k:=.u8) Tryz.underlying57 Tryz.underlying5 A0g (hval 3 57 v3 rfl rfl) h3;clear hA0;refine (Cc_u.waits15_open a1 a2 v3 z3 W (Word.tab_of (by simp [Rows.cellWaitsRow]) hL) hv0 h0 (by have:=bounds_u8 w1;omega) (by have:=bounds_u8 w2;omega) hI3).mono fun e W' ⟨he,hd⟩=>?_
 subst he;exact ⟨_,rfl,Law.law_post (tb:=4) laidOut readable Tryz.underlying4 A0g rfl rfl hW' hd.below⟩
theorem laid_met (os:Os):laidMet Tryz.prog Rows.cellWaitsRow.laid ((World.laidAll Tryz.prog os Rows.cellWaitsRow.laid).forCall (fun _ _=>0) ⟨#[],#[Value.agg #[.int .i64 0,.int .i64 0,.int .i64 0,.int .i64 0,.slice none 0 0,.slice none 0 0,.slice none 0 0],.int .u8 0,.int .u8 0,.slice none 0 0],[]⟩).memory :=
 laidMet_laidAll _ A0g A0g
theorem reads (os:Os) {H:Type} (enc:TypeId×Value→H):∃ places,DataW.whole enc Tryz.prog ((World.laidAll Tryz.prog os Rows.cellWaitsRow.laid).forCall (fun _ _=>0) ⟨#[],#[Value.agg #[.int .i64 0,.int .i64 0,.int .i64 0,.int .i64 0,.slice none 0 0,.slice none 0 0,.slice none 0 0],.int .u8 0,.int .u8 0,.slice none 0 0],[]⟩).memory Tryz.f4.params.toList Rows.cellWaitsSpec.vars false (#[Value.agg #[.int .i64 0,.int .i64 0,.int .i64 0,.int .i64 0,.slice none 0 0,.slice none 0 0,.slice none 0 0],.int .u8 0,.int .u8 0,.slice none 0 0]:Array Value).toList 8=some ([.agg [.agg [.lit (.int .i64 0),.lit (.int .i64 0),.lit (.int .i64 0),.lit (.int .i64 0)],.nil,.nil,.nil],.lit (.int .u8 0),.lit (.int .u8 0),.nil],[],places) :=
 ⟨[],by kernel_rfl⟩
set_option maxRecDepth 100000 in
theorem lifted (os:Os) (started:os.Started) (H:Type) (enc:TypeId×Value→H) (F:Stop.Interp) :
  ReturnsInHanded {} Tryz.checked os 4 .any ((OpenSpec.ofChange Rows.cellWaitsSpec).preRow enc Tryz.prog Tryz.f4 Rows.cellWaitsRow.domain false Rows.cellWaitsRow.laid) (((OpenSpec.ofChange Rows.cellWaitsSpec).at F).post enc Tryz.prog Tryz.f4 false true false false):=by
 obtain ⟨places,hx⟩:=reads os enc
 refine returnsInHanded_of_row (C:=Tryz.checked) (s:=OpenSpec.ofChange Rows.cellWaitsSpec) own started A0g Tryz.func4
  (witness_row_at (enc:=enc) (C:=Tryz.checked) false (World.laidAll Tryz.prog os Rows.cellWaitsRow.laid) #[Value.agg #[.int .i64 0,.int .i64 0,.int .i64 0,.int .i64 0,.slice none 0 0,.slice none 0 0,.slice none 0 0],.int .u8 0,.int .u8 0,.slice none 0 0] rfl A0g A0g A0g
   (OpenSpec.preRow_of_cond 8 hx A0g (fun k hk=>by cases hk) A0g (laid_met os))) ?_
 intro W base args ds gs before hval hW _ _ _ hL _ _;exact contract H enc W base args ds gs before hval hW hL
theorem closedF:joinedFacts Tryz.pinned.checked.prog 4 Tryz.f4 (OpenSpec.ofChange Rows.cellWaitsSpec).bare Rows.cellWaitsRow=true:=by
 unfold joinedFacts;iterate 20 rw [Bool.and_assoc]
 refine (Bool.and_eq_true _ _).mpr ⟨?_,?_⟩
 ·as_aux_lemma=>kernel_rfl
 ·as_aux_lemma=>kernel_rfl
theorem said:Rows.CellWaitsSaid :=
 OpenClaim.holds_of_cond 4 Tryz.f4 rfl rfl rfl rfl rfl rfl rfl ⟨rfl,rfl,rfl,rfl,rfl⟩ rfl rfl rfl rfl rfl A0g Tryz.func4 closedF
  (of_decide_eq_true A0g) (by unfold Func.isWrapper;first | (rw [qf (by decide +kernel)];kernel_rfl) | (rw [qd (by decide +kernel)];exact ⟨rfl,rfl⟩))
  (fun os started H enc _ F=>by rw [OpenClaim.pre_eq_preRow];exact lifted os started H enc F)
theorem plain (f : FuncId) (fn : Func) (hf : Tryz.pinned.checked.prog.funcNamed "armillary/armillarylaw15.CellWaits" = some f) (hfn : Tryz.pinned.checked.prog.funcs[f]? = some fn) :
  false=Tryz.pinned.checked.prog.looks []∧∀ (j:Nat) t,fn.params[j]? = some t→Tryz.pinned.checked.prog.wantsStandIn t=false:=by
 obtain rfl : f = 4 := qi ((show Tryz.prog.funcNamed "armillary/armillarylaw15.CellWaits" = some 4 by kernel_rfl).symm.trans hf) |>.symm;obtain rfl:fn=Tryz.f4:=(qi (Tryz.func4.symm.trans hfn)).symm;refine ⟨by kernel_rfl,fun j t ht=>?_⟩;have all:(Tryz.f4.params.all fun t=>!(Tryz.prog.wantsStandIn t))=true:=by kernel_rfl
 have:=Array.all_eq_true_iff_forall_mem.1 all t (Array.mem_of_getElem? ht);have h2:Tryz.prog.wantsStandIn t=false:=by simpa using this
 exact h2
theorem card:Rows.CellWaitsCardSaid :=
 Claim7.holds_tied_plain_at .later [] _ _ _ _ said (fun _ h=>by cases h) A0g (fun _ h=>by cases h) cellWaits_row_tie rfl ⟨rfl,rfl⟩ A0g rfl plain A0g
end Go.Proofs.YtaccfepnhmgagaaGreatDoor.cellWaits
