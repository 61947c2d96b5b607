/- Texts that this proof leans on, one behind the other: AppT, ValT, Sort8. -/
import Derived.Test.YtjhefbenmhmbcaaDoorQaz
import Derived.Test.YtjhefbenmhmbcaaDoorQba
import Derived.Shelf.SlIterI.Collect
set_option linter.unusedVariables false
set_option linter.unusedSimpArgs false
set_option maxRecDepth 100000
set_option maxHeartbeats 12800000
namespace Go.Proofs.YtjhefbenmhmbcaaDoor.Kp.ApT
open Go.RowKit Go.Shelf Go.Lib Go.Sort Go.Maps Go.Proofs.YtjhefbenmhmbcaaDoor.Ar Go.Proofs.YtjhefbenmhmbcaaDoor.Mx Go.Proofs.YtjhefbenmhmbcaaDoor.Kp
def enc (x:It):Value:=.agg #[.int .i64 x.k,.int .i64 x.v,.int .i64 x.d]
def assign : Code := Code.region 2 #[{ dst := some 5, op := Op.alloc 26, type := 0, pos := "iter.go:51", after := #[], guard := none }, { dst := none, op := Op.store 26 (Operand.tmp 5) (Operand.tmp 7), type := 0, pos := "iter.go:51", after := #[{ on := 0, ground := Ground.data }, { on := 0, ground := Ground.phase }], guard := none }] false
def body : Code := Code.block 1 (Code.region 3 #[{ dst := some 8, op := Op.load 27 (Operand.tmp 2), type := 27, pos := "iter.go:52", after := #[], guard := none }, { dst := some 9, op := Op.load 26 (Operand.tmp 5), type := 26, pos := "iter.go:52", after := #[], guard := none }, { dst := some 10, op := Op.buildSlice 27 1 #[(0, Operand.tmp 9)], type := 27, pos := "iter.go:52", after := #[{ on := 1, ground := Ground.data }], guard := none }, { dst := some 11, op := Op.call { callee := Callee.builtin Builtin.append, args := #[Operand.tmp 8, Operand.tmp 10], argTypes := #[27, 27] }, type := 27, pos := "iter.go:52", after := #[{ on := 0, ground := Ground.data }, { on := 2, ground := Ground.data }], guard := none }, { dst := none, op := Op.store 27 (Operand.tmp 2) (Operand.tmp 11), type := 0, pos := "iter.go:52", after := #[{ on := 3, ground := Ground.data }, { on := 3, ground := Ground.chain }, { on := 0, ground := Ground.phase }, { on := 1, ground := Ground.phase }, { on := 2, ground := Ground.phase }, { on := 3, ground := Ground.phase }], guard := none }] false)
def rec (fn:FuncId) (sv:Value) (Bs D:Nat) (st:LoopState):Loop :=
 { state:=st,pending:=none,fn,tmps:=#[.slice none 0 0,sv,.pointer (some ⟨Bs,0,none⟩),undef,.slice none 0 0,undef,sv,undef,undef,undef,undef,undef,undef],params:=#[7],assign:=assign,body:=body,defers:=D }
structure At (w0:World) (fn:FuncId) (sv:Value) (Bs l D:Nat) (ss:List It) (W:World):Prop where
 box:∃ v,W.heap[Bs]? = some (.cells #[v] 27 (0,0))∧W.ownsRow w0.heap.size 26 3 v ss.length (ss.flatMap fT)
 lp:W.heap[l]? = some (.loop (rec fn sv Bs D .ready))
 df:W.heap[D]? = some (.deferred (some []))
 below:Below w0.heap.size w0 W
theorem At.abides (w0:World) (fn:FuncId) (sv:Value) (Bs l D B:Nat) (hB:w0.heap.size≤B):AbidesFrom B (At w0 fn sv Bs l D):=fun s W W' row h hg hrow=>by
 have hrow':∀ r,row=some r→∃ o:Obj,W.heap[r]? = some o∧o.isWalk=true:=fun r e=>(hrow r e).2
 obtain ⟨v,hv,hr⟩:=h.box
 exact ⟨⟨v,(grownBy_keeps hg hrow' hv rfl).trans hv,ownsRow_abides_a hr hg hrow'⟩,(grownBy_keeps hg hrow' h.lp rfl).trans h.lp,(grownBy_keeps hg hrow' h.df rfl).trans h.df,
  h.below.grown hg h.below.size (fun k e=>Nat.le_trans hB (hrow k e).1)⟩
theorem ne_es {W:World} {base:Nat} {v:Value} {k:Nat} {xs:List Value} {j:Nat} {u:Value} (h:W.ownsRow base 26 3 v k xs) (hj:W.heap[j]? = some (.cells #[u] 27 (0,0))):v.ownBlock=none∨v.ownBlock≠some j :=
 ownsRow_ne_a h hj (fun cur e=>absurd (Obj.cells.inj e).2.1 (by decide))
theorem ne_lp {W:World} {base:Nat} {v:Value} {k:Nat} {xs:List Value} {j:Nat} {r:Loop} (h:W.ownsRow base 26 3 v k xs) (hj:W.heap[j]? = some (.loop r)):v.ownBlock=none∨v.ownBlock≠some j :=
 ownsRow_ne_a h hj (fun cur e=>by cases e)
theorem ne_df {W:World} {base:Nat} {v:Value} {k:Nat} {xs:List Value} {j:Nat} {r:Option (List Deferred)} (h:W.ownsRow base 26 3 v k xs) (hj:W.heap[j]? = some (.deferred r)):v.ownBlock=none∨v.ownBlock≠some j :=
 ownsRow_ne_a h hj (fun cur e=>by cases e)
theorem some_ne {v:Value} {j:Nat} (h:v.ownBlock=none∨v.ownBlock≠some j):some j≠v.ownBlock:=by
 rcases h with e | e
 ·rw [e];simp
 ·exact fun e'=>e e'.symm
theorem round (m:Nat) (w0:World) (fn:FuncId) (sv:Value) (Bs l D:Nat) (hBl:Bs≠l) (hDl:D≠l) (hDB:D≠Bs) (h0B:w0.heap.size≤Bs) (h0l:w0.heap.size≤l) (ss:List It) (x:It) (W:World) (h:At w0 fn sv Bs l D ss W) (hlen:ss.length<1000) :
  YieldAt Fence.wide m Tryd.prog l #[enc x] W fun e W'=>e = .returned (.bool true)∧At w0 fn sv Bs l D (ss++[x]) W'∧KeepsWalks W W':=by
 obtain ⟨i0,hi,hz0,hz1,hz2⟩:=info_parts itI
 refine ⟨fn,#[.slice none 0 0,sv,.pointer (some ⟨Bs,0,none⟩),undef,.slice none 0 0,undef,sv,enc x,undef,undef,undef,undef,undef],assign,body,by simpa [rec] using run_yield (P:=Tryd.prog) (args:=#[enc x]) h.lp rfl,roundIn_of_wpIn trivial ?_⟩
 obtain ⟨W1,hW1⟩:∃ W1,W.alloc (.cells #[.int .i64 x.k,.int .i64 x.v,.int .i64 x.d] 26)=W1:=⟨_,rfl⟩
 have h1:At w0 fn sv Bs l D ss W1:=by rw [← hW1];exact At.abides w0 fn sv Bs l D w0.heap.size (Nat.le_refl _) ss W _ none h (World.grownBy_alloc W _ none) (fun r e=>by cases e)
 have hk1:KeepsWalks W W1:=by rw [← hW1];exact KeepsWalks.alloc _ _
 have hc1:W1.heap[W.heap.size]? = some (.cells #[.int .i64 x.k,.int .i64 x.v,.int .i64 x.d] 26 (0,0)):=by rw [← hW1];exact Go.heap_alloc_new _ _
 obtain ⟨v,hv,hrow⟩:=h1.box
 have hl:l<W1.heap.size:=(Array.getElem?_eq_some_iff.1 h1.lp).1
 have hbr:=run_beginRound (P:=Tryd.prog) h1.lp rfl
 obtain ⟨W5,hW2⟩:∃ W2,W1.putObj l (.loop { rec fn sv Bs D .ready with state:=.busy })=W2:=⟨_,rfl⟩
 rw [hW2] at hbr
 have hg2:W1.grownBy W5 (some l):=by rw [← hW2];exact grownBy_putObj_a _ _ _
 have hk5:KeepsWalks W W5:=hk1.trans (by rw [← hW2];exact KeepsWalks.putObj _ h1.lp rfl)
 have hv5:W5.heap[Bs]? = some (.cells #[v] 27 (0,0)):=by rw [← hW2];exact (World.putObj_heap_other hBl).trans hv
 have hK5:W5.heap[D]? = some (.deferred (some [])):=by rw [← hW2];exact (World.putObj_heap_other hDl).trans h1.df
 have hL5:W5.heap[l]? = some (.loop { rec fn sv Bs D .ready with state:=.busy }):=by rw [← hW2];exact World.putObj_heap_same hl
 have hrow5:=hrow.kept hg2 (ne_lp hrow h1.lp)
 have hb5:Below w0.heap.size w0 W5:=h1.below.grown hg2 h1.below.size (fun k e=>by cases e;exact h0l)
 have hc5:W5.heap[W.heap.size]? = some (.cells #[.int .i64 x.k,.int .i64 x.v,.int .i64 x.d] 26 (0,0)):=by
  rw [← hW2];exact (World.putObj_heap_other (fun e=>by rw [e,h1.lp] at hc1;cases hc1)).trans hc1
 obtain ⟨c50,c51,c52⟩:=cells3 hc5
 clear hW2
 obtain ⟨hc2,hf2⟩:=cell_of_box_a hv5
 have hBlt:Bs<W5.heap.size:=(Array.getElem?_eq_some_iff.1 hv5).1
 have hl5:l<W5.heap.size:=(Array.getElem?_eq_some_iff.1 hL5).1
 have hDlt:D<W5.heap.size:=(Array.getElem?_eq_some_iff.1 hK5).1
 unfold assign enc
 gi_wp2_with gi_round_op_a
 unfold body
 gi_wp2_with (first
  | (
    gi_at_builtin;refine wpListIn_append_own _ rfl _ _ 27 rfl w0.heap.size 26 i0 _ 3 24 Tryd.underlying27 hi hz0 hz1 hz2 rfl (by decide) _ _ _ rfl (hrow5.alloc _) ⟨W5.heap.size,0,none⟩ 1 1 [.int .i64 x.k,.int .i64 x.v,.int .i64 x.d] rfl rfl (cells_new _ _ _) (by simp [Value.oneCell']) (by unfold maxLen;omega) (by omega) (by have:=hb5.size;simp;omega) ?_;intro v' w3 hown' hg3 hnil3
    have hv3:w3.heap[Bs]? = some (.cells #[v] 27 (0,0)):=(hg3.block Bs (by simp;omega) (some_ne (ne_es hrow5 hv5))).trans ((Below.heap_alloc _ _ Bs hBlt).trans hv5)
    obtain ⟨hc3,hf3⟩:=cell_of_box_a hv3
    obtain ⟨g',cap',cur',rfl,hbase',hgb',hr1,hr2,hr3,hr4⟩:∃ g' cap' cur',v' = .slice (some ⟨g',0,none⟩) (ss.length+1) cap'∧w0.heap.size≤g'∧w3.heap[g']? = some (.cells cur' 26 (0,0))∧ss.length+1≤cap'∧cap'≤maxLen∧cur'.size=cap' * 3∧cur'.toList.take ((ss.length+1) * 3)=ss.flatMap fT++[.int .i64 x.k,.int .i64 x.v,.int .i64 x.d]:=by
     rcases hown'.2 with ⟨_,h0⟩ | h'
     ·exact absurd h0 (by omega)
     ·exact h'
    go_frame)
  | gi_round_op_a)
 have hg3':(W5.alloc (.cells #[.int .i64 x.k,.int .i64 x.v,.int .i64 x.d] 26)).grownBy w3 v.ownBlock:=hg3
 have hL3:w3.heap[l]? = some (.loop { rec fn sv Bs D .ready with state:=.busy }):=(hg3'.block l (by simp;omega) (some_ne (ne_lp hrow5 hL5))).trans ((Below.heap_alloc _ _ l hl5).trans hL5)
 have hK3:w3.heap[D]? = some (.deferred (some [])):=(hg3'.block D (by simp;omega) (some_ne (ne_df hrow5 hK5))).trans ((Below.heap_alloc _ _ D hDlt).trans hK5)
 obtain ⟨w4,hw4⟩:∃ w4,w3.setCell ⟨Bs,0,none⟩ (.slice (some ⟨g',0,none⟩) (ss.length+1) cap')=w4:=⟨_,rfl⟩
 rw [hw4]
 have hg4:w3.grownBy w4 (some Bs):=by rw [← hw4];exact grownBy_setCell0_a _ _ _
 have hv4:w4.heap[Bs]? = some (.cells #[.slice (some ⟨g',0,none⟩) (ss.length+1) cap'] 27 (0,0)):=by rw [← hw4];exact heap_setCell_box_a _ hv3
 have hL4:w4.heap[l]? = some (.loop { rec fn sv Bs D .ready with state:=.busy }):=(hg4.block l (Array.getElem?_eq_some_iff.1 hL3).1 (fun e=>hBl (by cases e;rfl))).trans hL3
 have hK4:w4.heap[D]? = some (.deferred (some [])):=(hg4.block D (Array.getElem?_eq_some_iff.1 hK3).1 (fun e=>hDB (by cases e;rfl))).trans hK3
 have hrow4:=hown'.kept hg4 (ne_es hown' hv3)
 have hl4:l<w4.heap.size:=(Array.getElem?_eq_some_iff.1 hL4).1
 have hb3:Below w0.heap.size w0 w3:=(hb5.alloc hb5.size _).grown hg3' (by have:=hb5.size;simp;omega) (fun k e=>(hrow5.lt k e).1)
 have hb4:Below w0.heap.size w0 w4:=hb3.grown hg4 hb3.size (fun k e=>by cases e;exact h0B)
 have hk4:KeepsWalks W w4:=((hk5.trans (KeepsWalks.alloc _ _)).trans (KeepsWalks.of_grownBy hg3' (ownsRow_not_walk_a (hrow5.alloc _)))).trans (by rw [← hw4];exact KeepsWalks.setCell _ _ _)
 clear hw4
 have hrow6:=hrow4.kept (grownBy_putObj_a w4 l (.loop { { rec fn sv Bs D .ready with state:=.busy } with state:=.ready,pending:=none })) (ne_lp hrow4 hL4)
 refine ⟨_,_,run_endRound none hL4,rfl,⟨⟨_,(World.putObj_heap_other hBl).trans hv4,?_⟩,World.putObj_heap_same hl4,(World.putObj_heap_other hDl).trans hK4,hb4.grown (grownBy_putObj_a _ _ _) hb4.size (fun k e=>by cases e;exact h0l)⟩,hk4.trans (KeepsWalks.putObj _ hL4 rfl)⟩
 rw [List.length_append,List.flatMap_append]
 simpa [fT] using hrow6
theorem appendSeq (n:Nat) (hn:2≤n) (g:Nat) (lb:Array Value) (eg:∀ args w,(callFunc g args).run Tryd.prog w = .ok (.enter g args) w) (S:List It→Prop) (N:Nat) (hN:N≤1000) (w:World) (hseq:Feeds (n - 1) Tryd.prog g lb enc S N w) :
  CallsIn Fence.wide n Tryd.prog 64 #[.slice none 0 0,.func (.func g) #[] lb] w fun e w'=>∃ (v:Value) (ss:List It),e = .returned v∧S ss∧w'.ownsRow w.heap.size 26 3 v ss.length (ss.flatMap fT)∧Below w.heap.size w w':=by
 have h1:1≤n:=by omega
 have hro:Fence.wide.round=none:=rfl
 refine callsIn_of_wp_marks Tryd.func64 rfl trivial ?_ hro
 simp only [Tryd.ntmps64,List.size_toArray,List.length_cons,List.length_nil,Nat.reduceAdd,Nat.reduceSub,Array.replicate_succ,Array.replicate_zero,List.push_toArray,List.append_toArray,List.nil_append,List.cons_append]
 gi_wp2
 refine wpIn_rangeFunc ?_
 intro fn hfn
 rw [hro]
 obtain ⟨W0,hW0⟩:∃ W0,w.alloc (.cells #[.slice none 0 0] 27)=W0:=⟨_,rfl⟩
 have hs0:W0.heap.size=w.heap.size+1:=by rw [← hW0];simp
 have hv0:W0.heap[w.heap.size]? = some (.cells #[.slice none 0 0] 27 (0,0)):=by rw [← hW0];exact World.alloc_heap_new w _
 have hb0:Below w.heap.size w W0:=by rw [← hW0];exact (Below.refl _ w).alloc (Nat.le_refl _) _
 rw [hW0]
 obtain ⟨W1,hW1⟩:∃ W1,(W0.alloc (.deferred (some []))).alloc (.loop (rec fn (.func (.func g) #[] lb) w.heap.size W0.heap.size .ready))=W1:=⟨_,rfl⟩
 have hold:∀ k,k<W0.heap.size→W1.heap[k]? = W0.heap[k]?:=fun k hk=>by
  rw [← hW1];exact (Below.heap_alloc _ _ k (by simp;omega)).trans (Below.heap_alloc _ _ k hk)
 have hb1:Below w.heap.size w W1:=by rw [← hW1];exact (hb0.alloc hb0.size _).alloc (by have:=hb0.size;simp;omega) _
 have hs1:W1.heap.size=W0.heap.size+2:=by rw [← hW1];simp
 have hM:At w fn (.func (.func g) #[] lb) w.heap.size (W0.heap.size+1) W0.heap.size [] W1 :=
  ⟨⟨_,(hold w.heap.size (by omega)).trans hv0,⟨rfl,.inl ⟨rfl,rfl⟩⟩⟩,
   by rw [← hW1];have:=World.alloc_heap_new (W0.alloc (.deferred (some []))) (.loop (rec fn (.func (.func g) #[] lb) w.heap.size W0.heap.size .ready));rwa [World.size_alloc] at this,
   by rw [← hW1];exact (Below.heap_alloc _ _ _ (by simp)).trans (World.alloc_heap_new W0 _),hb1⟩
 refine ⟨W0.heap.size+1,[{ target:=.collected W0.heap.size,args:=#[] }],W1,{ target:=.fn (.func g) lb,args:=#[.func (.yield (W0.heap.size+1)) #[] #[]] },W1,g,
  #[.func (.yield (W0.heap.size+1)) #[] #[]]++lb,W1,?_,?_,?_,?_,fun _=>h1,?_⟩
 ·rw [← hW1];exact run_enterLoop_outer _ _ _ _ _
 ·simp [resolve,go_sem]
 ·intro f' hf';trivial
 ·simp [invoke,go_sem,eg]
 ·refine (hseq (W0.heap.size+1) (At w fn (.func (.func g) #[] lb) w.heap.size (W0.heap.size+1) W0.heap.size) W1 hb1 (At.abides _ _ _ _ _ _ _ hb1.size) (fun xs W h=>h.below)
   (fun pre x W hJ hl=>round (n - 1 - 1) w fn _ w.heap.size (W0.heap.size+1) W0.heap.size (by omega) (by omega) (by omega) (Nat.le_refl _) (by omega) pre x W hJ (by omega)) hM).mono ?_
  rintro e W2 ⟨⟨v0,rfl⟩,ss,hS,h2⟩
  obtain ⟨v,hv,hrow⟩:=h2.box
  have hend:=run_endLoop (P:=Tryd.prog) h2.lp (by simp [rec])
  obtain ⟨W3,hW3⟩:∃ W3,W2.putObj (W0.heap.size+1) (.loop { rec fn (.func (.func g) #[] lb) w.heap.size W0.heap.size .ready with state:=.exhausted })=W3:=⟨_,rfl⟩
  rw [hW3] at hend
  have hg3:W2.grownBy W3 (some (W0.heap.size+1)):=by rw [← hW3];exact grownBy_putObj_a _ _ _
  have hv3:W3.heap[w.heap.size]? = some (.cells #[v] 27 (0,0)):=by rw [← hW3];exact (World.putObj_heap_other (by omega)).trans hv
  have hK3:W3.heap[W0.heap.size]? = some (.deferred (some [])):=by rw [← hW3];exact (World.putObj_heap_other (by omega)).trans h2.df
  have hrow3:=hrow.kept hg3 (ne_lp hrow h2.lp)
  have hb3:Below w.heap.size w W3:=h2.below.grown hg3 h2.below.size (fun k e=>by cases e;omega)
  obtain ⟨hc3,hf3⟩:=cell_of_box_a hv3
  clear hW3
  refine ⟨none,W3,hend,?_⟩
  gi_wp2
  rw [← hs0]
  refine ⟨by simp,.inl ⟨_,_,rfl,run_takeDeferred hK3,?_⟩⟩
  exact ⟨_,results_tmp rfl _ _ _,v,ss,rfl,hS,hrow3.kept (grownBy_putObj_a _ _ _) (ne_df hrow3 hK3),hb3.grown (grownBy_putObj_a _ _ _) hb3.size (fun k e=>by cases e;omega)⟩
theorem collect (n:Nat) (hn:3≤n) (g:Nat) (lb:Array Value) (eg:∀ args w,(callFunc g args).run Tryd.prog w = .ok (.enter g args) w) (S:List It→Prop) (N:Nat) (hN:N≤1000) (w:World) (hseq:Feeds (n - 1 - 1) Tryd.prog g lb enc S N w) :
  CallsIn Fence.wide n Tryd.prog 57 #[.func (.func g) #[] lb] w fun e w'=>∃ (v:Value) (ss:List It),e = .returned v∧S ss∧w'.ownsRow w.heap.size 26 3 v ss.length (ss.flatMap fT)∧Below w.heap.size w w':=by
 have h1:1≤n:=by omega
 have eA:∀ args w,(callFunc 64 args).run Tryd.prog w = .ok (.enter 64 args) w:=enters_of Tryd.func64 (by kernel_rfl) rfl
 have hF:Fence.wide.fn 64:=trivial
 refine callsIn_of_wp Tryd.func57 rfl trivial ?_ rfl
 simp only [Tryd.ntmps57,List.size_toArray,List.length_cons,List.length_nil,Nat.reduceAdd,Nat.reduceSub,Array.replicate_succ,Array.replicate_zero,List.push_toArray,List.append_toArray,List.nil_append,List.cons_append]
 gi_wp2_with (gi_at_fn 64;refine (appendSeq (n - 1) (by omega) g lb eg S N hN _ hseq).mono ?_;rintro e w' ⟨v,ss,rfl,hS,hrow,hb⟩)
 go_ret
 exact ⟨v,ss,rfl,hS,hrow,hb⟩
theorem fr_of {w w':World} (h:Below w.heap.size w w'):Fr [] w w':=⟨h.os,h.tape,h.output,h.size,fun k hk _=>h.block k hk⟩
end Go.Proofs.YtjhefbenmhmbcaaDoor.Kp.ApT
namespace Go.Proofs.YtjhefbenmhmbcaaDoor.Kp
open Go.RowKit Go.Shelf Go.Lib Go.Sort Go.Maps Go.Proofs.YtjhefbenmhmbcaaDoor.Ar Go.Proofs.YtjhefbenmhmbcaaDoor.Mx
theorem get_flat (xs:List It):∀ (i c:Nat) (x:It),xs[i]? = some x→c<3→(xs.flatMap fT)[i * 3+c]? = (fT x)[c]?:=fun i c x hx hc=>fT_lays.at hx hc
theorem holds_row {w:World} {b:Nat} {cur:Array Value} {T:TypeId} {xs:List It} (hb:w.heap[b]? = some (.cells cur T (0,0))) (ht:cur.toList.take (xs.length * 3)=xs.flatMap fT):HoldsK fT 3 w b 0 xs.toArray:=by
 intro t ht2
 simp only [size_flatK,List.size_toArray] at ht2
 have hlen:=fT_lays.flat xs
 obtain ⟨x,hx⟩:∃ x,xs[t / 3]? = some x:=⟨xs[t / 3]'(by omega),List.getElem?_eq_getElem _⟩
 have h1:=get_flat xs (t / 3) (t % 3) x hx (Nat.mod_lt _ (by omega))
 rw [show t / 3 * 3+t % 3=t by omega] at h1
 have h2:cur.toList[t]? = (fT x)[t % 3]?:=by
  rw [← h1,← ht,List.getElem?_take,if_pos ht2]
 have h3:(flatK fT 3 xs.toArray)[t]! = (fT x)[t % 3]!:=by
  rw [get_flatK _ _ _ _ (by simpa using ht2)]
  congr 1
  simp [hx]
 have h4:(fT x)[t % 3]? = some ((fT x)[t % 3]!):=by
  have:t % 3<(fT x).length:=by show _<3;omega
  simp [this]
 rw [h3]
 simp only [Nat.zero_add,id]
 constructor
 ·unfold World.cell?
  rw [hb]
  have:=h2.trans h4
  simp at this ⊢
  exact this
 ·unfold World.frozen?
  rw [hb]
  simp
theorem flat_flatK (d:Array It):(flatK fT 3 d).toList=d.toList.flatMap fT:=by
 have hlen:=fT_lays.flat d.toList
 apply List.ext_getElem?
 intro t
 by_cases ht:t<d.size * 3
 ·obtain ⟨x,hx⟩:∃ x,d.toList[t / 3]? = some x:=⟨d.toList[t / 3]'(by simp;omega),List.getElem?_eq_getElem _⟩
  have h1:=get_flat d.toList (t / 3) (t % 3) x hx (Nat.mod_lt _ (by omega))
  rw [show t / 3 * 3+t % 3=t by omega] at h1
  rw [h1,Array.getElem?_toList]
  have h3:(flatK fT 3 d)[t]! = (fT x)[t % 3]!:=by
   rw [get_flatK _ _ _ _ ht]
   rw [Array.getElem?_toList] at hx
   have hx2:d[t / 3]! = x:=by rw [getElem!_def,hx]
   rw [hx2]
  have h4:(fT x)[t % 3]? = some ((fT x)[t % 3]!):=by
   have:t % 3<(fT x).length:=by show _<3;omega
   simp [this]
  rw [h4,← h3]
  have hz:t<(flatK fT 3 d).size:=by simpa using ht
  rw [getElem!_pos _ t hz]
  exact Array.getElem?_eq_getElem hz
 ·rw [List.getElem?_eq_none (by simp;omega),List.getElem?_eq_none (by rw [hlen];simp;omega)]
theorem own_swk {w0 w':World} {base b cap:Nat} {cur:Array Value} {E:TypeId} {n:Nat} {d':Array It} (hbase:base≤b) (hb:w0.heap[b]? = some (.cells cur E (0,0))) (h1:n≤cap) (h2:cap≤maxLen) (h3:cur.size=cap * 3) (S:SWK fT 3 w0 b 0 d' w') (hs:d'.size=n) :
  w'.ownsRow base E 3 (.slice (some ⟨b,0,none⟩) n cap) n (d'.toList.flatMap fT)∧Fr [b] w0 w':=by
 obtain ⟨m,os,rfl⟩:=S
 have hg:b<w0.heap.size:=(Array.getElem?_eq_some_iff.1 hb).1
 refine ⟨⟨by rw [fT_lays.flat];simp [hs],.inr ⟨b,cap,putCells id 0 (flatK fT 3 d') cur,rfl,hbase,?_,h1,h2,by simp [putCells,h3],?_⟩⟩,?_⟩
 ·unfold sortWorldK putRowK
  rw [heap_grow_old _ _ (by simpa using hg)]
  simp [putRow,mapBlock,Sort.ahead,Array.getElem?_modify,hb,onCells]
 ·rw [← flat_flatK]
  have hz:(flatK fT 3 d').size=n * 3:=by simp [hs]
  generalize flatK fT 3 d'=F at *
  have hcap:n * 3≤cur.size:=by omega
  apply List.ext_getElem?
  intro j
  by_cases hj:j<n * 3
  ·rw [List.getElem?_take_of_lt hj,Array.getElem?_toList,Array.getElem?_toList]
   simp [putCells,hz,hj,show j<cur.size by omega]
  ·rw [List.getElem?_take_eq_none (by omega),List.getElem?_eq_none (by simp [hz];omega)]
 ·unfold sortWorldK putRowK
  refine ⟨rfl,rfl,rfl,by simp,fun k hk hne=>?_⟩
  rw [heap_grow_old _ _ (by simpa using hk)]
  have:b≠k:=fun e=>hne (by rw [e];simp)
  simp [putRow,mapBlock,Sort.ahead,Array.getElem?_modify,this]
theorem rowK_of {w:World} {b:Nat} {cur:Array Value} {T:TypeId} {xs:List It} (hb:w.heap[b]? = some (.cells cur T (0,0))) (ht:cur.toList.take (xs.length * 3)=xs.flatMap fT):RowK fT 3 w b 0 xs.toArray :=
 ⟨fun _=>rfl,fun x u hu=>fT_lays.one x u hu,holds_row hb ht,(Array.getElem?_eq_some_iff.1 hb).1⟩
theorem own_lt {w:World} {B sz n:Nat} {E:TypeId} {v:Value} {cs:List Value} (h:w.ownsRow B E sz v n cs):∀ i,i∈v.ownBlock.toList→B≤i:=by
 intro i hi
 rcases h.2 with ⟨rfl,_⟩ | ⟨g,cap,cur,rfl,hb,_⟩
 ·simp [Value.ownBlock] at hi
 ·simp [Value.ownBlock] at hi;omega
end Go.Proofs.YtjhefbenmhmbcaaDoor.Kp
