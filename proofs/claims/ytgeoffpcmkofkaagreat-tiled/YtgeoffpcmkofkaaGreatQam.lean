/- Ri; Rj; Rk; Rl; Rm: texts laid into one. -/
import Derived.Test.YtgeoffpcmkofkaaGreatQal
import Derived.RangeFuncBound
import Derived.Deep.LoopGhost
/- Collecting what an iterator over a map's sides gives: 'AppendSeq' and 'Collect' of package slices. -/
namespace Go.Proofs.YtgeoffpcmkofkaaGreat
open Go.RowKit Go.Maps Fl
set_option maxRecDepth 100000

def apAssign : Code := Code.region 2 #[{ dst := some 5, op := Op.alloc 65, type := 0, pos := "iter.go:51", after := #[], guard := none }, { dst := none, op := Op.store 65 (Operand.tmp 5) (Operand.tmp 7), type := 0, pos := "iter.go:51", after := #[{ on := 0, ground := Ground.data }, { on := 0, ground := Ground.phase }], guard := none }] false
def apBody : Code := Code.block 1 (Code.region 3 #[{ dst := some 8, op := Op.load 62 (Operand.tmp 2), type := 62, pos := "iter.go:52", after := #[], guard := none }, { dst := some 9, op := Op.load 65 (Operand.tmp 5), type := 65, pos := "iter.go:52", after := #[], guard := none }, { dst := some 10, op := Op.buildSlice 62 1 #[(0, Operand.tmp 9)], type := 62, pos := "iter.go:52", after := #[{ on := 1, ground := Ground.data }], guard := none }, { dst := some 11, op := Op.call { callee := Callee.builtin Builtin.append, args := #[Operand.tmp 8, Operand.tmp 10], argTypes := #[62, 62] }, type := 62, pos := "iter.go:52", after := #[{ on := 0, ground := Ground.data }, { on := 2, ground := Ground.data }], guard := none }, { dst := none, op := Op.store 62 (Operand.tmp 2) (Operand.tmp 11), type := 0, pos := "iter.go:52", after := #[{ on := 3, ground := Ground.data }, { on := 3, ground := Ground.chain }, { on := 0, ground := Ground.phase }, { on := 1, ground := Ground.phase }, { on := 2, ground := Ground.phase }, { on := 3, ground := Ground.phase }], guard := none }] false)
/-- The loop's record: 's' boxed in block Bs; sv: the iterator's value. -/
def apRec (fn : FuncId) (sv : Value) (Bs D : Nat) (st : LoopState) (pend : Option Code) : Loop :=
  { state := st, pending := pend, fn, tmps := #[.slice none 0 0, sv, .pointer (some ⟨Bs, 0, none⟩), undef, .slice none 0 0, undef, sv, undef, undef, undef, undef, undef, undef], params := #[7], assign := apAssign, body := apBody, defers := D }

/-- Between two rounds. -/
structure ApAt (w0 : World) (fn : FuncId) (sv : Value) (Bs l D : Nat) (ss : List Ed) (W : World) : Prop where
  box : ∃ v, W.heap[Bs]? = some (.cells #[v] 62 (0, 0)) ∧ OwnE W w0.heap.size v ss ∧ (v = .slice none 0 0 ↔ ss = [])
  L : W.heap[l]? = some (.loop (apRec fn sv Bs D .ready none))
  K : W.heap[D]? = some (.deferred (some []))
  below : Below w0.heap.size w0 W

theorem ap_abides (w0 : World) (fn : FuncId) (sv : Value) (Bs l D B : Nat) (hB : w0.heap.size ≤ B) : AbidesFrom B (ApAt w0 fn sv Bs l D) := fun s W W' row h hg hrow => by
  have hrow' : ∀ r, row = some r → ∃ o : Obj, W.heap[r]? = some o ∧ o.isWalk = true := fun r e => (hrow r e).2
  obtain ⟨v, hv, hr, hn⟩ := h.box
  exact ⟨⟨v, (grownBy_keeps hg hrow' hv rfl).trans hv, ownsRow_abides_a hr hg hrow', hn⟩, (grownBy_keeps hg hrow' h.L rfl).trans h.L, (grownBy_keeps hg hrow' h.K rfl).trans h.K,
    h.below.grown hg h.below.size (fun k e => Nat.le_trans hB (hrow k e).1)⟩

set_option maxHeartbeats 2000000 in
theorem apYield (m : Nat) (w0 : World) (fn : FuncId) (sv : Value) (Bs l D : Nat) (hBl : Bs ≠ l) (hDl : D ≠ l) (hDB : D ≠ Bs) (h0B : w0.heap.size ≤ Bs) (h0l : w0.heap.size ≤ l)
    (N : Nat) (hN : N ≤ 1000000) (ss : List Ed) (x : Ed) (W : World) (h : ApAt w0 fn sv Bs l D ss W) (hlen : ss.length < N) :
    YieldAt Fence.wide m Tryz.prog l #[edV x] W fun e W' => e = .returned (.bool true) ∧ ApAt w0 fn sv Bs l D (ss ++ [x]) W' ∧ KeepsWalks W W' := by
  obtain ⟨i0, hi, hz0, hz1, hz2⟩ := info_parts Tryz.info65
  obtain ⟨v, hv, hrow, _⟩ := h.box
  refine ⟨fn, #[.slice none 0 0, sv, .pointer (some ⟨Bs, 0, none⟩), undef, .slice none 0 0, undef, sv, edV x, undef, undef, undef, undef, undef], apAssign, apBody, by simpa [apRec] using run_yield (P := Tryz.prog) (args := #[edV x]) h.L rfl, roundIn_of_wpIn trivial ?_⟩
  obtain ⟨⟨ex, ey⟩, fx, fy⟩ := x
  simp only [edV]
  have hl : l < W.heap.size := (Array.getElem?_eq_some_iff.1 h.L).1
  have hBs : Bs < W.heap.size := (Array.getElem?_eq_some_iff.1 hv).1
  have hD : D < W.heap.size := (Array.getElem?_eq_some_iff.1 h.K).1
  obtain ⟨W1, hW1⟩ : ∃ W1, W.alloc (.cells #[.int .i64 ex, .int .i64 ey, .int .i64 fx, .int .i64 fy] 65) = W1 := ⟨_, rfl⟩
  have hL1 : W1.heap[l]? = some (.loop (apRec fn sv Bs D .ready none)) := by rw [← hW1]; exact (Below.heap_alloc _ _ l hl).trans h.L
  have hg1 : W.grownBy W1 none := by rw [← hW1]; exact World.grownBy_alloc _ _ _
  have hv1 : W1.heap[Bs]? = some (.cells #[v] 62 (0, 0)) := by rw [← hW1]; exact (Below.heap_alloc _ _ _ hBs).trans hv
  have hK1 : W1.heap[D]? = some (.deferred (some [])) := by rw [← hW1]; exact (Below.heap_alloc _ _ _ hD).trans h.K
  have hx1 : W1.heap[W.heap.size]? = some (.cells #[.int .i64 ex, .int .i64 ey, .int .i64 fx, .int .i64 fy] 65 (0, 0)) := by rw [← hW1]; exact heap_alloc_new W _
  have hrow1 : OwnE W1 w0.heap.size v ss := hrow.new hg1
  have hb1 : Below w0.heap.size w0 W1 := by rw [← hW1]; exact h.below.alloc h.below.size _
  have hk1 : KeepsWalks W W1 := by rw [← hW1]; exact KeepsWalks.alloc _ _
  have hl1 : l < W1.heap.size := (Array.getElem?_eq_some_iff.1 hL1).1
  have hbr := run_beginRound (P := Tryz.prog) hL1 rfl
  obtain ⟨W2, hW2⟩ : ∃ W2, W1.putObj l (.loop { apRec fn sv Bs D .ready none with state := .busy }) = W2 := ⟨_, rfl⟩
  rw [hW2] at hbr
  have hg2 : W1.grownBy W2 (some l) := by rw [← hW2]; exact grownBy_putObj_a _ _ _
  have hk2 : KeepsWalks W W2 := hk1.trans (by rw [← hW2]; exact KeepsWalks.putObj _ hL1 rfl)
  have hv2 : W2.heap[Bs]? = some (.cells #[v] 62 (0, 0)) := by rw [← hW2]; exact (World.putObj_heap_other hBl).trans hv1
  have hK2 : W2.heap[D]? = some (.deferred (some [])) := by rw [← hW2]; exact (World.putObj_heap_other hDl).trans hK1
  have hx2 : W2.heap[W.heap.size]? = some (.cells #[.int .i64 ex, .int .i64 ey, .int .i64 fx, .int .i64 fy] 65 (0, 0)) := by rw [← hW2]; exact (World.putObj_heap_other (by omega)).trans hx1
  have hL2 : W2.heap[l]? = some (.loop { apRec fn sv Bs D .ready none with state := .busy }) := by rw [← hW2]; exact World.putObj_heap_same hl1
  have hrow2 : OwnE W2 w0.heap.size v ss := World.ownsRow.kept hrow1 hg2 (ownsRow_ne_a hrow1 hL1 (fun cur e => by cases e))
  have hb2 : Below w0.heap.size w0 W2 := hb1.grown hg2 hb1.size (fun k e => by cases e; exact h0l)
  obtain ⟨hc2, hf2⟩ := cell_of_box_a hv2
  have y0 : W2.cell? ⟨W.heap.size, 0, none⟩ = some (.int .i64 ex) := by simp [World.cell?, hx2]
  have y1 : W2.cell? ⟨W.heap.size, 1, none⟩ = some (.int .i64 ey) := by simp [World.cell?, hx2]
  have y2 : W2.cell? ⟨W.heap.size, 2, none⟩ = some (.int .i64 fx) := by simp [World.cell?, hx2]
  have y3 : W2.cell? ⟨W.heap.size, 3, none⟩ = some (.int .i64 fy) := by simp [World.cell?, hx2]
  have hBlt : Bs < W2.heap.size := (Array.getElem?_eq_some_iff.1 hv2).1
  have hl2 : l < W2.heap.size := (Array.getElem?_eq_some_iff.1 hL2).1
  have hDlt : D < W2.heap.size := (Array.getElem?_eq_some_iff.1 hK2).1
  have ne_of : ∀ {j : Nat} {o : Obj}, W2.heap[j]? = some o → (∀ cur, o ≠ .cells cur 65 (0, 0)) → some j ≠ v.ownBlock := fun hj hno => by
    rcases ownsRow_ne_a hrow2 hj hno with e | e
    · rw [e]; simp
    · exact fun e' => e e'.symm
  clear hW2
  unfold apAssign
  gi_wp2_with gi_round_op_a
  clear hW1 hx2
  unfold apBody
  gi_wp2_with (first
    | (gi_at_builtin; refine wpListIn_append_own _ rfl _ _ 62 rfl w0.heap.size 65 i0 (.agg #[.int .i64 0, .int .i64 0, .int .i64 0, .int .i64 0]) 4 32 Tryz.underlying62 hi hz0 hz1 hz2 rfl (by decide) _ _ _ rfl (World.ownsRow.alloc hrow2 _) ⟨W2.heap.size, 0, none⟩ 1 1 [.int .i64 ex, .int .i64 ey, .int .i64 fx, .int .i64 fy] rfl rfl (World.news_of_block (cs := #[.int .i64 ex, .int .i64 ey, .int .i64 fx, .int .i64 fy]) (t := 65) (fr := (0, 0)) (heap_alloc_new W2 _)) (by simp [Value.oneCell']) (by unfold maxLen; omega) (by omega) (by have := hb2.size; simp; omega) ?_; intro v' w3 hown' hg3 hnil3
       have hv3 : w3.heap[Bs]? = some (.cells #[v] 62 (0, 0)) := (hg3.block Bs (by simp; omega) (ne_of hv2 (fun cur e => by have := (Obj.cells.inj e).2.1; simp at this))).trans ((Below.heap_alloc _ _ Bs hBlt).trans hv2)
       obtain ⟨hc3, hf3⟩ := cell_of_box_a hv3
       obtain ⟨g', cap', cur', rfl, hbase', hgb', hr1, hr2, hr3, hr4⟩ : ∃ g' cap' cur', v' = .slice (some ⟨g', 0, none⟩) (ss.length + 1) cap' ∧ w0.heap.size ≤ g' ∧ w3.heap[g']? = some (.cells cur' 65 (0, 0)) ∧ ss.length + 1 ≤ cap' ∧ cap' ≤ maxLen ∧ cur'.size = cap' * 4 ∧ cur'.toList.take ((ss.length + 1) * 4) = ss.flatMap encE ++ [.int .i64 ex, .int .i64 ey, .int .i64 fx, .int .i64 fy] := by
         rcases hown'.2 with ⟨_, h0⟩ | h'
         · exact absurd h0 (by omega)
         · exact h'
       go_frame)
    | gi_round_op_a)
  have hg3' : (W2.alloc (.cells #[.int .i64 ex, .int .i64 ey, .int .i64 fx, .int .i64 fy] 65)).grownBy w3 v.ownBlock := hg3
  have hL3 : w3.heap[l]? = some (.loop { apRec fn sv Bs D .ready none with state := .busy }) := (hg3'.block l (by simp; omega) (ne_of hL2 (fun cur e => by cases e))).trans ((Below.heap_alloc _ _ l hl2).trans hL2)
  have hK3 : w3.heap[D]? = some (.deferred (some [])) := (hg3'.block D (by simp; omega) (ne_of hK2 (fun cur e => by cases e))).trans ((Below.heap_alloc _ _ D hDlt).trans hK2)
  obtain ⟨w4, hw4⟩ : ∃ w4, w3.setCell ⟨Bs, 0, none⟩ (.slice (some ⟨g', 0, none⟩) (ss.length + 1) cap') = w4 := ⟨_, rfl⟩
  rw [hw4]
  have hg4 : w3.grownBy w4 (some Bs) := by rw [← hw4]; exact grownBy_setCell0_a _ _ _
  have hv4 : w4.heap[Bs]? = some (.cells #[.slice (some ⟨g', 0, none⟩) (ss.length + 1) cap'] 62 (0, 0)) := by rw [← hw4]; exact heap_setCell_box_a _ hv3
  have hL4 : w4.heap[l]? = some (.loop { apRec fn sv Bs D .ready none with state := .busy }) := (hg4.block l (Array.getElem?_eq_some_iff.1 hL3).1 (fun e => hBl (by cases e; rfl))).trans hL3
  have hK4 : w4.heap[D]? = some (.deferred (some [])) := (hg4.block D (Array.getElem?_eq_some_iff.1 hK3).1 (fun e => hDB (by cases e; rfl))).trans hK3
  have hrow4 := hown'.kept hg4 (ownsRow_ne_a hown' hv3 (fun cur e => by have := (Obj.cells.inj e).2.1; simp at this))
  have hl4 : l < w4.heap.size := (Array.getElem?_eq_some_iff.1 hL4).1
  have hb3 : Below w0.heap.size w0 w3 := (hb2.alloc hb2.size _).grown hg3' (by have := hb2.size; simp; omega) (fun k e => (World.ownsRow.lt hrow2 k e).1)
  have hb4 : Below w0.heap.size w0 w4 := hb3.grown hg4 hb3.size (fun k e => by cases e; exact h0B)
  have hk4 : KeepsWalks W w4 := ((hk2.trans (KeepsWalks.alloc _ _)).trans (KeepsWalks.of_grownBy hg3' (ownsRow_not_walk_a (World.ownsRow.alloc hrow2 _)))).trans (by rw [← hw4]; exact KeepsWalks.setCell _ _ _)
  clear hw4
  refine ⟨_, _, run_endRound none hL4, rfl, ⟨⟨_, (World.putObj_heap_other hBl).trans hv4, ?_, by simp⟩, World.putObj_heap_same hl4, (World.putObj_heap_other hDl).trans hK4, hb4.grown (grownBy_putObj_a _ _ _) hb4.size (fun k e => by cases e; exact h0l)⟩, hk4.trans (KeepsWalks.putObj _ hL4 rfl)⟩
  have := hrow4.kept (grownBy_putObj_a w4 l (.loop { { apRec fn sv Bs D .ready none with state := .busy } with state := if (none : Option Code).isNone then .ready else .done, pending := none })) (ownsRow_ne_a hrow4 hL4 (fun cur e => by cases e))
  unfold OwnE
  rw [List.length_append, List.flatMap_append]
  simpa [encE] using this

set_option maxHeartbeats 2000000 in
theorem appendSeq_in (n : Nat) (hn : 2 ≤ n) (g : Nat) (lb : Array Value) (eg : ∀ args w, (callFunc g args).run Tryz.prog w = .ok (.enter g args) w)
    (S : List Ed → Prop) (N : Nat) (hN : N ≤ 1000000) (w : World) (hseq : SeqGives Fence.wide (n - 1) Tryz.prog g lb edV S N w) :
    CallsIn Fence.wide n Tryz.prog 89 #[.slice none 0 0, .func (.func g) #[] lb] w fun e w' => ∃ (v : Value) (ss : List Ed), e = .returned v ∧ S ss ∧ OwnE w' w.heap.size v ss ∧ Below w.heap.size w w' := by
  have h1 : 1 ≤ n := by omega
  refine callsIn_of_wp_marks Tryz.func89 rfl trivial ?_ rfl
  simp only [Tryz.ntmps89, List.size_toArray, List.length_cons, List.length_nil, Nat.reduceAdd, Nat.reduceSub, Array.replicate_succ, Array.replicate_zero, List.push_toArray, List.append_toArray, List.nil_append, List.cons_append]
  gi_wp2
  refine wpIn_rangeFunc ?_
  intro fn hfn
  rw [show Fence.wide.round = none from rfl]
  obtain ⟨W0, hW0⟩ : ∃ W0, w.alloc (.cells #[.slice none 0 0] 62) = W0 := ⟨_, rfl⟩
  have hs0 : W0.heap.size = w.heap.size + 1 := by rw [← hW0]; simp
  have hv0 : W0.heap[w.heap.size]? = some (.cells #[.slice none 0 0] 62 (0, 0)) := by rw [← hW0]; exact World.alloc_heap_new w _
  have hb0 : Below w.heap.size w W0 := by rw [← hW0]; exact (Below.refl _ w).alloc (Nat.le_refl _) _
  rw [hW0]
  obtain ⟨W1, hW1⟩ : ∃ W1, (W0.alloc (.deferred (some []))).alloc (.loop (apRec fn (.func (.func g) #[] lb) w.heap.size W0.heap.size .ready none)) = W1 := ⟨_, rfl⟩
  have hold : ∀ k, k < W0.heap.size → W1.heap[k]? = W0.heap[k]? := fun k hk => by
    rw [← hW1]; exact (Below.heap_alloc _ _ k (by simp; omega)).trans (Below.heap_alloc _ _ k hk)
  have hb1 : Below w.heap.size w W1 := by rw [← hW1]; exact (hb0.alloc hb0.size _).alloc (by have := hb0.size; simp; omega) _
  have hs1 : W1.heap.size = W0.heap.size + 2 := by rw [← hW1]; simp
  have hM : ApAt w fn (.func (.func g) #[] lb) w.heap.size (W0.heap.size + 1) W0.heap.size [] W1 :=
    ⟨⟨_, (hold w.heap.size (by omega)).trans hv0, ⟨rfl, .inl ⟨rfl, rfl⟩⟩, by simp⟩,
     by rw [← hW1]; have := World.alloc_heap_new (W0.alloc (.deferred (some []))) (.loop (apRec fn (.func (.func g) #[] lb) w.heap.size W0.heap.size .ready none)); rwa [World.size_alloc] at this,
     by rw [← hW1]; exact (Below.heap_alloc _ _ _ (by simp)).trans (World.alloc_heap_new W0 _), hb1⟩
  refine ⟨W0.heap.size + 1, [{ target := .collected W0.heap.size, args := #[] }], W1, { target := .fn (.func g) lb, args := #[.func (.yield (W0.heap.size + 1)) #[] #[]] }, W1, g,
    #[.func (.yield (W0.heap.size + 1)) #[] #[]] ++ lb, W1, ?_, ?_, ?_, ?_, fun _ => h1, ?_⟩
  · rw [← hW1]; exact run_enterLoop_outer _ _ _ _ _
  · simp [resolve, go_sem]
  · intro f' hf'; trivial
  · simp [invoke, go_sem, eg]
  · refine (hseq (W0.heap.size + 1) (ApAt w fn (.func (.func g) #[] lb) w.heap.size (W0.heap.size + 1) W0.heap.size) W1 hb1 (ap_abides _ _ _ _ _ _ _ hb1.size)
      (fun pre x W hJ hl => apYield (n - 1 - 1) w fn _ w.heap.size (W0.heap.size + 1) W0.heap.size (by omega) (by omega) (by omega) (Nat.le_refl _) (by omega) N hN pre x W hJ hl) hM).mono ?_
    rintro e W2 ⟨⟨v0, rfl⟩, ss, hS, h2⟩
    obtain ⟨v, hv, hrow, hnil⟩ := h2.box
    have hend := run_endLoop (P := Tryz.prog) h2.L (by simp [apRec])
    obtain ⟨W3, hW3⟩ : ∃ W3, W2.putObj (W0.heap.size + 1) (.loop { apRec fn (.func (.func g) #[] lb) w.heap.size W0.heap.size .ready none with state := .exhausted }) = W3 := ⟨_, rfl⟩
    rw [hW3] at hend
    have hg3 : W2.grownBy W3 (some (W0.heap.size + 1)) := by rw [← hW3]; exact grownBy_putObj_a _ _ _
    have hv3 : W3.heap[w.heap.size]? = some (.cells #[v] 62 (0, 0)) := by rw [← hW3]; exact (World.putObj_heap_other (by omega)).trans hv
    have hK3 : W3.heap[W0.heap.size]? = some (.deferred (some [])) := by rw [← hW3]; exact (World.putObj_heap_other (by omega)).trans h2.K
    have hrow3 := World.ownsRow.kept hrow hg3 (ownsRow_ne_a hrow h2.L (fun cur e => by cases e))
    have hb3 : Below w.heap.size w W3 := h2.below.grown hg3 h2.below.size (fun k e => by cases e; omega)
    obtain ⟨hc3, hf3⟩ := cell_of_box_a hv3
    clear hW3
    refine ⟨none, W3, hend, ?_⟩
    gi_wp2
    rw [← hs0]
    refine ⟨by simp, .inl ⟨_, _, rfl, run_takeDeferred hK3, ?_⟩⟩
    exact ⟨_, results_tmp rfl _ _ _, v, ss, rfl, hS, hrow3.kept (grownBy_putObj_a _ _ _) (ownsRow_ne_a hrow3 hK3 (fun cur e => by cases e)), hb3.grown (grownBy_putObj_a _ _ _) hb3.size (fun k e => by cases e; omega)⟩

set_option maxHeartbeats 1000000 in
theorem collect_in (n : Nat) (hn : 3 ≤ n) (g : Nat) (lb : Array Value) (eg : ∀ args w, (callFunc g args).run Tryz.prog w = .ok (.enter g args) w)
    (S : List Ed → Prop) (N : Nat) (hN : N ≤ 1000000) (w : World) (hseq : SeqGives Fence.wide (n - 1 - 1) Tryz.prog g lb edV S N w) :
    CallsIn Fence.wide n Tryz.prog 68 #[.func (.func g) #[] lb] w fun e w' => ∃ (v : Value) (ss : List Ed), e = .returned v ∧ S ss ∧ OwnE w' w.heap.size v ss ∧ Below w.heap.size w w' := by
  have h1 : 1 ≤ n := by omega
  have e89 : ∀ args w, (callFunc 89 args).run Tryz.prog w = .ok (.enter 89 args) w := enters_of Tryz.func89 (by kernel_rfl) rfl
  refine callsIn_of_wp Tryz.func68 rfl trivial ?_ rfl
  simp only [Tryz.ntmps68, List.size_toArray, List.length_cons, List.length_nil, Nat.reduceAdd, Nat.reduceSub, Array.replicate_succ, Array.replicate_zero, List.push_toArray, List.append_toArray, List.nil_append, List.cons_append]
  gi_wp2
  refine ⟨trivial, (appendSeq_in (n - 1) (by omega) g lb eg S N hN _ hseq).mono ?_⟩
  rintro e w' ⟨v, ss, rfl, hS, hrow, hb⟩
  gi_wp2
  go_ret
  exact ⟨v, ss, rfl, hS, hrow, hb⟩

/-- What the map's iterator gives. -/
theorem keys_gives (rm : Nat) (hrm : 1 ≤ rm) (Bm b n : Nat) (m : Ms) (PS : List Ed) (hPS : ∀ e, (m e).isSome = true → e ∈ PS) (w : World) (hBm : Bm < w.heap.size)
    (hm : w.cell? ⟨Bm, 0, none⟩ = some (.map (some b))) (hown : MapE w b n m) :
    SeqGives Fence.wide rm Tryz.prog 70 #[.pointer (some ⟨Bm, 0, none⟩)] edV (fun L => L.Nodup ∧ ∀ e, e ∈ L ↔ (m e).isSome = true) PS.length w := fun l J W hW hJ hY h0 => by
  have hown' : MapE W b n m := by
    obtain ⟨D, h1, h2⟩ := hown
    have hbl := h1.lt
    obtain ⟨es, clock, hb, Ft, hs, hD⟩ := h1
    exact ⟨D, ⟨es, clock, (hW.block b hbl).trans hb, Ft, hs, hD⟩, h2⟩
  refine (keysE_in rm hrm l Bm b n m PS hPS J hY W hJ ((hW.cell (p := ⟨Bm, 0, none⟩) hBm).trans hm) hown' h0).mono ?_
  rintro e W' ⟨hv, L, h1, h2, h3⟩
  exact ⟨hv, L, ⟨h1, h2⟩, h3⟩

end Go.Proofs.YtgeoffpcmkofkaaGreat
/- 'Keys' of package maps, 'SortedFunc' of package slices: a map's sides in their order. -/
namespace Go.Proofs.YtgeoffpcmkofkaaGreat
open Go.RowKit Go.Maps Fl
set_option maxRecDepth 100000
attribute [local go_sem ↓] Go.wp_at_zero Go.wp_at_succ

/-- A mesh's sides, each once, in their order. -/
structure Sorted (m : Ms) (L : List Ed) : Prop where
  nd : L.Nodup
  iff : ∀ e, e ∈ L ↔ (m e).isSome = true
  pw : L.Pairwise (fun x y => ltOf cmpE y x = false)

theorem cmpE_zero (e f : Ed) (h1 : ¬cmpE e f < 0) (h2 : ¬cmpE f e < 0) : e = f := by
  rw [cmpE_neg, cmpP_neg, cmpP_neg] at h1 h2
  obtain ⟨⟨a, b⟩, c, d⟩ := e
  obtain ⟨⟨a', b'⟩, c', d'⟩ := f
  simp only [Prod.mk.injEq] at h1 h2 ⊢
  omega

/-- There is one such list. -/
theorem sorted_unique : ∀ {L L' : List Ed}, L.Nodup → L'.Nodup → (∀ e, e ∈ L ↔ e ∈ L') → L.Pairwise (fun x y => ltOf cmpE y x = false) → L'.Pairwise (fun x y => ltOf cmpE y x = false) → L = L'
  | [], L', _, _, hm, _, _ => by
    cases L' with
    | nil => rfl
    | cons a l => exact absurd ((hm a).2 (by simp)) (by simp)
  | a :: l, [], _, _, hm, _, _ => absurd ((hm a).1 (by simp)) (by simp)
  | a :: l, b :: l', h1, h2, hm, p1, p2 => by
    rw [List.nodup_cons] at h1 h2
    rw [List.pairwise_cons] at p1 p2
    have e : a = b := by
      rcases List.mem_cons.1 ((hm a).1 (by simp)) with e | m1
      · exact e
      · rcases List.mem_cons.1 ((hm b).2 (by simp)) with e | m2
        · exact e.symm
        · exact cmpE_zero a b ((ltOf_not _ _ _).1 (p2.1 a m1)) ((ltOf_not _ _ _).1 (p1.1 b m2))
    subst e
    congr 1
    refine sorted_unique h1.2 h2.2 (fun x => ?_) p1.2 p2.2
    have hx := hm x
    simp only [List.mem_cons] at hx
    constructor
    · intro hl
      rcases hx.1 (.inr hl) with e | k
      · exact absurd (e ▸ hl) h1.1
      · exact k
    · intro hl
      rcases hx.2 (.inr hl) with e | k
      · exact absurd (e ▸ hl) h2.1
      · exact k

/-- The pairs of points in their order stand in theirs. -/
theorem pairs_sorted {s : Pts} (h : Rising s) (hc : ∀ x ∈ s, CdP x) : (pairs s).Pairwise (fun x y => ltOf cmpE y x = false) := by
  have lt1 : s.Pairwise fun x y => cmpP x y < 0 := by
    rw [List.pairwise_iff_getElem]
    intro i j hi hj hij
    rw [cmpP_eq (hc _ (List.getElem_mem hi)) (hc _ (List.getElem_mem hj)), sgn_neg']
    have := h i j _ _ (List.getElem?_eq_getElem hi) (List.getElem?_eq_getElem hj) hij
    omega
  have key : ∀ t : Pts, t.Pairwise (fun x y => cmpP x y < 0) → (t.flatMap fun u => s.map fun v => (u, v)).Pairwise (fun x y => ltOf cmpE y x = false) := by
    intro t
    induction t with
    | nil => simp
    | cons a t ih =>
      intro ht
      rw [List.pairwise_cons] at ht
      rw [List.flatMap_cons, List.pairwise_append]
      refine ⟨?_, ih ht.2, fun x hx y hy => ?_⟩
      · rw [List.pairwise_map]
        refine lt1.imp fun {x y} hxy => ?_
        rw [ltOf_not, cmpE_neg]
        rw [cmpP_neg] at hxy
        simp only [cmpP_neg]
        omega
      · obtain ⟨v, _, rfl⟩ := List.mem_map.1 hx
        obtain ⟨b, hb, hy⟩ := List.mem_flatMap.1 hy
        obtain ⟨v', _, rfl⟩ := List.mem_map.1 hy
        have hab := ht.1 b hb
        rw [ltOf_not, cmpE_neg]
        rw [cmpP_neg] at hab
        simp only [cmpP_neg, pt_eq_iff]
        omega
  exact key s lt1

theorem keysL_sorted {s : Pts} {m : Ms} (h : Rising s) (hc : ∀ x ∈ s, CdP x) (hm : ∀ e, (m e).isSome = true → e ∈ pairs s) : Sorted m (keysL s m) := by
  refine ⟨(nodup_pairs h.nodup).filter _, fun e => ?_, (pairs_sorted h hc).filter _⟩
  unfold keysL
  rw [List.mem_filter]
  exact ⟨fun k => k.2, fun k => ⟨hm e k, k⟩⟩
theorem Sorted.keysL {s : Pts} {m : Ms} {L : List Ed} (hL : Sorted m L) (h : Rising s) (hc : ∀ x ∈ s, CdP x) (hm : ∀ e, (m e).isSome = true → e ∈ pairs s) : L = keysL s m := by
  have k := keysL_sorted h hc hm
  exact sorted_unique hL.nd k.nd (fun e => by rw [hL.iff, k.iff]) hL.pw k.pw

theorem keys_any (b : Nat) (w : World) : Calls Tryz.prog 45 #[.map (some b)] w fun e w' => e = .returned (.func (.func 70) #[] #[.pointer (some ⟨w.heap.size, 0, none⟩)]) ∧ w' = w.alloc (.cells #[.map (some b)] 51) := by
  go_enter Tryz.func45, Tryz.ntmps45
  go_wp2_with fail
  go_ret
  exact ⟨rfl, rfl⟩

set_option maxHeartbeats 1600000 in
theorem sortedFunc_any (Bm b n : Nat) (m : Ms) (PS : List Ed) (hPS : ∀ e, (m e).isSome = true → e ∈ PS) (hlen : PS.length ≤ 1000000) (w : World) (hBm : Bm < w.heap.size) (hm : w.cell? ⟨Bm, 0, none⟩ = some (.map (some b))) (hown : MapE w b n m) :
    Calls Tryz.prog 44 #[.func (.func 70) #[] #[.pointer (some ⟨Bm, 0, none⟩)], .func (.func 46) #[] #[]] w fun e w' => ∃ v L, e = .returned v ∧ Hid (Sorted m L ∧ New w w' ∧ OwnE w' w.heap.size v L) := by
  have e70 : ∀ args w, (callFunc 70 args).run Tryz.prog w = .ok (.enter 70 args) w := enters_of Tryz.func70 (by kernel_rfl) rfl
  have HC : Hid (Calls Tryz.prog 68 #[.func (.func 70) #[] #[.pointer (some ⟨Bm, 0, none⟩)]] w fun e w' => ∃ (v : Value) (ss : List Ed), e = .returned v ∧ (ss.Nodup ∧ ∀ e, e ∈ ss ↔ (m e).isSome = true) ∧ OwnE w' w.heap.size v ss ∧ Below w.heap.size w w') :=
    callsIn_wide.1 (collect_in 10 (by omega) 70 _ e70 _ PS.length hlen w (keys_gives 8 (by omega) Bm b n m PS hPS w hBm hm hown))
  have HP : Hid (∀ e, (m e).isSome = true → e ∈ PS) := hPS
  clear hm hown hPS e70
  go_enter Tryz.func44, Tryz.ntmps44
  go_wp2_with fail
  refine HC.out.mono ?_
  rintro e w1 ⟨v1, ss, rfl, h1, h2, h3⟩
  have H1 : Hid (ss.Nodup ∧ (∀ e, e ∈ ss ↔ (m e).isSome = true) ∧ OwnE w1 w.heap.size v1 ss ∧ New w w1 ∧ ss.length ≤ PS.length) := ⟨h1.1, h1.2, h2, Below.new' h3, length_le_of_sub h1.1 (fun e he => HP.out e ((h1.2 e).1 he))⟩
  clear h1 h2 h3 HC
  rcases H1.out.2.2.1.form with ⟨e1, e2⟩ | ⟨g, cap, e1, hb, hg, hlc, hcm⟩
  · subst e1 e2
    go_wp2_with fail
    refine (sortE_none none 0 _ _).mono ?_
    rintro e w2 ⟨rfl, rfl⟩
    go_wp2_with fail
    go_ret
    exact ⟨_, [], rfl, ⟨H1.out.1, H1.out.2.1, .nil⟩, H1.out.2.2.2.1, H1.out.2.2.1⟩
  · subst e1
    have HG : Hid (w.heap.size ≤ g ∧ g < w1.heap.size) := ⟨hb, hg⟩
    clear hb hg hlc hcm
    go_wp2_with fail
    refine (sortE_any w.heap.size g cap ss w1 H1.out.2.2.1 HG.out.2 (by have := H1.out.2.2.2.2; omega)).mono ?_
    rintro e w2 ⟨rfl, H2⟩
    go_wp2_with fail
    go_ret
    obtain ⟨L, k1, k2, k3, k4⟩ := H2.out
    refine ⟨_, L, rfl, ⟨(k1.nodup_iff).2 H1.out.1, fun e => by rw [k1.mem_iff]; exact H1.out.2.1 e, k2⟩, H1.out.2.2.2.1.own k4 HG.out.1, ?_⟩
    unfold OwnE
    rw [k1.length_eq]
    exact k3

end Go.Proofs.YtgeoffpcmkofkaaGreat
/- The walk of 'settle' of package mesh. -/
namespace Go.Proofs.YtgeoffpcmkofkaaGreat
open Go.RowKit Go.Maps Fl
set_option maxRecDepth 100000
attribute [local go_sem ↓] Go.wp_at_zero Go.wp_at_succ

theorem grown_own {w w1 w2 : World} {b : Nat} {row : Option Nat} (h : w.grownBy w1 (some b)) (h2 : w1.grownBy w2 row) (hr : ∀ k, row = some k → w.heap.size ≤ k) : w.grownBy w2 (some b) :=
  ⟨h2.os.trans h.os, h2.tape.trans h.tape, h2.output.trans h.output, Nat.le_trans h.size h2.size, fun k hk hne => (h2.block k (Nat.lt_of_lt_of_le hk h.size) (fun e => by have := hr k e.symm; omega)).trans (h.block k hk hne)⟩

/-- Where settle stands: i steps are done, k at most are to come. -/
structure SR (s : Pts) (m0 : Ms) (w wr : World) (b : Nat) (v : Value) (i : Nat) (st : St) (k : Nat) : Prop where
  at_ : st = steps i (m0, keysL s m0)
  inv : Inv s st
  ins : ∀ e ∈ st.2, e.1 ∈ s ∧ e.2 ∈ s
  mu_ : mu (pairs s) s st = k
  bound : i + k ≤ 1000000
  gr : w.grownBy wr (some b)
  map : MapE wr b (1000000000 + 6 * i) st.1
  own : OwnE wr w.heap.size v st.2

theorem own_take {w : World} {base g cap : Nat} {o : List Ed} {e : Ed} (h : OwnE w base (.slice (some ⟨g, 0, none⟩) (o ++ [e]).length cap) (o ++ [e])) : OwnE w base (.slice (some ⟨g, 0, none⟩) o.length cap) o := by
  have := own_shrink h (c := o.length) (by simp)
  rw [List.flatMap_append, List.take_append_of_le_length (by rw [flat_length lenE]; omega), List.take_of_length_le (by rw [flat_length lenE]; omega)] at this
  exact this

section
variable {s : Pts} {m0 m : Ms} {w wr wx : World} {b : Nat} {v v' : Value} {i k : Nat} {o : List Ed} {a c l r : Pt}
theorem steps_one (i : Nat) (st : St) : steps (i + 1) st = step (steps i st) := by
  rw [steps_add]; rfl
theorem SR.keep (h : SR s m0 w wr b v i (m, o ++ [(a, c)]) k) (hs : s.Nodup) (hw : wrong m (a, c) = false) (hg : wr.grownBy wx none) (ho : OwnE wx w.heap.size v' o) : SR s m0 w wx b v' (i + 1) (m, o) (k - 1) ∧ k - 1 < k := by
  have e := h.at_
  have e1 : step (m, o ++ [(a, c)]) = (m, o) := step_keep hw
  have hmu := step_mu (nodup_pairs hs) (fun u hu v hv => mem_pairs.2 ⟨hu, hv⟩) h.inv (by simp)
  rw [e1] at hmu
  have hm := h.mu_
  have hmu2 : mu (pairs s) s (m, o) + 1 = k := by
    rw [← hm]; unfold mu; simp; omega
  refine ⟨⟨?_, inv_keep h.inv hw, fun e he => h.ins e (by simp [he]), by omega, by have := h.bound; omega, grown_own h.gr hg (fun k e => by cases e), (h.map.new hg).mono (by omega), ho⟩, by omega⟩
  rw [steps_one, ← e, e1]
theorem SR.flip (h : SR s m0 w wr b v i (m, o ++ [(a, c)]) k) (hs : s.Nodup) (h1 : m (a, c) = some l) (h2 : m (c, a) = some r) (hc : 0 < C a c l r) (hg : w.grownBy wx (some b)) (hm : MapE wx b (1000000000 + 6 * i + 6) (flipM m a c l r)) (ho : OwnE wx w.heap.size v' (o ++ [(a, r), (r, c), (c, l), (l, a)])) :
    ∃ k', SR s m0 w wx b v' (i + 1) (flipM m a c l r, o ++ [(a, r), (r, c), (c, l), (l, a)]) k' ∧ k' < k := by
  have e := h.at_
  have e1 := step_flip (o := o) h1 h2 hc
  have hmu := step_mu (nodup_pairs hs) (fun u hu v hv => mem_pairs.2 ⟨hu, hv⟩) h.inv (by simp)
  rw [e1, h.mu_] at hmu
  have ml := h.inv.ok.mem _ _ _ h1
  have mr := h.inv.ok.mem _ _ _ h2
  refine ⟨_, ⟨?_, inv_flip h.inv h1 h2 hc, fun e he => ?_, rfl, by have := h.bound; omega, hg, hm.mono (by omega), ho⟩, hmu⟩
  · rw [steps_one, ← e, e1]
  · rcases List.mem_append.1 he with he | he
    · exact h.ins e (by simp [he])
    · simp at he
      rcases he with rfl | rfl | rfl | rfl
      · exact ⟨ml.1, mr.2.2⟩
      · exact ⟨mr.2.2, mr.1⟩
      · exact ⟨mr.1, ml.2.2⟩
      · exact ⟨ml.2.2, ml.1⟩
theorem SR.fin (h : SR s m0 w wr b v i (m, []) k) (hs : s.Nodup) (hok : Ok s m0) : MapE wr b 1010000000 (settledM s m0) ∧ w.grownBy wr (some b) := by
  have hb := h.bound
  have e : settledM s m0 = m := by
    have h1 := steps_stop (nodup_pairs hs) (fun u hu v hv => mem_pairs.2 ⟨hu, hv⟩) (inv_start hok)
    have h2 : (steps i (m0, keysL s m0)).2 = [] := by rw [← h.at_]
    have := steps_end h1 h2
    unfold settledM
    rw [this, ← h.at_]
  rw [e]
  exact ⟨h.map.mono (by omega), h.gr⟩
end

theorem Ok.vals {s : Pts} {m : Ms} (h : Ok s m) (hc : ∀ x ∈ s, CdP x) : Vals m := fun e c he => hc c (h.mem e.1 e.2 c he).2.2

set_option maxHeartbeats 3200000 in
theorem settle_any (b : Nat) (s : Pts) (m : Ms) (w : World) (h : MapE w b 1000000000 m) (hok : Ok s m) (hr : Rising s) (hc : ∀ x ∈ s, CdP x) (h40 : s.length ≤ 40) :
    Calls Tryz.prog 28 #[.map (some b)] w fun e w' => e = .returned (.tuple #[]) ∧ Hid (MapE w' b 1010000000 (settledM s m) ∧ w.grownBy w' (some b)) := by
  obtain ⟨i0, hi0, hz0, hz1, hz2⟩ := info_parts Tryz.info65
  have hb := h.lt
  have H : Hid (MapE w b 1000000000 m ∧ Ok s m ∧ Rising s ∧ (∀ x ∈ s, CdP x)) := ⟨h, hok, hr, hc⟩
  have HPS : Hid (∀ e, (m e).isSome = true → e ∈ pairs s) := fun e he => by
    obtain ⟨c, hc⟩ := isSome_get he
    have := hok.mem e.1 e.2 c hc
    exact mem_pairs.2 ⟨this.1, this.2.1⟩
  have HPL : Hid ((pairs s).length ≤ 1600) := by
    rw [Hid, pairs_length]
    exact Nat.le_trans (Nat.mul_le_mul h40 h40) (by omega)
  have HMU : Hid (mu (pairs s) s (m, keysL s m) ≤ 1000000) := by
    have h1 := tot_le (pairs s) s m
    have h2 : (pairs s).length * s.length ≤ 1600 * 40 := Nat.mul_le_mul HPL.out h40
    have h3 : (keysL s m).length ≤ (pairs s).length := List.length_filter_le _ _
    have h4 := HPL.out
    rw [Hid]
    unfold mu
    simp only
    omega
  clear h hok hr hc h40
  go_enter Tryz.func28, Tryz.ntmps28
  go_wp2_with fail
  refine (keys_any b w).mono ?_
  rintro e w1 ⟨rfl, rfl⟩
  go_wp2_with fail
  refine (sortedFunc_any w.heap.size b 1000000000 m (pairs s) HPS.out (by have := HPL.out; omega) _ (by simp) (by go_simp) (H.out.1.new (New.alloc _ _))).mono ?_
  rintro e w2 ⟨v2, L, rfl, H2⟩
  have HS : Hid (SR s m w w2 b v2 0 (m, keysL s m) (mu (pairs s) s (m, keysL s m))) := by
    have hL := H2.out.1.keysL H.out.2.2.1 H.out.2.2.2 HPS.out
    have ho := H2.out.2.2
    rw [hL] at ho
    refine ⟨rfl, inv_start H.out.2.1, fun e he => ?_, rfl, by have := HMU.out; omega, ((New.alloc _ _).trans' H2.out.2.1).but (some b), (H.out.1.new (New.alloc _ _)).new H2.out.2.1, ⟨ho.1, ho.2.imp id fun ⟨g, cap, cur, a1, a2, a3⟩ => ⟨g, cap, cur, a1, by simp at a2; omega, a3⟩⟩⟩
    exact mem_pairs.1 ((List.mem_filter.1 he).1)
  clear H2 HPS HPL HMU
  go_wp2_with fail
  go_loopg [2] (mu (pairs s) s (m, keysL s m)) (fun k v wr => ∃ (i : Nat) (st : St), Hid (SR s m w wr b v i st k))
  case atStart => exact ⟨0, _, HS⟩
  case round =>
    obtain ⟨i, ⟨m1, o1⟩, HR⟩ := hrel
    rcases last_cases o1 with rfl | ⟨o, ⟨⟨ex, ey⟩, fx, fy⟩, rfl⟩
    · have HF : Hid (MapE wr b 1010000000 (settledM s m) ∧ w.grownBy wr (some b)) := HR.out.fin H.out.2.2.1.nodup H.out.2.1
      rcases HR.out.own.form with ⟨e1, _⟩ | ⟨g, cap, e1, _, _, _, _⟩
      · subst e1
        go_wp2_with fail
        go_end0
        exact ⟨rfl, HF.out⟩
      · subst e1
        go_wp2_with fail
        go_end0
        exact ⟨rfl, HF.out⟩
    · rcases HR.out.own.form with ⟨_, e1⟩ | ⟨g, cap, e1, hbg, hgl, hlc, hcm⟩
      · simp at e1
      · subst e1
        have HG : Hid (w.heap.size ≤ g ∧ g < wr.heap.size) := ⟨hbg, hgl⟩
        obtain ⟨x0, x1, x2, x3⟩ := HR.out.own.cell (show o.length < (o ++ [((ex, ey), (fx, fy))]).length by simp)
        have eg : (o ++ [((ex, ey), (fx, fy))])[o.length]'(by simp) = ((ex, ey), (fx, fy)) := by simp
        rw [eg] at x0 x1 x2 x3
        have HOT : Hid (OwnE wr w.heap.size (.slice (some ⟨g, 0, none⟩) o.length cap) o) := own_take HR.out.own
        have hlen : (o ++ [((ex, ey), (fx, fy))]).length = o.length + 1 := by simp
        have hol : o.length ≤ 1000000 := by
          have h1 := HR.out.mu_
          have h2 := HR.out.bound
          unfold mu at h1
          rw [hlen] at h1
          omega
        rw [hlen] at hlc
        have HCE : Hid (CdE ((ex, ey), (fx, fy)) ∧ Vals m1) := by
          have := HR.out.ins ((ex, ey), (fx, fy)) (by simp)
          exact ⟨⟨H.out.2.2.2 _ this.1, H.out.2.2.2 _ this.2⟩, HR.out.inv.ok.vals H.out.2.2.2⟩
        have hw1 : IntKind.i64.wrap ((o.length : Int) + 1 - 1) = (o.length : Int) := by rw [IntKind.wrap_i64]; omega
        have i1 : (0 : Int) ≤ (o.length : Int) := by omega
        have i2 : (o.length : Int) < (o.length : Int) + 1 := by omega
        have i3 : (o.length : Int) ≤ (cap : Int) := by omega
        have i4 : o.length ≤ cap := by omega
        have i5 : (0 : Int) < (o.length : Int) + 1 := by omega
        have i6 : ¬(((o.length : Int) + 1) = 0) := by omega
        clear hbg hgl hcm eg hlc
        cases hw : wrong m1 ((ex, ey), (fx, fy)) with
        | false =>
          go_wp2_with fail
          refine (isWrong_any b (1000000000 + 6 * i) m1 ((ex, ey), (fx, fy)) _ (HR.out.map.new (New.alloc _ _)) HCE.out.1 HCE.out.2).mono ?_
          rintro e w3 ⟨rfl, H3⟩
          have HK : Hid (SR s m w w3 b (.slice (some ⟨g, 0, none⟩) o.length cap) (i + 1) (m1, o) (gk - 1) ∧ gk - 1 < gk) := HR.out.keep H.out.2.2.1.nodup hw ((New.alloc _ _).trans' H3.out) ((HOT.out.new (New.alloc _ _)).new H3.out)
          clear H3 x0 x1 x2 x3
          rw [hw]
          go_wp2_with fail
          go_roundg (gk - 1)
          case measure => exact HK.out.2
          case rel => exact ⟨_, _, HK.out.1⟩
        | true =>
          obtain ⟨l, r, hl, hr, hcc⟩ := wrong_inv hw
          have HW : Hid (m1 ((ex, ey), (fx, fy)) = some l ∧ m1 ((fx, fy), (ex, ey)) = some r ∧ 0 < C (ex, ey) (fx, fy) l r) := ⟨hl, hr, hcc⟩
          clear hl hr hcc
          go_wp2_with fail
          refine (isWrong_any b (1000000000 + 6 * i) m1 ((ex, ey), (fx, fy)) _ (HR.out.map.new (New.alloc _ _)) HCE.out.1 HCE.out.2).mono ?_
          rintro e w3 ⟨rfl, H3⟩
          have N3 : Hid (New wr w3) := (New.alloc _ _).trans' H3.out
          obtain ⟨y0, y1, y2, y3⟩ := (BoxE.mk (by go_simp) (by go_simp) (by go_simp) (by go_simp) : BoxE (wr.alloc (.cells #[.int .i64 ex, .int .i64 ey, .int .i64 fx, .int .i64 fy] 65)) wr.heap.size ((ex, ey), (fx, fy))).new H3.out
          clear H3 x0 x1 x2 x3
          rw [hw]
          go_wp2_with (first
            | (go_at_call 48; refine (flip_any b (1000000000 + 6 * i) m1 (ex, ey) (fx, fy) l r _ (HR.out.map.new N3.out) (by unfold maxLen; have := HR.out.bound; omega) HW.out.1 HW.out.2.1 HCE.out.2).mono ?_
               rintro e w4 ⟨g4, rfl, H4⟩
               have HO4 : Hid (OwnE w4 w.heap.size (.slice (some ⟨g, 0, none⟩) o.length cap) o) := World.ownsRow.kept (HOT.out.new N3.out) H4.out.2.1 (.inr (by have := HG.out.1; simp [Value.ownBlock]; omega))
               have HG4 : Hid (w.grownBy w4 (some b)) := (grown_own HR.out.gr N3.out (fun k e => by cases e)).trans H4.out.2.1
               clear y0 y1 y2 y3)
            | (at_builtin; refine wpList_append_own _ rfl _ _ 62 rfl w.heap.size 65 i0 (.agg #[.int .i64 0, .int .i64 0, .int .i64 0, .int .i64 0]) 4 32 Tryz.underlying62 hi0 hz0 hz1 hz2 rfl (by decide) _ _ _ rfl HO4.out ⟨g4, 0, none⟩ 4 4 ([((ex, ey), r), (r, (fx, fy)), ((fx, fy), l), (l, (ex, ey))].flatMap encE) rfl rfl (World.news_of_block (cs := ([((ex, ey), r), (r, (fx, fy)), ((fx, fy), l), (l, (ex, ey))].flatMap encE).toArray) H4.out.2.2.2) (by simp [encE, Value.oneCell']) (by unfold maxLen; omega) (by omega) (HG4.out.size) ?_
               intro v' w5 o5 g5 _
               have H5 : Hid (w5.ownsRow w.heap.size 65 4 v' (o.length + 4) (o.flatMap encE ++ [((ex, ey), r), (r, (fx, fy)), ((fx, fy), l), (l, (ex, ey))].flatMap encE) ∧ w4.grownBy w5 (some g)) := ⟨o5, g5⟩
               clear o5 g5)
            | go_in)
          have HA : Hid (∃ k', SR s m w w5 b v' (i + 1) (flipM m1 (ex, ey) (fx, fy) l r, o ++ [((ex, ey), r), (r, (fx, fy)), ((fx, fy), l), (l, (ex, ey))]) k' ∧ k' < gk) := by
            have hgg : w.heap.size ≤ g := HG.out.1
            refine HR.out.flip H.out.2.2.1.nodup HW.out.1 HW.out.2.1 HW.out.2.2 (grown_own HG4.out H5.out.2 (fun k e => by cases e; exact hgg)) (H4.out.1.kept H5.out.2 (by simp; omega)) ?_
            unfold OwnE
            rw [List.length_append, List.flatMap_append]
            exact H5.out.1
          obtain ⟨k', hk', hlt⟩ := HA.out
          go_roundg k'
          case measure => exact hlt
          case rel => exact ⟨_, _, hk'⟩

end Go.Proofs.YtgeoffpcmkofkaaGreat
/- The walk of 'triangles' of package mesh. -/
namespace Go.Proofs.YtgeoffpcmkofkaaGreat
open Go.RowKit Go.Maps Fl
set_option maxRecDepth 100000
attribute [local go_sem ↓] Go.wp_at_zero Go.wp_at_succ

def triAt (num : Ns) (e : Ed) (c : Pt) : Tri3 := (atN num e.1, atN num e.2, atN num c)
/-- A triangle, from its side that begins at the least number. -/
def IsT (m : Ms) (num : Ns) (e : Ed) (t : Tri3) : Prop := ∃ c, m e = some c ∧ t = triAt num e c ∧ t.1 < min t.2.1 t.2.2
/-- A row of triangles, which the call has made. -/
def OwnT (w : World) (base : Nat) (v : Value) (l : List Tri3) : Prop := w.ownsRow base 33 3 v l.length (l.flatMap encT)
theorem Tryz.inf33 : (Tryz.prog.info? 33).map (fun i => (i.zero, i.size, i.bytes)) = some (some (.agg #[.int .i64 0, .int .i64 0, .int .i64 0]), 3, 24) := by kernel_rfl
theorem OwnT.new {w w' : World} {base : Nat} {v : Value} {l : List Tri3} (h : OwnT w base v l) (hg : New w w') : OwnT w' base v l := World.ownsRow.kept h hg (by cases v.ownBlock <;> simp)
theorem OwnT.kept {w w' : World} {base r : Nat} {v : Value} {l : List Tri3} (h : OwnT w base v l) (hg : w.grownBy w' (some r)) (hr : r < base) : OwnT w' base v l := by
  refine World.ownsRow.kept h hg ?_
  cases hv : v.ownBlock with
  | none => exact .inl rfl
  | some k => exact .inr (by have := (World.ownsRow.lt h k hv).1; simp; omega)
theorem OwnT.form {w : World} {base : Nat} {v : Value} {l : List Tri3} (h : OwnT w base v l) : (v = .slice none 0 0 ∧ l = []) ∨ ∃ g cap, v = .slice (some ⟨g, 0, none⟩) l.length cap ∧ base ≤ g ∧ g < w.heap.size ∧ l.length ≤ cap ∧ cap ≤ maxLen := by
  rcases h.2 with ⟨e, hn⟩ | ⟨g, cap, cur, e, hb, hg, h1, h2, _⟩
  · exact .inl ⟨e, List.eq_nil_of_length_eq_zero hn⟩
  · exact .inr ⟨g, cap, e, hb, (Array.getElem?_eq_some_iff.1 hg).1, h1, h2⟩

/-- Where the loop stands. -/
structure TF (w wr : World) (b n : Nat) (m : Ms) (num : Ns) (v : Value) (vis : List Ed) (L : List Tri3) : Prop where
  rg : RangeE wr b w.heap.size n m vis
  new : New w wr
  own : OwnT wr (w.heap.size + 1) v L
  nd : L.Nodup
  iff : ∀ t, t ∈ L ↔ ∃ e ∈ vis, IsT m num e t
  sz : w.heap.size + 1 ≤ wr.heap.size
  len : L.length ≤ vis.length
theorem TF.step {w wr wx : World} {b n : Nat} {m : Ms} {num : Ns} {v : Value} {vis vis' : List Ed} {L : List Tri3} (h : TF w wr b n m num v vis L) (hg : wr.grownBy wx (some w.heap.size)) (hr : RangeE wx b w.heap.size n m vis') (hi : ∀ t, t ∈ L ↔ ∃ e ∈ vis', IsT m num e t) (hl : vis.length ≤ vis'.length) : TF w wx b n m num v vis' L :=
  ⟨hr, h.new.own hg (Nat.le_refl _), h.own.kept hg (by omega), h.nd, hi, Nat.le_trans h.sz hg.size, Nat.le_trans h.len hl⟩
theorem TF.next {w wr wx : World} {b n : Nat} {m : Ms} {num : Ns} {v : Value} {vis : List Ed} {L : List Tri3} (h : TF w wr b n m num v vis L) (hg : New wr wx) : TF w wx b n m num v vis L ∧ wx.rangeLeft b w.heap.size = wr.rangeLeft b w.heap.size := by
  obtain ⟨k1, k2⟩ := h.rg.kept hg (by simp) (by simp)
  exact ⟨⟨k1, h.new.trans' hg, h.own.new hg, h.nd, h.iff, Nat.le_trans h.sz hg.size, h.len⟩, k2⟩

/-- The triangles of a mesh, each once, in their order. -/
structure IsTri (m : Ms) (num : Ns) (L : List Tri3) : Prop where
  nd : L.Nodup
  iff : ∀ t, t ∈ L ↔ ∃ e, IsT m num e t
  pw : L.Pairwise (fun x y => ltOf cmpT y x = false)

set_option maxHeartbeats 3200000 in
theorem triangles_any (b n bn nn : Nat) (m : Ms) (num : Ns) (w : World) (PS : List Ed) (hm : MapE w b n m) (hn : MapI w bn nn num) (hv : Vals m) (hPS : ∀ e, (m e).isSome = true → e ∈ PS) (hlen : PS.length ≤ 1000000)
    (hinj : ∀ e f c d, m e = some c → m f = some d → atN num e.1 = atN num f.1 → atN num e.2 = atN num f.2 → e = f) :
    Calls Tryz.prog 29 #[.map (some b), .map (some bn)] w fun e w' => ∃ v L, e = .returned v ∧ Hid (New w w' ∧ IsTri m num L ∧ OwnT w' w.heap.size v L) := by
  have H0 : Hid (MapE w b n m ∧ b < w.heap.size ∧ MapI w bn nn num ∧ bn < w.heap.size ∧ Vals m ∧ (∀ e, (m e).isSome = true → e ∈ PS) ∧ (∀ e f c d, m e = some c → m f = some d → atN num e.1 = atN num f.1 → atN num e.2 = atN num f.2 → e = f)) := ⟨hm, hm.lt, hn, hn.lt, hv, hPS, hinj⟩
  clear hm hn hv hPS hinj
  obtain ⟨i0, hi0, hz0, hz1, hz2⟩ := info_parts Tryz.inf33
  go_enter Tryz.func29, Tryz.ntmps29
  go_wp2_with (first
    | (at_range; refine wpList_rangeE _ rfl _ rfl b n m rfl H0.out.1 ?_
       intro w0 r0 n0 s0
       have HS : Hid (TF w w0 b n m num (.slice none 0 0) [] []) := ⟨r0, n0, World.ownsRow_nil _ _ _ _, List.nodup_nil, (fun e => by simp), by rw [s0]; omega, by simp⟩
       clear r0 n0 s0)
    | go_in)
  go_frame
  go_loopw [5] (fun v wr => ∃ vis L, Hid (TF w wr b n m num v vis L)) (fun _ wr => wr.rangeLeft b w.heap.size)
  case atStart => exact ⟨[], [], HS⟩
  case round =>
    obtain ⟨vis, L, H⟩ := hrel
    have HLn : Hid (L.length ≤ 1000000) := by
      refine Nat.le_trans H.out.len (Nat.le_trans (length_le_of_sub (l₂ := PS) H.out.rg.nodup.1 fun e he => ?_) hlen)
      exact H0.out.2.2.2.2.2.1 e (H.out.rg.nodup.2 e he)
    go_wp2_with (first
      | (at_next; refine wpList_nextE _ rfl _ rfl b w.heap.size n m vis rfl H.out.rg ?_ ?_)
      | go_in)
    · intro hall
      have HF : Hid (L.Nodup ∧ (∀ t, t ∈ L ↔ ∃ e, IsT m num e t)) := ⟨H.out.nd, fun t => by
        rw [H.out.iff]
        exact ⟨fun ⟨e, _, k⟩ => ⟨e, k⟩, fun ⟨e, k⟩ => ⟨e, hall e.1.1 e.1.2 e.2.1 e.2.2 (by obtain ⟨c, hc, _⟩ := k; rw [hc]; rfl), k⟩⟩⟩
      clear hall
      rcases H.out.own.form with ⟨e1, e2⟩ | ⟨g, cap, e1, hb, hg, hlc, hcm⟩
      · subst e1 e2
        go_wp2_with fail
        refine (sortT_none none 0 _ _).mono ?_
        rintro e w2 ⟨rfl, rfl⟩
        go_wp2_with fail
        go_ret
        exact ⟨_, [], rfl, H.out.new, ⟨HF.out.1, HF.out.2, .nil⟩, World.ownsRow_nil _ _ _ _⟩
      · subst e1
        have HG : Hid (w.heap.size + 1 ≤ g ∧ g < wr.heap.size) := ⟨hb, hg⟩
        clear hb hg hlc hcm
        go_wp2_with fail
        refine (sortT_any (w.heap.size + 1) g cap L wr H.out.own HG.out.2 (by have := HLn.out; omega)).mono ?_
        rintro e w2 ⟨rfl, H2⟩
        go_wp2_with fail
        go_ret
        obtain ⟨L', k1, k2, k3, k4⟩ := H2.out
        refine ⟨_, L', rfl, H.out.new.own k4 (by have := HG.out.1; omega), ⟨(k1.nodup_iff).2 HF.out.1, fun e => by rw [k1.mem_iff]; exact HF.out.2 e, k2⟩, ?_⟩
        unfold OwnT
        rw [k1.length_eq]
        exact ⟨k3.1, k3.2.imp id fun ⟨g, cap, cur, a1, a2, a3⟩ => ⟨g, cap, cur, a1, by omega, a3⟩⟩
    · intro ex ey fx fy cx cy w1 hmc he hnv hr1 hlt hg1 hs1 hen
      have HM : Hid (m ((ex, ey), (fx, fy)) = some (cx, cy) ∧ CdE ((ex, ey), (fx, fy)) ∧ ((ex, ey), (fx, fy)) ∉ vis ∧ RangeE w1 b w.heap.size n m (vis ++ [((ex, ey), (fx, fy))]) ∧ w1.rangeLeft b w.heap.size < wr.rangeLeft b w.heap.size ∧ wr.grownBy w1 (some w.heap.size) ∧ CdP (cx, cy)) := ⟨hmc, he, hnv, hr1, hlt, hg1, H0.out.2.2.2.2.1 _ _ hmc⟩
      clear hmc he hnv hr1 hlt hg1 hs1
      obtain ⟨A, hA⟩ : ∃ A, A = atN num (ex, ey) := ⟨_, rfl⟩
      obtain ⟨B, hB⟩ : ∃ B, B = atN num (fx, fy) := ⟨_, rfl⟩
      obtain ⟨Q, hQ⟩ : ∃ Q, Q = atN num (cx, cy) := ⟨_, rfl⟩
      have HT : Hid (triAt num ((ex, ey), (fx, fy)) (cx, cy) = (A, B, Q)) := by rw [hA, hB, hQ]; rfl
      have HI : Hid (MapI w1 bn nn num) := (H0.out.2.2.1.kept H.out.new (by simp)).kept HM.out.2.2.2.2.2.1 (by have := H0.out.2.2.2.1; simp; omega)
      have LK : Hid (∀ V, New w1 V → (Instr.lookup 54 (.map (some bn)) (.agg #[.int .i64 ex, .int .i64 ey]) false).run Tryz.prog V = .ok (.int .i64 A) V ∧ (Instr.lookup 54 (.map (some bn)) (.agg #[.int .i64 fx, .int .i64 fy]) false).run Tryz.prog V = .ok (.int .i64 B) V ∧ (Instr.lookup 54 (.map (some bn)) (.agg #[.int .i64 cx, .int .i64 cy]) false).run Tryz.prog V = .ok (.int .i64 Q) V) := by
        intro V hV
        have h1 := (HI.out.new hV).look (e := (ex, ey)) HM.out.2.1.1
        have h2 := (HI.out.new hV).look (e := (fx, fy)) HM.out.2.1.2
        have h3 := (HI.out.new hV).look (e := (cx, cy)) HM.out.2.2.2.2.2.2
        rw [hA, hB, hQ]
        exact ⟨h1, h2, h3⟩
      clear hA hB hQ
      go_wp2_with fail
      obtain ⟨W, hW⟩ : ∃ W, W = (w1.alloc (.cells #[.int .i64 ex, .int .i64 ey, .int .i64 fx, .int .i64 fy] 65)).alloc (.cells #[.int .i64 cx, .int .i64 cy] 36) := ⟨_, rfl⟩
      have HW : Hid (New w1 W ∧ W.heap.size = w1.heap.size + 2) := by rw [hW]; exact ⟨((New.refl w1).alloc' _).alloc' _, by simp⟩
      have x0 : W.cell? ⟨w1.heap.size, 0, none⟩ = some (.int .i64 ex) := by rw [hW]; go_simp
      have x1 : W.cell? ⟨w1.heap.size, 1, none⟩ = some (.int .i64 ey) := by rw [hW]; go_simp
      have x2 : W.cell? ⟨w1.heap.size, 2, none⟩ = some (.int .i64 fx) := by rw [hW]; go_simp
      have x3 : W.cell? ⟨w1.heap.size, 3, none⟩ = some (.int .i64 fy) := by rw [hW]; go_simp
      have y0 : W.cell? ⟨w1.heap.size + 1, 0, none⟩ = some (.int .i64 cx) := by rw [hW]; go_simp
      have y1 : W.cell? ⟨w1.heap.size + 1, 1, none⟩ = some (.int .i64 cy) := by rw [hW]; go_simp
      rw [← hW]
      clear hW
      obtain ⟨l1, l2, l3⟩ := LK.out W.drew (HW.out.1.dr)
      obtain ⟨l4, l5, l6⟩ := LK.out (W.alloc (.cells #[.int .i64 0, .int .i64 0, .int .i64 0] 33)).drew (HW.out.1.alloc' _).dr
      go_cut [8] from 16 to 27 (fun s8 wx => ∃ b8 : Nat, s8 = .pointer (some ⟨b8, 0, none⟩) ∧ Hid (New w1 wx ∧ wx.cell? ⟨b8, 0, none⟩ = some (.int .i64 A) ∧ wx.cell? ⟨b8, 1, none⟩ = some (.int .i64 B) ∧ wx.cell? ⟨b8, 2, none⟩ = some (.int .i64 Q)))
      case first =>
        go_region_held3 (fun V => V.cell? ⟨w1.heap.size, 0, none⟩ = some (.int .i64 ex) ∧ V.cell? ⟨w1.heap.size, 1, none⟩ = some (.int .i64 ey) ∧ V.cell? ⟨w1.heap.size, 2, none⟩ = some (.int .i64 fx) ∧ V.cell? ⟨w1.heap.size, 3, none⟩ = some (.int .i64 fy) ∧ V.cell? ⟨w1.heap.size + 1, 0, none⟩ = some (.int .i64 cx) ∧ V.cell? ⟨w1.heap.size + 1, 1, none⟩ = some (.int .i64 cy))
          (first | go_keep) (first | fail)
        all_goals (
          clear x0 x1 x2 x3 y0 y1 l1 l2 l3 l4 l5 l6
          go_wp2_with fail
          go_meet
          exact ⟨_, rfl, (HW.out.1.alloc' _).dr, by go_simp, by go_simp, by go_simp⟩)
      case rest =>
        obtain ⟨b8, rfl, H8⟩ := hcut
        obtain ⟨_, z0, z1, z2⟩ := H8.out
        have lt8 : b8 < wc.heap.size := World.block_lt_of_cell? wc _ z0
        clear x0 x1 x2 x3 y0 y1 l1 l2 l3 l4 l5 l6 LK
        by_cases hlt : A < min B Q
        · have hIT : Hid (IsT m num ((ex, ey), (fx, fy)) (A, B, Q)) := ⟨(cx, cy), HM.out.1, HT.out.symm, hlt⟩
          go_wp2_with (first
            | (at_builtin; refine wpList_append_own _ rfl _ _ 25 rfl (w.heap.size + 1) 33 i0 (.agg #[.int .i64 0, .int .i64 0, .int .i64 0]) 3 24 Tryz.underlying25 hi0 hz0 hz1 hz2 rfl (by decide) _ _ _ rfl (World.ownsRow.alloc ((H.out.own.kept HM.out.2.2.2.2.2.1 (by omega)).new H8.out.1) _) ⟨wc.heap.size, 0, none⟩ 1 1 [.int .i64 A, .int .i64 B, .int .i64 Q] rfl rfl (World.news_of_block (cs := #[.int .i64 A, .int .i64 B, .int .i64 Q]) (t := 33) (fr := (0, 0)) (heap_alloc_new wc _)) (by simp [Value.oneCell']) (by unfold maxLen; have := HLn.out; omega) (by have := HLn.out; omega) (by have h1 := H.out.sz; have h2 := HM.out.2.2.2.2.2.1.size; have h3 := H8.out.1.size; simp; omega) ?_
               intro v' w4 o4 g4 _
               have HA : Hid (w4.ownsRow (w.heap.size + 1) 33 3 v' (L.length + 1) (L.flatMap encT ++ [.int .i64 A, .int .i64 B, .int .i64 Q]) ∧ (wc.alloc (.cells #[.int .i64 A, .int .i64 B, .int .i64 Q] 33)).grownBy w4 u5.ownBlock) := ⟨o4, g4⟩
               clear o4 g4)
            | go_in)
          have hlo : ∀ k, u5.ownBlock = some k → w.heap.size + 1 ≤ k := fun k hk => (World.ownsRow.lt H.out.own k hk).1
          have hbw := H0.out.2.1
          obtain ⟨r1, r2⟩ := HM.out.2.2.2.1.kept (H8.out.1.alloc' _) (by simp) (by simp)
          obtain ⟨r3, r4⟩ := r1.kept HA.out.2 (fun e => by have := hlo b e.symm; omega) (fun e => by have := hlo _ e.symm; omega)
          have s1 := H.out.new.own HM.out.2.2.2.2.2.1 (Nat.le_refl _)
          refine ⟨⟨vis ++ [((ex, ey), (fx, fy))], L ++ [(A, B, Q)], r3, ?_, ?_, ?_, fun t => ?_, ?_, ?_⟩, by rw [r4, r2]; exact HM.out.2.2.2.2.1⟩
          · exact (s1.trans' (H8.out.1.alloc' _)).ownO HA.out.2 (fun k hk => by have := hlo k hk; omega)
          · unfold OwnT
            rw [List.length_append, List.flatMap_append]
            exact HA.out.1
          · rw [List.nodup_append]
            refine ⟨H.out.nd, by simp, fun a ha c hc => ?_⟩
            simp at hc
            subst hc
            rintro rfl
            obtain ⟨e', he', c', hc', ht', _⟩ := (H.out.iff _).1 ha
            have ht := HT.out
            rw [ht'] at ht
            simp only [triAt, Prod.mk.injEq] at ht
            have := H0.out.2.2.2.2.2.2 _ _ _ _ HM.out.1 hc' ht.1 ht.2.1
            exact HM.out.2.2.1 (this ▸ he')
          · simp only [List.mem_append, List.mem_singleton]
            constructor
            · rintro (k | k)
              · obtain ⟨e, he, k⟩ := (H.out.iff t).1 k
                exact ⟨e, .inl he, k⟩
              · rw [k]; exact ⟨_, .inr rfl, hIT.out⟩
            · rintro ⟨e, he | he, k⟩
              · exact .inl ((H.out.iff t).2 ⟨e, he, k⟩)
              · right
                subst he
                obtain ⟨c', hc', ht', _⟩ := k
                rw [HM.out.1] at hc'
                injection hc' with hc'
                rw [ht', ← hc', HT.out]
          · have a1 := HA.out.2.size
            have a2 := H8.out.1.size
            have a3 := H.out.sz
            have a4 := HM.out.2.2.2.2.2.1.size
            simp at a1
            omega
          · have := H.out.len
            simp
            omega
        · go_wp2_with fail
          have s1 := H.out.step HM.out.2.2.2.2.2.1 HM.out.2.2.2.1 (fun t => by
            rw [H.out.iff]
            simp only [List.mem_append, List.mem_singleton]
            constructor
            · rintro ⟨e, he, k⟩; exact ⟨e, .inl he, k⟩
            · rintro ⟨e, he | he, k⟩
              · exact ⟨e, he, k⟩
              · subst he
                obtain ⟨c', hc', ht', hl'⟩ := k
                rw [HM.out.1] at hc'
                injection hc' with hc'
                rw [ht', ← hc', HT.out] at hl'
                exact absurd hl' hlt) (by simp)
          obtain ⟨s2, s3⟩ := s1.next H8.out.1
          exact ⟨⟨_, _, s2⟩, by rw [s3]; exact HM.out.2.2.2.2.1⟩

end Go.Proofs.YtgeoffpcmkofkaaGreat
/- What Triangulate answers, over whole numbers. -/
namespace Go.Proofs.YtgeoffpcmkofkaaGreat
open Go.RowKit Go.Maps Fl
set_option maxRecDepth 100000

theorem line_exists (s : Pts) : ∃ n, LineIs s n := by
  have hex : ∃ n, min 2 s.length ≤ n ∧ (n < s.length → D (ptAt s 0) (ptAt s 1) (ptAt s n) ≠ 0) := ⟨s.length, Nat.min_le_right _ _, fun h => by omega⟩
  obtain ⟨n, ⟨h1, h2⟩, hmin⟩ := exists_least hex
  have hle : n ≤ s.length := hmin s.length ⟨Nat.min_le_right _ _, fun h => by omega⟩
  refine ⟨n, h1, hle, fun i hi => ?_, h2⟩
  rcases Nat.lt_or_ge i 2 with k | k
  · have : i = 0 ∨ i = 1 := by omega
    rcases this with rfl | rfl
    · exact D_same1 _ _
    · exact D_same2 _ _
  · rcases Classical.em (D (ptAt s 0) (ptAt s 1) (ptAt s i) = 0) with e | e
    · exact e
    · have := hmin i ⟨by omega, fun _ => e⟩
      omega

theorem ok_none (s : Pts) : Ok s (fun _ => none) := by constructor <;> (intro u v w h; cases h)
theorem meshOf_is (s : Pts) (hr : Rising s) : Ok s (meshOf s) := by
  obtain ⟨n, h⟩ := line_exists s
  rcases meshOf_ok h hr with k | k
  · rw [k.2]; exact ok_none s
  · exact k.2.2.1
theorem settled_is (s : Pts) (hr : Rising s) : Ok s (settledM s (meshOf s)) := by
  have hi := inv_start (meshOf_is s hr)
  exact (steps_inv hi _).ok

/-- The numbers of points: of the first that is the same. -/
theorem numN_spec (l : Pts) : ∀ k, k ≤ l.length → ∀ x, (numN l k x = none ∧ ∀ i, i < k → l[i]? ≠ some x) ∨ ∃ i : Nat, i < k ∧ numN l k x = some (i : Int) ∧ l[i]? = some x ∧ ∀ j, j < i → l[j]? ≠ some x
  | 0, _, x => .inl ⟨rfl, fun i h => by omega⟩
  | k + 1, hk, x => by
    have ih := numN_spec l k (by omega)
    have hp : l[k]? = some l[k] := List.getElem?_eq_getElem (by omega)
    simp only [numN, hp]
    rcases ih l[k] with ⟨h1, h2⟩ | ⟨i, h1, h2, h3, h4⟩
    · rw [if_neg (by rw [h1]; simp)]
      by_cases hx : x = l[k]
      · subst hx
        right
        exact ⟨k, by omega, by simp [setN], hp, h2⟩
      · rcases ih x with ⟨g1, g2⟩ | ⟨i, g1, g2, g3, g4⟩
        · left
          refine ⟨by simp [setN, hx, g1], fun i hi => ?_⟩
          rcases Nat.lt_or_ge i k with c | c
          · exact g2 i c
          · have : i = k := by omega
            subst this
            rw [hp]
            exact fun e => hx (by injection e with e; exact e.symm)
        · right
          exact ⟨i, by omega, by simp [setN, hx, g2], g3, g4⟩
    · rw [if_pos (by rw [h2]; rfl)]
      rcases ih x with ⟨g1, g2⟩ | ⟨i', g1, g2, g3, g4⟩
      · left
        refine ⟨g1, fun j hj => ?_⟩
        rcases Nat.lt_or_ge j k with c | c
        · exact g2 j c
        · have : j = k := by omega
          subst this
          rw [hp]
          intro e
          injection e with e
          exact g2 i h1 (by rw [h3, e])
      · right
        exact ⟨i', by omega, g2, g3, g4⟩

/-- The number of a point. -/
def nr (l : Pts) (x : Pt) : Int := atN (numN l l.length) x
theorem nr_spec {l : Pts} {x : Pt} (hx : x ∈ l) : ∃ i : Nat, i < l.length ∧ nr l x = (i : Int) ∧ l[i]? = some x ∧ ∀ j, j < i → l[j]? ≠ some x := by
  obtain ⟨j, hj⟩ := List.mem_iff_getElem?.1 hx
  rcases numN_spec l l.length (Nat.le_refl _) x with ⟨_, h2⟩ | ⟨i, h1, h2, h3, h4⟩
  · exact absurd hj (h2 j (List.getElem?_eq_some_iff.1 hj).1)
  · exact ⟨i, h1, by simp [nr, atN, h2], h3, h4⟩
theorem nr_inj {l : Pts} {x y : Pt} (hx : x ∈ l) (hy : y ∈ l) (h : nr l x = nr l y) : x = y := by
  obtain ⟨i, _, e1, h1, _⟩ := nr_spec hx
  obtain ⟨j, _, e2, h2, _⟩ := nr_spec hy
  have : i = j := by omega
  subst this
  rw [h1] at h2
  injection h2

theorem tri_unique : ∀ {L L' : List Tri3}, L.Nodup → L'.Nodup → (∀ e, e ∈ L ↔ e ∈ L') → L.Pairwise (fun x y => ltOf cmpT y x = false) → L'.Pairwise (fun x y => ltOf cmpT y x = false) → L = L'
  | [], L', _, _, hm, _, _ => by
    cases L' with
    | nil => rfl
    | cons a l => exact absurd ((hm a).2 (by simp)) (by simp)
  | a :: l, [], _, _, hm, _, _ => absurd ((hm a).1 (by simp)) (by simp)
  | a :: l, b :: l', h1, h2, hm, p1, p2 => by
    rw [List.nodup_cons] at h1 h2
    rw [List.pairwise_cons] at p1 p2
    have e : a = b := by
      rcases List.mem_cons.1 ((hm a).1 (by simp)) with e | m1
      · exact e
      · rcases List.mem_cons.1 ((hm b).2 (by simp)) with e | m2
        · exact e.symm
        · have q1 := (ltOf_not _ _ _).1 (p2.1 a m1)
          have q2 := (ltOf_not _ _ _).1 (p1.1 b m2)
          rw [cmpT_neg] at q1 q2
          obtain ⟨a1, a2, a3⟩ := a
          obtain ⟨b1, b2, b3⟩ := b
          simp only [Prod.mk.injEq] at q1 q2 ⊢
          omega
    subst e
    congr 1
    refine tri_unique h1.2 h2.2 (fun x => ?_) p1.2 p2.2
    have hx := hm x
    simp only [List.mem_cons] at hx
    constructor
    · intro hl
      rcases hx.1 (.inr hl) with e | k
      · exact absurd (e ▸ hl) h1.1
      · exact k
    · intro hl
      rcases hx.2 (.inr hl) with e | k
      · exact absurd (e ▸ hl) h2.1
      · exact k
theorem IsTri.unique {m : Ms} {num : Ns} {L L' : List Tri3} (h : IsTri m num L) (h' : IsTri m num L') : L = L' :=
  tri_unique h.nd h'.nd (fun t => by rw [h.iff, h'.iff]) h.pw h'.pw

/-- What is answered where nothing is refused. -/
structure Answer (l : Pts) (L : List Tri3) : Prop where
  is : ∃ s, IsDis l s ∧ IsTri (settledM s (meshOf s)) (numN l l.length) L
theorem Answer.unique {l : Pts} {L L' : List Tri3} (h : Answer l L) (h' : Answer l L') : L = L' := by
  obtain ⟨s, h1, h2⟩ := h.is
  obtain ⟨s', h1', h2'⟩ := h'.is
  have : s = s' := dis_unique h1.rising h1'.rising (fun x => by rw [h1.mem, h1'.mem])
  subst this
  exact h2.unique h2'
theorem Answer.len {l : Pts} {L : List Tri3} (h : Answer l L) (h40 : l.length ≤ 40) : L.length ≤ 64000 := by
  obtain ⟨s, h1, h2⟩ := h.is
  have hs : s.length ≤ 40 := Nat.le_trans h1.len h40
  have hok := settled_is s h1.rising
  have : L.length ≤ ((pairs s).flatMap fun e => s.map fun c => triAt (numN l l.length) e c).length := by
    refine length_le_of_sub h2.nd fun t ht => ?_
    obtain ⟨e, c, hm, ht, _⟩ := (h2.iff t).1 ht
    have := hok.mem e.1 e.2 c hm
    exact List.mem_flatMap.2 ⟨e, mem_pairs.2 ⟨this.1, this.2.1⟩, List.mem_map.2 ⟨c, this.2.2, ht.symm⟩⟩
  have key : ∀ t : List Ed, (t.flatMap fun e => s.map fun c => triAt (numN l l.length) e c).length = t.length * s.length := by
    intro t
    induction t with
    | nil => simp
    | cons a t ih => rw [List.flatMap_cons, List.length_append, ih, List.length_map, List.length_cons, Nat.add_mul]; omega
  rw [key, pairs_length] at this
  have h3 : s.length * s.length * s.length ≤ 40 * 40 * 40 := Nat.mul_le_mul (Nat.mul_le_mul hs hs) hs
  omega
open Classical in
/-- What Triangulate answers. -/
noncomputable def triOf (l : Pts) : List Tri3 := if h : errL l = 0 ∧ ∃ L, Answer l L then h.2.choose else []
theorem triOf_eq {l : Pts} {L : List Tri3} (h0 : errL l = 0) (h : Answer l L) : triOf l = L := by
  have h' : errL l = 0 ∧ ∃ L, Answer l L := ⟨h0, L, h⟩
  unfold triOf
  rw [dif_pos h']
  exact h'.2.choose_spec.unique h
theorem triOf_bad {l : Pts} (h0 : errL l ≠ 0) : triOf l = [] := by
  unfold triOf
  rw [dif_neg (fun h => h0 h.1)]
theorem triOf_len (l : Pts) : (triOf l).length ≤ 1000000 := by
  rcases Classical.em (errL l = 0 ∧ ∃ L, Answer l L) with h | h
  · obtain ⟨L, hL⟩ := h.2
    rw [triOf_eq h.1 hL]
    have := hL.len (errL_ok h.1).1
    omega
  · unfold triOf
    rw [dif_neg h]
    simp

end Go.Proofs.YtgeoffpcmkofkaaGreat
