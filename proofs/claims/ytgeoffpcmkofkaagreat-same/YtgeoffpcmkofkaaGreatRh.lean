/- Going through a map's sides by an iterator: 'Keys' of package maps, 'AppendSeq', 'Collect' and 'SortedFunc' of package slices. -/
import Derived.Test.YtgeoffpcmkofkaaGreatRg
import Derived.Shelf.SlIter.Collect
namespace Go.Proofs.YtgeoffpcmkofkaaGreat
open Go.RowKit Go.Maps Fl
set_option maxRecDepth 100000

section
variable {F : Fence} {k : Nat} (w : World) {ops : Array Oper} {rest : List Oper} {o : Oper} {a : Act} {Q : Exit → Act → World → Prop}
theorem wpListIn_rangeE (hg : o.guard = none) (x : Operand) (hop : o.op = Op.range 51 x) (b n : Nat) (m : Ms) (hm : a.eval x = .map (some b)) (h : MapE w b n m)
    (hK : ∀ w', RangeE w' b w.heap.size n m [] → New w w' → w'.heap.size = w.heap.size + 1 → wpListIn F k Tryz.prog ops Q rest (a.put o.dst (.pointer (some ⟨w.heap.size, 0, none⟩))) w') : wpListIn F k Tryz.prog ops Q (o :: rest) a w := by
  refine wpListIn_plain hg fun K' hK' => ?_
  obtain ⟨w', hr, r1, r2, r3⟩ := h.range
  unfold Oper.wpIn
  refine ⟨by simp [Oper.about, hop], ?_⟩
  rw [Oper.semAt_plain F _ _ (by rw [hop]; intro c hc'; cases hc')]
  simp [execOp, hop, hm, hr, Result.andThen]
  exact hK' _ _ (hK w' r1 r2 r3)
theorem wpListIn_nextE (hg : o.guard = none) (it : Operand) (hop : o.op = Op.next it false) (b r n : Nat) (m : Ms) (vis : List Ed) (hit : a.eval it = .pointer (some ⟨r, 0, none⟩)) (h : RangeE w b r n m vis)
    (hDone : (∀ e, (m e).isSome = true → e ∈ vis) → wpListIn F k Tryz.prog ops Q rest (a.put o.dst (.tuple #[.bool false])) w)
    (hMore : ∀ (e : Ed) (c : Pt) (w' : World), m e = some c → CdE e → e ∉ vis → RangeE w' b r n m (vis ++ [e]) → w'.rangeLeft b r < w.rangeLeft b r → w.grownBy w' (some r) → w'.heap.size = w.heap.size → (Instr.entry (.pointer (some ⟨r, 0, none⟩))).run Tryz.prog w' = .ok (.tuple #[.agg #[.int .i64 e.1.1, .int .i64 e.1.2, .int .i64 e.2.1, .int .i64 e.2.2], .agg #[.int .i64 c.1, .int .i64 c.2]]) w' →
      wpListIn F k Tryz.prog ops Q rest (a.put o.dst (.tuple #[.bool true, .agg #[.int .i64 e.1.1, .int .i64 e.1.2, .int .i64 e.2.1, .int .i64 e.2.2], .agg #[.int .i64 c.1, .int .i64 c.2]])) w') : wpListIn F k Tryz.prog ops Q (o :: rest) a w := by
  refine wpListIn_plain hg fun K' hK' => ?_
  unfold Oper.wpIn
  refine ⟨by simp [Oper.about, hop], ?_⟩
  rw [Oper.semAt_plain F _ _ (by rw [hop]; intro c hc'; cases hc')]
  rcases h.next o.type with ⟨h0, hr⟩ | ⟨e, c, w', h1, h2, h3, hr, h4, h5, h6, h7, h8⟩
  · simp [execOp, hop, hit, hr, Result.andThen]
    exact hK' _ _ (hDone h0)
  · simp [execOp, hop, hit, hr, Result.andThen]
    exact hK' _ _ (hMore e c w' h1 h2 h3 h4 h5 h6 h7 h8)
end

theorem RangeE.walk {w : World} {b r n : Nat} {m : Ms} {vis : List Ed} (h : RangeE w b r n m vis) : ∃ o : Obj, w.heap[r]? = some o ∧ o.isWalk = true := by
  obtain ⟨D, left, cnt, h1, _⟩ := h
  exact h1.iter_walk
theorem RangeE.walks {w w' : World} {b r n : Nat} {m : Ms} {vis : List Ed} (h : RangeE w b r n m vis) (hk : KeepsWalks w w') : RangeE w' b r n m vis ∧ w'.rangeLeft b r = w.rangeLeft b r := by
  obtain ⟨D, left, cnt, h1, h2⟩ := h
  have k := h1.of_walks hk
  exact ⟨⟨D, left, cnt, k, h2⟩, by rw [k.left_eq, h1.left_eq]⟩

set_option maxHeartbeats 2000000 in
/-- The iterator over a map's sides: they come, each once. -/
theorem keysE_in (rm : Nat) (hrm : 1 ≤ rm) (l Bm b n : Nat) (m : Ms) (PS : List Ed) (hPS : ∀ e, (m e).isSome = true → e ∈ PS) (J : List Ed → World → Prop)
    (hY : ∀ pre x W, J pre W → pre.length < PS.length → YieldAt Fence.wide (rm - 1) Tryz.prog l #[edV x] W fun e W' => e = .returned (.bool true) ∧ J (pre ++ [x]) W' ∧ KeepsWalks W W')
    (W : World) (hJ : AbidesFrom W.heap.size J) (hm : W.cell? ⟨Bm, 0, none⟩ = some (.map (some b))) (hown : MapE W b n m) (h0 : J [] W) :
    CallsIn Fence.wide rm Tryz.prog 70 #[.func (.yield l) #[] #[], .pointer (some ⟨Bm, 0, none⟩)] W fun e W' => (∃ v, e = .returned v) ∧ ∃ L : List Ed, L.Nodup ∧ (∀ e, e ∈ L ↔ (m e).isSome = true) ∧ J L W' := by
  refine callsIn_of_wp Tryz.func70 rfl trivial ?_ rfl
  simp only [Tryz.ntmps70, List.size_toArray, List.length_cons, List.length_nil, Nat.reduceAdd, Nat.reduceSub, Array.replicate_succ, Array.replicate_zero, List.push_toArray, List.append_toArray, List.nil_append, List.cons_append]
  gi_wp2_with (first
    | (gi_at_range; refine wpListIn_rangeE _ rfl _ rfl b n m rfl hown ?_; intro w0 hrg0 hg0 hs0)
    | gi_in)
  go_frame
  gi_loopw [3] (fun _ wr => ∃ vis : List Ed, RangeE wr b W.heap.size n m vis ∧ J vis wr) (fun _ wr => wr.rangeLeft b W.heap.size)
  case atStart => exact ⟨[], hrg0, hJ [] W w0 none h0 hg0 (fun r e => by cases e)⟩
  case round =>
    obtain ⟨vis, hrg, hJs⟩ := hrel
    gi_wp2_with (first
      | (gi_at_next; refine wpListIn_nextE _ rfl _ rfl b W.heap.size n m vis rfl hrg ?_ ?_)
      | gi_in)
    · intro hall
      gi_wp2
      go_end0
      exact ⟨⟨_, rfl⟩, vis, hrg.nodup.1, fun e => ⟨hrg.nodup.2 e, fun k => hall e.1.1 e.1.2 e.2.1 e.2.2 k⟩, hJs⟩
    · intro ex ey fx fy cx cy w2 hmc he hnv hrg2 hlt hg2 hs2 hen
      have hJ2 : J vis w2 := hJ vis wr w2 (some W.heap.size) hJs hg2 (fun r e => by cases e; exact ⟨Nat.le_refl _, hrg.walk⟩)
      have hJ3 : J vis (w2.alloc (.cells #[.int .i64 ex, .int .i64 ey, .int .i64 fx, .int .i64 fy] 65)) := hJ vis w2 _ none hJ2 (World.grownBy_alloc _ _ _) (fun r e => by cases e)
      have hlen : vis.length < PS.length := by
        have := length_le_of_sub (l₁ := vis ++ [((ex, ey), (fx, fy))]) (l₂ := PS) hrg2.nodup.1 (fun e he => hPS e (hrg2.nodup.2 e he))
        simp at this
        omega
      obtain ⟨fn, tmps, assign, body, hy, hR⟩ := hY vis ((ex, ey), (fx, fy)) _ hJ3 hlen
      have hrg3 := (hrg2.kept (World.grownBy_alloc w2 (.cells #[.int .i64 ex, .int .i64 ey, .int .i64 fx, .int .i64 fy] 65) none) (by simp) (by simp))
      have hy' : (Instr.yield l #[.agg #[.int .i64 ex, .int .i64 ey, .int .i64 fx, .int .i64 fy]]).run Tryz.prog (w2.alloc (.cells #[.int .i64 ex, .int .i64 ey, .int .i64 fx, .int .i64 fy] 65)) = .ok (.round l fn tmps assign body) (w2.alloc (.cells #[.int .i64 ex, .int .i64 ey, .int .i64 fx, .int .i64 fy] 65)) := hy
      clear hs2 hy
      gi_wp2
      refine hR.mono ?_
      rintro e W3 ⟨rfl, hJ4, hk4⟩
      gi_wp2
      obtain ⟨r4, r5⟩ := hrg3.1.walks hk4
      go_roundw
      case rel => exact ⟨_, r4, hJ4⟩
      case measure => rw [r5, hrg3.2]; exact hlt

end Go.Proofs.YtgeoffpcmkofkaaGreat
