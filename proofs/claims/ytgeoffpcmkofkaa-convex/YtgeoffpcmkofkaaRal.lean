/- Yo: texts laid into one. -/
import Derived.Test.YtgeoffpcmkofkaaRah
import Derived.Test.YtgeoffpcmkofkaaRaf
import Derived.Deep.RegionHeld3
import Derived.Laws.CopyOwn
/- The walk of plumblaw's 'lent': points with a place behind them. -/
namespace Go.Proofs.Ytgeoffpcmkofkaa
open Go.RowKit Fl
set_option maxRecDepth 100000

theorem made_zero (m : Nat) : (madeCells #[.int .i64 0, .int .i64 0] m).toList = List.replicate m (.int .i64 0) := by
  rw [List.eq_replicate_iff]
  refine ⟨by simp [madeCells], ?_⟩
  intro b hb
  simp only [madeCells, Array.toList_map, Array.toList_range, List.mem_map] at hb
  obtain ⟨j, _, rfl⟩ := hb
  have h : j % #[Value.int .i64 0, Value.int .i64 0].size = 0 ∨ j % #[Value.int .i64 0, Value.int .i64 0].size = 1 := by simp; omega
  rcases h with h | h <;> rw [h] <;> rfl

theorem flatP_length (l : Pts) : (flatP l).length = l.length * 2 := by
  induction l with
  | nil => rfl
  | cons p l ih => simp [flatP, ih]; omega
theorem flatP_get : ∀ (l : Pts) (i : Nat) (h : i < l.length), (flatP l)[i * 2]? = some (.int .i64 l[i].1) ∧ (flatP l)[i * 2 + 1]? = some (.int .i64 l[i].2)
  | [], i, h => by simp at h
  | p :: l, 0, h => ⟨rfl, rfl⟩
  | p :: l, i + 1, h => by
    have := flatP_get l i (by simpa using h)
    have e1 : (i + 1) * 2 = i * 2 + 1 + 1 := by omega
    rw [e1]
    simpa [flatP] using this
theorem flatP_one (l : Pts) : ∀ v ∈ flatP l, v.oneCell' = true := by
  induction l with
  | nil => intro v h; simp [flatP] at h
  | cons p l ih =>
    intro v h
    simp only [flatP, List.mem_cons] at h
    rcases h with rfl | rfl | h
    · rfl
    · rfl
    · exact ih v h
/-- A row of points. -/
theorem pts_row {w : World} {g : Nat} {l : Pts} {cur : Array Value} {t : TypeId} (hg : w.heap[g]? = some (.cells cur t (0, 0))) (hc : cur = (flatP l).toArray) : PtsAt w g 0 l := by
  intro i hi
  have := flatP_get l i hi
  rw [Nat.zero_add, cell_of_row w g _ _ t (0, 0) hg, cell_of_row w g _ _ t (0, 0) hg, hc]
  simpa using this
/-- Cells of points that lie there. -/
theorem pts_cells {w : World} {g off : Nat} {l : Pts} (h : PtsAt w g off l) : ∀ j v, (flatP l)[j]? = some v → w.cell? ((⟨g, off, none⟩ : Addr).add j) = some v := by
  intro j v hv
  have hj : j < (flatP l).length := (List.getElem?_eq_some_iff.1 hv).1
  rw [flatP_length] at hj
  have hadd : (⟨g, off, none⟩ : Addr).add j = ⟨g, off + j, none⟩ := by unfold Addr.add; split <;> simp_all
  rw [hadd]
  have hi : j / 2 < l.length := by omega
  have f := flatP_get l (j / 2) hi
  have c := h (j / 2) hi
  rcases (show j = j / 2 * 2 ∨ j = j / 2 * 2 + 1 by omega) with e | e
  · rw [e] at hv ⊢
    rw [f.1] at hv
    rw [c.1, hv]
  · rw [e] at hv ⊢
    rw [f.2] at hv
    rw [← Nat.add_assoc, c.2, hv]

/-- 'copy' of elements of two cells, onto the head of a row. -/
theorem run_copy_pairs {P : Program} (w : World) (dT sT ty elem : TypeId) (g dLen dCap : Nat) (sp : Option Addr) (sLen sCap : Nat) (cur : Array Value) (t : TypeId) (cs : List Value) (n : Nat)
    (hu : P.underlying dT = some (.slice elem)) (hs : (P.info? elem).map (·.size) = some 2) (hg : w.heap[g]? = some (.cells cur t (0, 0))) (hn : n = Nat.min sLen dLen) (hcs : cs.length = n * 2)
    (hsrc : 0 < n → ∃ ad, sp = some ad ∧ ∀ j v, cs[j]? = some v → w.cell? (ad.add j) = some v) (hfit : cs.length ≤ cur.size) (h1 : ∀ v ∈ cs, v.oneCell' = true) :
    (Builtin.copy_ #[dT, sT] ty #[.slice (some ⟨g, 0, none⟩) dLen dCap, .slice sp sLen sCap]).run P w = .ok (goInt n) (w.setRow g (cs ++ cur.toList.drop cs.length).toArray) := by
  cases hq : P.info? elem with
  | none => simp [hq] at hs
  | some i =>
    have hi : i.size = 2 := by simpa [hq] using hs
    by_cases h0 : 0 < n
    · obtain ⟨ad, rfl, hsr⟩ := hsrc h0
      have hl := run_loadCells_list (P := P) w ad cs hsr
      have hst := run_storeCells_at P g 0 t cs 0 cur w hg (by simpa using hfit) h1
      simp [Builtin.copy_, run_underlying hu, Builtin.lenOf, Builtin.firstCells, sizeOf, typeInfo, hq, hi, ← hn, ← hcs, hl, hst]
    · have hn0 : n = 0 := by omega
      subst hn0
      have hc0 : cs = [] := List.eq_nil_of_length_eq_zero (by omega)
      subst hc0
      have hset : w.setRow g ([] ++ cur.toList.drop ([] : List Value).length).toArray = w := by simpa using setRow_self w g cur t (0, 0) hg
      rw [hset]
      have hl : ∀ (x : Addr), (loadCells x 0).run P w = .ok #[] w := fun x => by simpa using run_loadCells_list (P := P) w x [] (by simp)
      cases sp <;> simp [Builtin.copy_, run_underlying hu, Builtin.lenOf, Builtin.firstCells, sizeOf, typeInfo, hq, ← hn, storeCells, hl]

theorem wpList_copy_pairs {P : Program} {w : World} {ops : Array Oper} {rest : List Oper} {o : Oper} {a : Act} {Q : Exit → Act → World → Prop} (hgd : o.guard = none) (d s : Operand) (dT sT : TypeId)
    (ho : o.op = .call { callee := .builtin .copy, args := #[d, s], argTypes := #[dT, sT] }) (elem : TypeId) (hu : P.underlying dT = some (.slice elem)) (hsz : (P.info? elem).map (·.size) = some 2)
    (g dLen dCap : Nat) (sp : Option Addr) (sLen sCap : Nat) (hd : a.eval d = .slice (some ⟨g, 0, none⟩) dLen dCap) (hs : a.eval s = .slice sp sLen sCap) (cur : Array Value) (t : TypeId) (cs : List Value) (n : Nat)
    (hg : w.heap[g]? = some (.cells cur t (0, 0))) (hn : n = Nat.min sLen dLen) (hcs : cs.length = n * 2)
    (hsrc : 0 < n → ∃ ad, sp = some ad ∧ ∀ j v, cs[j]? = some v → w.cell? (ad.add j) = some v) (hfit : cs.length ≤ cur.size) (h1 : ∀ v ∈ cs, v.oneCell' = true)
    (h : ∀ w', w' = w.setRow g (cs ++ cur.toList.drop cs.length).toArray → wpList P ops Q rest (a.put o.dst (goInt n)) w') : wpList P ops Q (o :: rest) a w := by
  refine wpList_plain hgd fun K hK => ?_
  have hrun := run_copy_pairs (P := P) w dT sT o.type elem g dLen dCap sp sLen sCap cur t cs n hu hsz hg hn hcs hsrc hfit h1
  unfold Oper.wp
  simp [execOp, ho, resolve, invoke, builtin, hd, hs, hrun, Result.andThen]
  exact hK _ _ (by simpa using h _ rfl)

/-- What 'lent' leaves. -/
structure Lent (w w' : World) (l : Pts) : Prop where
  new : New w w'
  pts : PtsAt w' w.heap.size 0 (l ++ [(0, 0)])
  lt : w.heap.size < w'.heap.size
  row : w'.heap[w.heap.size]? = some (.cells (flatP (l ++ [(0, 0)])).toArray 23 (0, 0))

theorem New.kept' {w w' : World} (h : New w w') {a : Addr} {v : Value} (hc : w.cell? a = some v) : w'.cell? a = some v :=
  (World.cell?_of_block (h.block a.block (World.block_lt_of_cell? w _ hc) (by simp))).trans hc

theorem Lent.drew {w w' : World} {l : Pts} (h : Lent w w' l) : Lent w w'.drew l := ⟨h.new.drewN 1, h.pts, h.lt, h.row⟩
theorem eq_nil_some (a : Addr) (n cap : Nat) (w : World) : (binOp BinOp.eql 28 (.slice (some a) n cap) (.slice none 0 0)).run Try.prog w = .ok (.bool false) w := by kernel_rfl
theorem eq_nil_none (w : World) : (binOp BinOp.eql 28 (.slice none 0 0) (.slice none 0 0)).run Try.prog w = .ok (.bool true) w := by kernel_rfl

set_option maxHeartbeats 1600000 in
theorem lent_some (a : Addr) (cap : Nat) (l : Pts) (w : World) (h : PolyAt w (some a) l) (hs : cap ≤ 10000000000000) (hc : l.length ≤ cap) :
    Calls Try.prog 26 #[.slice (some a) l.length cap] w fun e w' => e = .returned (.tuple #[.slice (some ⟨w.heap.size, 0, none⟩) (l.length + 1) (l.length + 1), .slice (some ⟨w.heap.size, 0, none⟩) l.length (l.length + 1)]) ∧ Hid (Lent w w' l) := by
  obtain ⟨i0, hi0, hz0, hz1, hz2⟩ := info_parts Try.info23
  have HP : Hid (PolyAt w (some a) l) := h
  have HS : Hid ((Try.prog.info? 23).map (·.size) = some 2) := by rw [Hid, hi0]; simp [hz1]
  go_enter Try.func26, Try.ntmps26
  go_wp2_with (at_make; refine wpList_make_full _ rfl _ _ 28 rfl w.heap.size 23 i0 (.agg #[.int .i64 0, .int .i64 0]) 2 Try.underlying28 hi0 hz0 hz1 _ _ _ _ ((l.length + 1)) rfl rfl (by omega) (by omega) ?b2 ?b3 ?b4 ?_)
  case b2 => rw [hz2]; omega
  case b3 => unfold maxLen; omega
  case b4 => exact Nat.le_refl _
  intro w0 hown0 hgrow0
  have HN0 : Hid (New w w0) := hgrow0
  obtain ⟨cur, hcur⟩ : ∃ cur, w0.heap[w.heap.size]? = some (.cells cur 23 (0, 0)) ∧ cur.toList = List.replicate ((l.length + 1) * 2) (.int .i64 0) := by
    rcases hown0.2 with ⟨e, _⟩ | ⟨g, cap', cur, e, _, e3, _, _, e6, e7⟩
    · simp at e
    · injection e with e1 e2 e4
      simp only [Option.some.injEq, Addr.mk.injEq, and_true] at e1
      subst e1 e4
      refine ⟨cur, e3, ?_⟩
      have : cur.toList.take ((l.length + 1) * 2) = cur.toList := List.take_of_length_le (by simp [e6])
      rw [← this, e7]
      exact made_zero _
  have HCUR : Hid (w0.heap[w.heap.size]? = some (.cells cur 23 (0, 0)) ∧ cur.toList = List.replicate ((l.length + 1) * 2) (.int .i64 0)) := hcur
  clear hcur hown0 hgrow0
  have hcp := run_copy_pairs (P := Try.prog) w0 28 28 3 23 w.heap.size (l.length + 1) (l.length + 1) (some a) l.length cap cur 23 (flatP l) l.length Try.underlying28 HS.out HCUR.out.1 (by simp) (flatP_length l)
    (fun h0 => by
      obtain ⟨g, off, e, h1, h2⟩ := HP.out h0
      exact ⟨_, e, fun j v hv => HN0.out.kept' (pts_cells h1 j v hv)⟩)
    (by
      have : cur.size = (l.length + 1) * 2 := by rw [← Array.length_toList, HCUR.out.2]; simp
      rw [flatP_length, this]; simp <;> omega) (flatP_one l)
  obtain ⟨w1, hw1⟩ : ∃ w1, w1 = w0.setRow w.heap.size (flatP l ++ cur.toList.drop (flatP l).length).toArray := ⟨_, rfl⟩
  rw [← hw1] at hcp
  have HL : Hid (Lent w w1 l) := by
    have hb : w1.heap[w.heap.size]? = some (.cells (flatP (l ++ [(0, 0)])).toArray 23 (0, 0)) := by
      rw [hw1]
      have : (flatP l ++ cur.toList.drop (flatP l).length).toArray = (flatP (l ++ [(0, 0)])).toArray := by
        rw [HCUR.out.2, flatP_append, List.drop_replicate, flatP_length, show (l.length + 1) * 2 - l.length * 2 = 2 by omega]; rfl
      rw [← this]
      exact setRow_heap w0 w.heap.size _ _ 23 _ HCUR.out.1
    exact ⟨by rw [hw1]; exact Below.new' (below_setRow (New.below' HN0.out) (Nat.le_refl _) _), pts_row hb rfl, (Array.getElem?_eq_some_iff.1 hb).1, hb⟩
  clear hw1
  have heq := eq_nil_some a l.length cap w1
  go_wp2_with fail
  have hb0 : (0 : Int) ≤ (l.length : Int) := by omega
  have hb1 : (l.length : Int) ≤ (l.length : Int) + 1 := by omega
  go_region_held3 (fun _ => True) (trivial) (first | fail)
  go_wp2_with fail
  go_ret2
  exact ⟨rfl, HL.out.drew⟩

set_option maxHeartbeats 1600000 in
theorem lent_nil (w : World) :
    Calls Try.prog 26 #[.slice none 0 0] w fun e w' => e = .returned (.tuple #[.slice (some ⟨w.heap.size, 0, none⟩) 1 1, .slice none 0 0]) ∧ Hid (Lent w w' ([] : Pts)) := by
  obtain ⟨i0, hi0, hz0, hz1, hz2⟩ := info_parts Try.info23
  have HP : Hid (PolyAt w none ([] : Pts)) := fun h => by simp at h
  have HS : Hid ((Try.prog.info? 23).map (·.size) = some 2) := by rw [Hid, hi0]; simp [hz1]
  go_enter Try.func26, Try.ntmps26
  go_wp2_with (at_make; refine wpList_make_full _ rfl _ _ 28 rfl w.heap.size 23 i0 (.agg #[.int .i64 0, .int .i64 0]) 2 Try.underlying28 hi0 hz0 hz1 _ _ _ _ (1) rfl rfl (by omega) (by omega) ?b2 ?b3 ?b4 ?_)
  case b2 => rw [hz2]; omega
  case b3 => unfold maxLen; omega
  case b4 => exact Nat.le_refl _
  intro w0 hown0 hgrow0
  have HN0 : Hid (New w w0) := hgrow0
  obtain ⟨cur, hcur⟩ : ∃ cur, w0.heap[w.heap.size]? = some (.cells cur 23 (0, 0)) ∧ cur.toList = List.replicate (1 * 2) (.int .i64 0) := by
    rcases hown0.2 with ⟨e, _⟩ | ⟨g, cap', cur, e, _, e3, _, _, e6, e7⟩
    · simp at e
    · injection e with e1 e2 e4
      simp only [Option.some.injEq, Addr.mk.injEq, and_true] at e1
      subst e1 e4
      refine ⟨cur, e3, ?_⟩
      have : cur.toList.take (1 * 2) = cur.toList := List.take_of_length_le (by simp [e6])
      rw [← this, e7]
      exact made_zero _
  have HCUR : Hid (w0.heap[w.heap.size]? = some (.cells cur 23 (0, 0)) ∧ cur.toList = List.replicate (1 * 2) (.int .i64 0)) := hcur
  clear hcur hown0 hgrow0
  have hcp := run_copy_pairs (P := Try.prog) w0 28 28 3 23 w.heap.size 1 1 none 0 0 cur 23 (flatP ([] : Pts)) 0 Try.underlying28 HS.out HCUR.out.1 (by rfl) (flatP_length ([] : Pts))
    (fun h0 => by
      obtain ⟨g, off, e, h1, h2⟩ := HP.out h0
      exact ⟨_, e, fun j v hv => HN0.out.kept' (pts_cells h1 j v hv)⟩)
    (by
      have : cur.size = 1 * 2 := by rw [← Array.length_toList, HCUR.out.2]; simp
      rw [flatP_length, this]; simp <;> omega) (flatP_one ([] : Pts))
  obtain ⟨w1, hw1⟩ : ∃ w1, w1 = w0.setRow w.heap.size (flatP ([] : Pts) ++ cur.toList.drop (flatP ([] : Pts)).length).toArray := ⟨_, rfl⟩
  rw [← hw1] at hcp
  have HL : Hid (Lent w w1 ([] : Pts)) := by
    have hb : w1.heap[w.heap.size]? = some (.cells (flatP (([] : Pts) ++ [(0, 0)])).toArray 23 (0, 0)) := by
      rw [hw1]
      have : (flatP ([] : Pts) ++ cur.toList.drop (flatP ([] : Pts)).length).toArray = (flatP (([] : Pts) ++ [(0, 0)])).toArray := by
        rw [HCUR.out.2, flatP_append, List.drop_replicate, flatP_length, show 1 * 2 - ([] : Pts).length * 2 = 2 by rfl]; rfl
      rw [← this]
      exact setRow_heap w0 w.heap.size _ _ 23 _ HCUR.out.1
    exact ⟨by rw [hw1]; exact Below.new' (below_setRow (New.below' HN0.out) (Nat.le_refl _) _), pts_row hb rfl, (Array.getElem?_eq_some_iff.1 hb).1, hb⟩
  clear hw1
  have heq := eq_nil_none w1
  go_wp2_with fail
  go_ret2
  exact ⟨rfl, HL⟩

end Go.Proofs.Ytgeoffpcmkofkaa
