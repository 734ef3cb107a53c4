/- A map from directed sides to points, as the program keeps it: looked up, written, struck out, gone through. -/
import Derived.Test.YtgeoffpcmkofkaaGreatMa
namespace Go.Proofs.YtgeoffpcmkofkaaGreat
open Go.RowKit Go.Maps Fl
set_option maxRecDepth 100000

def ptD (p : Pt) : DataW Unit := .agg [.lit (.int .i64 p.1), .lit (.int .i64 p.2)]
theorem ptD_inj {p q : Pt} (h : ptD p = ptD q) : p = q := by
  simp [ptD] at h; exact pt_ext h.1 h.2
open Classical in
noncomputable def ptElem (v : Value) : Option (DataW Unit × List MemPlace) := if h : ∃ p, v = ptV p then some (ptD h.choose, []) else none
theorem ptElem_mk (p : Pt) : ptElem (ptV p) = some (ptD p, []) := by
  have h : ∃ q, ptV p = ptV q := ⟨p, rfl⟩
  unfold ptElem
  rw [dif_pos h, ptV_inj h.choose_spec.symm]
theorem ptElem_inv {v : Value} {z : DataW Unit × List MemPlace} (h : ptElem v = some z) : ∃ p, v = ptV p ∧ z = (ptD p, []) := by
  unfold ptElem at h
  split at h
  · rename_i k; injection h with h; exact ⟨_, k.choose_spec, h.symm⟩
  · cases h

/-- What is looked up. -/
def atM (m : Ms) (e : Ed) : Pt := (m e).getD (0, 0)
structure Reads (D : DataW Unit) (m : Ms) : Prop where
  sup : ∀ e c, m e = some c → CdE e
  has : ∀ e, CdE e → Maps.has D (litE e) = (m e).isSome
  look : ∀ e c, m e = some c → ∀ z, D.atKey (litE e) z = ptD c
  key : ∀ k, Maps.has D k = true → ∃ e, CdE e ∧ k = litE e

theorem reads_empty : Reads (.map []) (fun _ => none) := ⟨fun _ _ h => (by cases h), fun _ _ => rfl, fun _ _ h => (by cases h), fun _ h => (by simp [Maps.has] at h)⟩

theorem Reads.put {D : DataW Unit} {m : Ms} (h : Reads D m) (hD : IsMap D) {e : Ed} (he : CdE e) (c : Pt) : Reads (D.put (litE e) (ptD c)) (setM m e c) := by
  have hk := litE_key he
  refine ⟨?_, ?_, ?_, ?_⟩
  · intro f d hf
    unfold setM at hf
    split at hf
    · rename_i k; rw [k]; exact he
    · exact h.sup f d hf
  · intro f hf
    by_cases k : f = e
    · subst k
      rw [Maps.has_put_same hD hk]; simp [setM]
    · rw [Maps.has_put_other (fun c => k (litE_inj hf he c)), h.has f hf]; simp [setM, k]
  · intro f d hf z
    by_cases k : f = e
    · subst k
      rw [Maps.atKey_put_same hD hk]
      simp [setM] at hf; rw [hf]
    · have hf' : m f = some d := by simpa [setM, k] using hf
      rw [Maps.atKey_put_other (fun c => k (litE_inj (h.sup f d hf') he c)), h.look f d hf']
  · intro k hk'
    by_cases q : k = litE e
    · exact ⟨e, he, q⟩
    · rw [Maps.has_put_other q] at hk'; exact h.key k hk'

theorem Reads.del {D : DataW Unit} {m : Ms} (h : Reads D m) {e : Ed} (he : CdE e) : Reads (D.del (litE e)) (delM m e) := by
  refine ⟨?_, ?_, ?_, ?_⟩
  · intro f d hf
    unfold delM at hf
    split at hf
    · cases hf
    · exact h.sup f d hf
  · intro f hf
    by_cases k : f = e
    · subst k
      rw [Maps.has_del_same]; simp [delM]
    · rw [Maps.has_del_other (fun c => k (litE_inj hf he c)), h.has f hf]; simp [delM, k]
  · intro f d hf z
    by_cases k : f = e
    · subst k; simp [delM] at hf
    · have hf' : m f = some d := by simpa [delM, k] using hf
      rw [Maps.atKey_del_other (fun c => k (litE_inj (h.sup f d hf') he c)), h.look f d hf']
  · intro k hk'
    by_cases q : k = litE e
    · subst q; rw [Maps.has_del_same] at hk'; cases hk'
    · rw [Maps.has_del_other q] at hk'; exact h.key k hk'

/-- The map lies in block b. -/
def MapE (w : World) (b n : Nat) (m : Ms) : Prop := ∃ D, w.ownsMap Tryz.prog 65 ptElem b n D ∧ Reads D m
theorem MapE.kept {w w' : World} {b n : Nat} {m : Ms} {row : Option Nat} (h : MapE w b n m) (hg : w.grownBy w' row) (hne : some b ≠ row) : MapE w' b n m := by
  obtain ⟨D, h1, h2⟩ := h
  exact ⟨D, h1.kept hg hne, h2⟩
theorem MapE.new {w w' : World} {b n : Nat} {m : Ms} (h : MapE w b n m) (hg : New w w') : MapE w' b n m := h.kept hg (by simp)
theorem MapE.lt {w : World} {b n : Nat} {m : Ms} (h : MapE w b n m) : b < w.heap.size := by obtain ⟨D, h1, _⟩ := h; exact h1.lt
theorem MapE.mono {w : World} {b n n' : Nat} {m : Ms} (h : MapE w b n m) (hn : n ≤ n') : MapE w b n' m := by obtain ⟨D, h1, h2⟩ := h; exact ⟨D, h1.mono hn, h2⟩
theorem mapE_made (w : World) : MapE (w.alloc (.map #[] 0)) w.heap.size 0 (fun _ => none) := ⟨_, World.ownsMap_made w _ _ _, reads_empty⟩

theorem zero36 (w : World) : (zeroValue 36).run Tryz.prog w = .ok (ptV (0, 0)) w := by kernel_rfl
theorem MapE.sup {w : World} {b n : Nat} {m : Ms} (h : MapE w b n m) {e : Ed} {c : Pt} (hm : m e = some c) : CdE e := by obtain ⟨D, _, h2⟩ := h; exact h2.sup e c hm

theorem MapE.look_ok {w : World} {b n : Nat} {m : Ms} (h : MapE w b n m) {e : Ed} (he : CdE e) :
    (Instr.lookup 51 (.map (some b)) (edV e) true).run Tryz.prog w = .ok (.tuple #[ptV (atM m e), .bool (m e).isSome]) w := by
  obtain ⟨D, h1, h2⟩ := h
  obtain ⟨v, ps, hr, hv⟩ := h1.look_ok law65 Tryz.underlying51 (zero36 w) (ptElem_mk (0, 0)) (key65 he)
  rw [hr, h2.has e he]
  obtain ⟨p, rfl, hp⟩ := ptElem_inv hv
  have : p = atM m e := by
    injection hp with hp _
    cases hm : m e with
    | none =>
      have : Maps.has D (litE e) = false := by rw [h2.has e he, hm]; rfl
      rw [Maps.atKey_of_not_has this] at hp
      rw [ptD_inj hp.symm]; simp [atM, hm]
    | some c => rw [h2.look e c hm] at hp; rw [ptD_inj hp.symm]; simp [atM, hm]
  rw [this]
theorem MapE.look {w : World} {b n : Nat} {m : Ms} (h : MapE w b n m) {e : Ed} (he : CdE e) :
    (Instr.lookup 51 (.map (some b)) (edV e) false).run Tryz.prog w = .ok (ptV (atM m e)) w := by
  obtain ⟨D, h1, h2⟩ := h
  obtain ⟨v, ps, hr, hv⟩ := h1.lookup law65 Tryz.underlying51 (zero36 w) (ptElem_mk (0, 0)) (key65 he)
  rw [hr]
  obtain ⟨p, rfl, hp⟩ := ptElem_inv hv
  have : p = atM m e := by
    injection hp with hp _
    cases hm : m e with
    | none =>
      have : Maps.has D (litE e) = false := by rw [h2.has e he, hm]; rfl
      rw [Maps.atKey_of_not_has this] at hp
      rw [ptD_inj hp.symm]; simp [atM, hm]
    | some c => rw [h2.look e c hm] at hp; rw [ptD_inj hp.symm]; simp [atM, hm]
  rw [this]
theorem MapE.store {w : World} {b n : Nat} {m : Ms} (h : MapE w b n m) (hn : n < maxLen) {e : Ed} (he : CdE e) (c : Pt) :
    ∃ w', (Instr.mapUpdate 51 (.map (some b)) (edV e) (ptV c)).run Tryz.prog w = .ok () w' ∧ MapE w' b (n + 1) (setM m e c) ∧ w.mapTurned w' b := by
  obtain ⟨D, h1, h2⟩ := h
  obtain ⟨w', hr, r1, r2⟩ := h1.store law65 Tryz.underlying51 hn (key65 he) (ptElem_mk c)
  exact ⟨w', hr, ⟨_, r1, h2.put h1.isMap he c⟩, r2⟩
theorem MapE.drop {w : World} {b n : Nat} {m : Ms} (h : MapE w b n m) {e : Ed} (he : CdE e) (ty : TypeId) :
    ∃ w', (Builtin.delete_ #[51, 65] ty #[.map (some b), edV e]).run Tryz.prog w = .ok (.tuple #[]) w' ∧ MapE w' b n (delM m e) ∧ w.mapTurned w' b := by
  obtain ⟨D, h1, h2⟩ := h
  obtain ⟨w', hr, r1, r2⟩ := h1.drop law65 Tryz.underlying51 (key65 he) ty
  exact ⟨w', hr, ⟨_, r1, h2.del he⟩, r2⟩

/-! ### At the operation -/
section
variable (w : World) {ops : Array Oper} {rest : List Oper} {o : Oper} {a : Act} {Q : Exit → Act → World → Prop}
theorem wpList_lookE_ok (hg : o.guard = none) (x y : Operand) (hop : o.op = Op.lookup 51 x y true) (b n : Nat) (m : Ms) (hm : a.eval x = .map (some b)) (h : MapE w b n m) (e : Ed) (hy : a.eval y = edV e) (he : CdE e)
    (hK : wpList Tryz.prog ops Q rest (a.put o.dst (.tuple #[.agg #[.int .i64 (atM m e).1, .int .i64 (atM m e).2], .bool (m e).isSome])) w) : wpList Tryz.prog ops Q (o :: rest) a w := by
  refine wpList_plain hg fun K' hK' => ?_
  unfold Oper.wp
  simp [execOp, hop, hm, hy, h.look_ok he, Result.andThen]
  exact hK' _ _ hK
theorem wpList_lookE (hg : o.guard = none) (x y : Operand) (hop : o.op = Op.lookup 51 x y false) (b n : Nat) (m : Ms) (hm : a.eval x = .map (some b)) (h : MapE w b n m) (e : Ed) (hy : a.eval y = edV e) (he : CdE e)
    (hK : wpList Tryz.prog ops Q rest (a.put o.dst (.agg #[.int .i64 (atM m e).1, .int .i64 (atM m e).2])) w) : wpList Tryz.prog ops Q (o :: rest) a w := by
  refine wpList_plain hg fun K' hK' => ?_
  unfold Oper.wp
  simp [execOp, hop, hm, hy, h.look he, Result.andThen]
  exact hK' _ _ hK
theorem wpList_storeE (hg : o.guard = none) (x y z : Operand) (hop : o.op = Op.mapUpdate 51 x y z) (b n : Nat) (m : Ms) (hm : a.eval x = .map (some b)) (h : MapE w b n m) (hn : n < maxLen) (e : Ed) (c : Pt) (hy : a.eval y = edV e) (hz : a.eval z = ptV c) (he : CdE e)
    (hK : ∀ w', MapE w' b (n + 1) (setM m e c) → w.mapTurned w' b → wpList Tryz.prog ops Q rest (a.put o.dst undef) w') : wpList Tryz.prog ops Q (o :: rest) a w := by
  refine wpList_plain hg fun K' hK' => ?_
  obtain ⟨w', hr, r1, r2⟩ := h.store hn he c
  unfold Oper.wp
  simp [execOp, hop, hm, hy, hz, hr, Result.andThen]
  exact hK' _ _ (hK w' r1 r2)
theorem wpList_dropE (hg : o.guard = none) (x y : Operand) (hop : o.op = Op.call { callee := Callee.builtin Builtin.delete, args := #[x, y], argTypes := #[51, 65] }) (b n : Nat) (m : Ms) (hm : a.eval x = .map (some b)) (h : MapE w b n m) (e : Ed) (hy : a.eval y = edV e) (he : CdE e)
    (hK : ∀ w', MapE w' b n (delM m e) → w.mapTurned w' b → wpList Tryz.prog ops Q rest (a.put o.dst (.tuple #[])) w') : wpList Tryz.prog ops Q (o :: rest) a w := by
  refine wpList_plain hg fun K' hK' => ?_
  obtain ⟨w', hr, r1, r2⟩ := h.drop he o.type
  unfold Oper.wp
  simp [execOp, hop, resolve, invoke, builtin, hm, hy, hr, Result.andThen]
  exact hK' _ _ (hK w' r1 r2)
end

/-! ### Gone through -/
/-- The map in block b is being gone through by the walker in block r; these sides have come. -/
def RangeE (w : World) (b r n : Nat) (m : Ms) (vis : List Ed) : Prop :=
  ∃ D left cnt, w.ranges Tryz.prog 65 ptElem b r n D left cnt ∧ Reads D m ∧ vis.Nodup ∧ (∀ e ∈ vis, (m e).isSome = true) ∧ ∀ e, CdE e → (left (litE e) = true ↔ (m e).isSome = true ∧ e ∉ vis)
theorem RangeE.owns {w : World} {b r n : Nat} {m : Ms} {vis : List Ed} (h : RangeE w b r n m vis) : MapE w b n m := by
  obtain ⟨D, left, cnt, h1, h2, _⟩ := h
  exact ⟨D, h1.owns, h2⟩
theorem RangeE.kept {w w' : World} {b r n : Nat} {m : Ms} {vis : List Ed} {row : Option Nat} (h : RangeE w b r n m vis) (hg : w.grownBy w' row) (hb : some b ≠ row) (hr : some r ≠ row) : RangeE w' b r n m vis ∧ w'.rangeLeft b r = w.rangeLeft b r := by
  obtain ⟨D, left, cnt, h1, h2⟩ := h
  have k := h1.kept hg hb hr
  exact ⟨⟨D, left, cnt, k, h2⟩, by rw [k.left_eq, h1.left_eq]⟩
theorem RangeE.nodup {w : World} {b r n : Nat} {m : Ms} {vis : List Ed} (h : RangeE w b r n m vis) : vis.Nodup ∧ ∀ e ∈ vis, (m e).isSome = true := by
  obtain ⟨D, left, cnt, h1, h2, h3, h4, _⟩ := h
  exact ⟨h3, h4⟩

theorem MapE.range {w : World} {b n : Nat} {m : Ms} (h : MapE w b n m) : ∃ w', (Instr.range 51 (.map (some b))).run Tryz.prog w = .ok (.pointer (some ⟨w.heap.size, 0, none⟩)) w' ∧ RangeE w' b w.heap.size n m [] ∧ New w w' ∧ w'.heap.size = w.heap.size + 1 := by
  obtain ⟨D, h1, h2⟩ := h
  obtain ⟨w', hr, r1, r2, r3⟩ := h1.range law65 Tryz.underlying51
  refine ⟨w', hr, ⟨D, _, _, r1, h2, List.nodup_nil, (fun _ h => by cases h), fun e he => ?_⟩, r2, r3⟩
  rw [h2.has e he]; simp

/-- A step: nothing is left, or one that has not come yet. -/
theorem RangeE.next {w : World} {b r n : Nat} {m : Ms} {vis : List Ed} (h : RangeE w b r n m vis) (ty : TypeId) :
    ((∀ e, (m e).isSome = true → e ∈ vis) ∧ (Instr.next (.pointer (some ⟨r, 0, none⟩)) false ty).run Tryz.prog w = .ok (.tuple #[.bool false]) w) ∨
    ∃ e c w', m e = some c ∧ CdE e ∧ e ∉ vis ∧ (Instr.next (.pointer (some ⟨r, 0, none⟩)) false ty).run Tryz.prog w = .ok (.tuple #[.bool true, edV e, ptV c]) w' ∧ RangeE w' b r n m (vis ++ [e]) ∧ w'.rangeLeft b r < w.rangeLeft b r ∧
      w.grownBy w' (some r) ∧ w'.heap.size = w.heap.size ∧ (Instr.entry (.pointer (some ⟨r, 0, none⟩))).run Tryz.prog w' = .ok (.tuple #[edV e, ptV c]) w' := by
  obtain ⟨D, left, cnt, h1, h2, h3, h4, h5⟩ := h
  rcases h1.next law65 ty with ⟨_, hl, hr⟩ | ⟨key, v, kl, y, w', cnt', hkey, hlk, hv, hat, hr, hrg, hlt, hgr, hsz, hen⟩
  · left
    refine ⟨fun e he => ?_, hr⟩
    obtain ⟨c, hc⟩ := Option.isSome_iff_exists.1 he
    rcases Classical.em (e ∈ vis) with k | k
    · exact k
    · have := (h5 e (h2.sup e c hc)).2 ⟨he, k⟩
      rw [hl] at this; cases this
  · right
    obtain ⟨p, rfl, rfl⟩ := ptElem_inv hv
    have hD : Maps.has D kl = true := Maps.has_true_of_atKey hat
    obtain ⟨e, he, rfl⟩ := h2.key kl hD
    have hk : key = edV e := law65.inj hkey (key65 he)
    subst hk
    have hin := (h5 e he).1 hlk
    obtain ⟨c, hc⟩ := Option.isSome_iff_exists.1 hin.1
    have hcp : c = p := by
      have := hat (.lit .nil)
      rw [h2.look e c hc] at this
      exact ptD_inj this
    subst hcp
    refine ⟨e, c, w', hc, he, hin.2, hr, ⟨D, _, cnt', hrg, h2, ?_, ?_, ?_⟩, by rw [hrg.left_eq, h1.left_eq]; exact hlt, hgr, hsz, hen⟩
    · rw [List.nodup_append]
      exact ⟨h3, by simp, fun a ha b hb => by simp at hb; subst hb; exact fun c => hin.2 (c ▸ ha)⟩
    · intro f hf
      rcases List.mem_append.1 hf with hf | hf
      · exact h4 f hf
      · simp at hf; subst hf; exact hin.1
    · intro f hf
      simp only [Bool.and_eq_true, Bool.not_eq_true', List.mem_append, List.mem_singleton, not_or]
      rw [h5 f hf]
      have : (litE f).sameKey (litE e) = false ↔ f ≠ e := by
        constructor
        · intro k c; rw [c, WideAt.sameKey_self (litE_key he)] at k; cases k
        · intro k; exact Maps.sameKey_ne (fun c => k (litE_inj hf he c))
      rw [this]
      constructor
      · rintro ⟨⟨a, b⟩, c⟩; exact ⟨a, b, c⟩
      · rintro ⟨a, b, c⟩; exact ⟨⟨a, b⟩, c⟩

section
variable (w : World) {ops : Array Oper} {rest : List Oper} {o : Oper} {a : Act} {Q : Exit → Act → World → Prop}
theorem wpList_rangeE (hg : o.guard = none) (x : Operand) (hop : o.op = Op.range 51 x) (b n : Nat) (m : Ms) (hm : a.eval x = .map (some b)) (h : MapE w b n m)
    (hK : ∀ w', RangeE w' b w.heap.size n m [] → New w w' → w'.heap.size = w.heap.size + 1 → wpList Tryz.prog ops Q rest (a.put o.dst (.pointer (some ⟨w.heap.size, 0, none⟩))) w') : wpList Tryz.prog ops Q (o :: rest) a w := by
  refine wpList_plain hg fun K' hK' => ?_
  obtain ⟨w', hr, r1, r2, r3⟩ := h.range
  unfold Oper.wp
  simp [execOp, hop, hm, hr, Result.andThen]
  exact hK' _ _ (hK w' r1 r2 r3)
theorem wpList_nextE (hg : o.guard = none) (it : Operand) (hop : o.op = Op.next it false) (b r n : Nat) (m : Ms) (vis : List Ed) (hit : a.eval it = .pointer (some ⟨r, 0, none⟩)) (h : RangeE w b r n m vis)
    (hDone : (∀ e, (m e).isSome = true → e ∈ vis) → wpList Tryz.prog ops Q rest (a.put o.dst (.tuple #[.bool false])) w)
    (hMore : ∀ (e : Ed) (c : Pt) (w' : World), m e = some c → CdE e → e ∉ vis → RangeE w' b r n m (vis ++ [e]) → w'.rangeLeft b r < w.rangeLeft b r → w.grownBy w' (some r) → w'.heap.size = w.heap.size → (Instr.entry (.pointer (some ⟨r, 0, none⟩))).run Tryz.prog w' = .ok (.tuple #[.agg #[.int .i64 e.1.1, .int .i64 e.1.2, .int .i64 e.2.1, .int .i64 e.2.2], .agg #[.int .i64 c.1, .int .i64 c.2]]) w' →
      wpList Tryz.prog ops Q rest (a.put o.dst (.tuple #[.bool true, .agg #[.int .i64 e.1.1, .int .i64 e.1.2, .int .i64 e.2.1, .int .i64 e.2.2], .agg #[.int .i64 c.1, .int .i64 c.2]])) w') : wpList Tryz.prog ops Q (o :: rest) a w := by
  refine wpList_plain hg fun K' hK' => ?_
  unfold Oper.wp
  rcases h.next o.type with ⟨h0, hr⟩ | ⟨e, c, w', h1, h2, h3, hr, h4, h5, h6, h7, h8⟩
  · simp [execOp, hop, hit, hr, Result.andThen]
    exact hK' _ _ (hDone h0)
  · simp [execOp, hop, hit, hr, Result.andThen]
    exact hK' _ _ (hMore e c w' h1 h2 h3 h4 h5 h6 h7 h8)
end

end Go.Proofs.YtgeoffpcmkofkaaGreat
