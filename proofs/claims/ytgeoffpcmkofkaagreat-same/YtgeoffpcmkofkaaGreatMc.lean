/- A map from points to numbers, as the program keeps it. -/
import Derived.Test.YtgeoffpcmkofkaaGreatMb
namespace Go.Proofs.YtgeoffpcmkofkaaGreat
open Go.RowKit Go.Maps Fl
set_option maxRecDepth 100000

def inD (x : Int) : DataW Unit := .lit (.int .i64 x)
theorem inD_inj {p q : Int} (h : inD p = inD q) : p = q := by
  simpa [inD] using h
open Classical in
noncomputable def inElem (v : Value) : Option (DataW Unit × List MemPlace) := if h : ∃ p, v = .int .i64 p then some (inD h.choose, []) else none
theorem inElem_mk (p : Int) : inElem (.int .i64 p) = some (inD p, []) := by
  have h : ∃ q, Value.int .i64 p = .int .i64 q := ⟨p, rfl⟩
  unfold inElem
  rw [dif_pos h]
  have e : Value.int .i64 p = .int .i64 h.choose := h.choose_spec
  injection e with _ e
  rw [← e]
theorem inElem_inv {v : Value} {z : DataW Unit × List MemPlace} (h : inElem v = some z) : ∃ p, v = .int .i64 p ∧ z = (inD p, []) := by
  unfold inElem at h
  split at h
  · rename_i k; injection h with h; exact ⟨_, k.choose_spec, h.symm⟩
  · cases h

/-- Numbers of points. -/
abbrev Ns := Pt → Option Int
def setN (m : Ns) (e : Pt) (c : Int) : Ns := fun f => if f = e then some c else m f
/-- What is looked up. -/
def atN (m : Ns) (e : Pt) : Int := (m e).getD 0
structure ReadsI (D : DataW Unit) (m : Ns) : Prop where
  sup : ∀ e c, m e = some c → CdP e
  has : ∀ e, CdP e → Maps.has D (litP e) = (m e).isSome
  look : ∀ e c, m e = some c → ∀ z, D.atKey (litP e) z = inD c
  key : ∀ k, Maps.has D k = true → ∃ e, CdP e ∧ k = litP e

theorem readsI_empty : ReadsI (.map []) (fun _ => none) := ⟨fun _ _ h => (by cases h), fun _ _ => rfl, fun _ _ h => (by cases h), fun _ h => (by simp [Maps.has] at h)⟩

theorem ReadsI.put {D : DataW Unit} {m : Ns} (h : ReadsI D m) (hD : IsMap D) {e : Pt} (he : CdP e) (c : Int) : ReadsI (D.put (litP e) (inD c)) (setN m e c) := by
  have hk := litP_key he
  refine ⟨?_, ?_, ?_, ?_⟩
  · intro f d hf
    unfold setN at hf
    split at hf
    · rename_i k; rw [k]; exact he
    · exact h.sup f d hf
  · intro f hf
    by_cases k : f = e
    · subst k
      rw [Maps.has_put_same hD hk]; simp [setN]
    · rw [Maps.has_put_other (fun c => k (litP_inj hf he c)), h.has f hf]; simp [setN, k]
  · intro f d hf z
    by_cases k : f = e
    · subst k
      rw [Maps.atKey_put_same hD hk]
      simp [setN] at hf; rw [hf]
    · have hf' : m f = some d := by simpa [setN, k] using hf
      rw [Maps.atKey_put_other (fun c => k (litP_inj (h.sup f d hf') he c)), h.look f d hf']
  · intro k hk'
    by_cases q : k = litP e
    · exact ⟨e, he, q⟩
    · rw [Maps.has_put_other q] at hk'; exact h.key k hk'

/-- The map lies in block b. -/
def MapI (w : World) (b n : Nat) (m : Ns) : Prop := ∃ D, w.ownsMap Tryz.prog 36 inElem b n D ∧ ReadsI D m
theorem MapI.kept {w w' : World} {b n : Nat} {m : Ns} {row : Option Nat} (h : MapI w b n m) (hg : w.grownBy w' row) (hne : some b ≠ row) : MapI w' b n m := by
  obtain ⟨D, h1, h2⟩ := h
  exact ⟨D, h1.kept hg hne, h2⟩
theorem MapI.new {w w' : World} {b n : Nat} {m : Ns} (h : MapI w b n m) (hg : New w w') : MapI w' b n m := h.kept hg (by simp)
theorem MapI.lt {w : World} {b n : Nat} {m : Ns} (h : MapI w b n m) : b < w.heap.size := by obtain ⟨D, h1, _⟩ := h; exact h1.lt
theorem MapI.mono {w : World} {b n n' : Nat} {m : Ns} (h : MapI w b n m) (hn : n ≤ n') : MapI w b n' m := by obtain ⟨D, h1, h2⟩ := h; exact ⟨D, h1.mono hn, h2⟩
theorem mapI_made (w : World) : MapI (w.alloc (.map #[] 0)) w.heap.size 0 (fun _ => none) := ⟨_, World.ownsMap_made w _ _ _, readsI_empty⟩

theorem zero3 (w : World) : (zeroValue 3).run Tryz.prog w = .ok (.int .i64 0) w := by kernel_rfl
theorem MapI.sup {w : World} {b n : Nat} {m : Ns} (h : MapI w b n m) {e : Pt} {c : Int} (hm : m e = some c) : CdP e := by obtain ⟨D, _, h2⟩ := h; exact h2.sup e c hm

theorem MapI.look_ok {w : World} {b n : Nat} {m : Ns} (h : MapI w b n m) {e : Pt} (he : CdP e) :
    (Instr.lookup 54 (.map (some b)) (ptV e) true).run Tryz.prog w = .ok (.tuple #[.int .i64 (atN m e), .bool (m e).isSome]) w := by
  obtain ⟨D, h1, h2⟩ := h
  obtain ⟨v, ps, hr, hv⟩ := h1.look_ok law36 Tryz.underlying54 (zero3 w) (inElem_mk 0) (key36 he)
  rw [hr, h2.has e he]
  obtain ⟨p, rfl, hp⟩ := inElem_inv hv
  have : p = atN m e := by
    injection hp with hp _
    cases hm : m e with
    | none =>
      have : Maps.has D (litP e) = false := by rw [h2.has e he, hm]; rfl
      rw [Maps.atKey_of_not_has this] at hp
      rw [inD_inj hp.symm]; simp [atN, hm]
    | some c => rw [h2.look e c hm] at hp; rw [inD_inj hp.symm]; simp [atN, hm]
  rw [this]
theorem MapI.look {w : World} {b n : Nat} {m : Ns} (h : MapI w b n m) {e : Pt} (he : CdP e) :
    (Instr.lookup 54 (.map (some b)) (ptV e) false).run Tryz.prog w = .ok (.int .i64 (atN m e)) w := by
  obtain ⟨D, h1, h2⟩ := h
  obtain ⟨v, ps, hr, hv⟩ := h1.lookup law36 Tryz.underlying54 (zero3 w) (inElem_mk 0) (key36 he)
  rw [hr]
  obtain ⟨p, rfl, hp⟩ := inElem_inv hv
  have : p = atN m e := by
    injection hp with hp _
    cases hm : m e with
    | none =>
      have : Maps.has D (litP e) = false := by rw [h2.has e he, hm]; rfl
      rw [Maps.atKey_of_not_has this] at hp
      rw [inD_inj hp.symm]; simp [atN, hm]
    | some c => rw [h2.look e c hm] at hp; rw [inD_inj hp.symm]; simp [atN, hm]
  rw [this]
theorem MapI.store {w : World} {b n : Nat} {m : Ns} (h : MapI w b n m) (hn : n < maxLen) {e : Pt} (he : CdP e) (c : Int) :
    ∃ w', (Instr.mapUpdate 54 (.map (some b)) (ptV e) (.int .i64 c)).run Tryz.prog w = .ok () w' ∧ MapI w' b (n + 1) (setN m e c) ∧ w.mapTurned w' b := by
  obtain ⟨D, h1, h2⟩ := h
  obtain ⟨w', hr, r1, r2⟩ := h1.store law36 Tryz.underlying54 hn (key36 he) (inElem_mk c)
  exact ⟨w', hr, ⟨_, r1, h2.put h1.isMap he c⟩, r2⟩
/-! ### At the operation -/
section
variable (w : World) {ops : Array Oper} {rest : List Oper} {o : Oper} {a : Act} {Q : Exit → Act → World → Prop}
theorem wpList_lookI_ok (hg : o.guard = none) (x y : Operand) (hop : o.op = Op.lookup 54 x y true) (b n : Nat) (m : Ns) (hm : a.eval x = .map (some b)) (h : MapI w b n m) (e : Pt) (hy : a.eval y = ptV e) (he : CdP e)
    (hK : wpList Tryz.prog ops Q rest (a.put o.dst (.tuple #[.int .i64 (atN m e), .bool (m e).isSome])) w) : wpList Tryz.prog ops Q (o :: rest) a w := by
  refine wpList_plain hg fun K' hK' => ?_
  unfold Oper.wp
  simp [execOp, hop, hm, hy, h.look_ok he, Result.andThen]
  exact hK' _ _ hK
theorem wpList_lookI (hg : o.guard = none) (x y : Operand) (hop : o.op = Op.lookup 54 x y false) (b n : Nat) (m : Ns) (hm : a.eval x = .map (some b)) (h : MapI w b n m) (e : Pt) (hy : a.eval y = ptV e) (he : CdP e)
    (hK : wpList Tryz.prog ops Q rest (a.put o.dst (.int .i64 (atN m e))) w) : wpList Tryz.prog ops Q (o :: rest) a w := by
  refine wpList_plain hg fun K' hK' => ?_
  unfold Oper.wp
  simp [execOp, hop, hm, hy, h.look he, Result.andThen]
  exact hK' _ _ hK
theorem wpList_storeI (hg : o.guard = none) (x y z : Operand) (hop : o.op = Op.mapUpdate 54 x y z) (b n : Nat) (m : Ns) (hm : a.eval x = .map (some b)) (h : MapI w b n m) (hn : n < maxLen) (e : Pt) (c : Int) (hy : a.eval y = ptV e) (hz : a.eval z = .int .i64 c) (he : CdP e)
    (hK : ∀ w', MapI w' b (n + 1) (setN m e c) → w.mapTurned w' b → wpList Tryz.prog ops Q rest (a.put o.dst undef) w') : wpList Tryz.prog ops Q (o :: rest) a w := by
  refine wpList_plain hg fun K' hK' => ?_
  obtain ⟨w', hr, r1, r2⟩ := h.store hn he c
  unfold Oper.wp
  simp [execOp, hop, hm, hy, hz, hr, Result.andThen]
  exact hK' _ _ (hK w' r1 r2)
end


end Go.Proofs.YtgeoffpcmkofkaaGreat
