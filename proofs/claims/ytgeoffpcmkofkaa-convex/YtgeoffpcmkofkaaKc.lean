/- Operations that read and write memory are matched: loads, stores, new rows, addresses. -/
import Derived.Test.YtgeoffpcmkofkaaKb
namespace Go.Proofs.Ytgeoffpcmkofkaa
open Go

section
variable {G : Nat} {FS : FuncId → Prop} {P : Program} {α α' β β' : Type} {Q : BR → α → α' → Prop} {Q' : BR → β → β' → Prop} {B : BR}
/-- The very same. -/
def EqQ {γ : Type} : BR → γ → γ → Prop := fun _ a a' => a' = a
abbrev VQ (G : Nat) (FS : FuncId → Prop) : BR → Value → Value → Prop := fun B v v' => VR G FS B v v'
abbrev VsQ (G : Nat) (FS : FuncId → Prop) : BR → Array Value → Array Value → Prop := fun B v v' => VRs G FS B v.toList v'.toList
abbrev AQ (G : Nat) : BR → Addr → Addr → Prop := fun B a a' => AR G B a a'

theorem r_bind {s : Sem α} {s' : Sem α'} (h : SemR (G := G) (FS := FS) P Q B s s') {f : α → Sem β} {f' : α' → Sem β'} (hf : ∀ B', Sub B B' → ∀ a a', Q B' a a' → SemR (G := G) (FS := FS) P Q' B' (f a) (f' a')) : SemR (G := G) (FS := FS) P Q' B (s >>= f) (s' >>= f') := SemR.bind h hf
theorem r_pure {a : α} {a' : α'} (h : Q B a a') : SemR (G := G) (FS := FS) P Q B (pure a) (pure a') := .pure h
theorem r_stuck (why : String) (s' : Sem α') : SemR (G := G) (FS := FS) P Q B (stuck why) s' := .dead (dead_stuck _)
theorem r_unsupported (u : Unsupported) (s' : Sem α') : SemR (G := G) (FS := FS) P Q B (unsupported u) s' := .dead (dead_unsupported _)
theorem r_goPanic (v : Value) (s' : Sem α') : SemR (G := G) (FS := FS) P Q B (goPanic v) s' := .dead (dead_goPanic _)
theorem m_elemOf (t : TypeId) : MildT P (elemOf t) := by
  unfold elemOf
  refine m_bind (m_underlying t) fun d => ?_
  split
  · exact m_pure _
  · exact m_stuck _
theorem m_newVar (t : TypeId) (v : Value) : MildT P (newVar t v) := fun w h w' hr => by cases hr
theorem dead_runtimePanic (e : RuntimeError) : Dead P (runtimePanic e : Sem α) := by
  unfold runtimePanic
  refine dead_then m_program fun p => ?_
  cases e with
  | typeAssertion i c a m => exact dead_then (m_elemOf _) fun _ => dead_then (m_newVar _ _) fun _ => dead_goPanic _
  | panicNil => exact dead_then (m_elemOf _) fun _ => dead_then (m_newVar _ _) fun _ => dead_goPanic _
  | _ => exact dead_goPanic _
theorem r_runtimePanic (e : RuntimeError) (s' : Sem α') : SemR (G := G) (FS := FS) P Q B (runtimePanic e) s' := .dead (dead_runtimePanic e)
theorem r_boundsPanic (k : IntKind) (x y : Int) (c : BoundsCode) (s' : Sem α') : SemR (G := G) (FS := FS) P Q B (boundsPanic k x y c) s' := by
  refine .dead ?_
  unfold boundsPanic
  simp only
  split
  · exact dead_then (m_bind (m_choose _) fun _ => m_pure _) fun _ => dead_runtimePanic _
  · exact dead_then (m_pure _) fun _ => dead_runtimePanic _
theorem r_prog {f : Program → Sem β} {f' : Program → Sem β'} (h : SemR (G := G) (FS := FS) P Q' B (f P) (f' P)) : SemR (G := G) (FS := FS) P Q' B (program >>= f) (program >>= f') := .program h
theorem r_choose {q : Question} {f : Nat → Sem β} {f' : Nat → Sem β'} (h : ∀ n, SemR (G := G) (FS := FS) P Q' B (f n) (f' n)) : SemR (G := G) (FS := FS) P Q' B (choose q >>= f) (choose q >>= f') := .choose h
theorem r_underlying (t : TypeId) : SemR (G := G) (FS := FS) P (fun _ d d' => d' = d ∧ P.underlying t = some d) B (underlying t) (underlying t) := by
  unfold underlying
  refine r_prog ?_
  cases h : P.underlying t with
  | none => exact r_stuck _ _
  | some d => exact r_pure ⟨rfl, rfl⟩
theorem r_typeInfo (t : TypeId) : SemR (G := G) (FS := FS) P (fun _ d d' => d' = d ∧ P.info? t = some d) B (typeInfo t) (typeInfo t) := by
  unfold typeInfo
  refine r_prog ?_
  cases h : P.info? t with
  | none => exact r_stuck _ _
  | some d => exact r_pure ⟨rfl, rfl⟩
theorem r_sizeOf (t : TypeId) : SemR (G := G) (FS := FS) P EqQ B (sizeOf t) (sizeOf t) := by
  unfold sizeOf
  exact r_bind (r_typeInfo t) fun B' _ a a' h => by rw [h.1]; exact r_pure rfl
theorem r_isAgg (t : TypeId) : SemR (G := G) (FS := FS) P EqQ B (isAgg t) (isAgg t) := by
  unfold isAgg
  refine r_bind (r_underlying t) fun B' _ a a' h => ?_
  rw [h.1]
  split <;> exact r_pure rfl
/-- The type's zero value names no memory. -/
def ZT (G : Nat) (FS : FuncId → Prop) (P : Program) (t : TypeId) : Prop := ∀ (B : BR) (i : TypeInfo) (v : Value), P.info? t = some i → i.zero = some v → VR G FS B v v
/-- .. of a slice's elements. -/
def SZ (G : Nat) (FS : FuncId → Prop) (P : Program) (t : TypeId) : Prop := ∀ e, P.underlying t = some (.slice e) → ZT G FS P e
theorem r_zeroValue {t : TypeId} (hz : ZT G FS P t) : SemR (G := G) (FS := FS) P (fun B v v' => v' = v ∧ VR G FS B v v) B (zeroValue t) (zeroValue t) := by
  unfold zeroValue
  refine r_bind (r_typeInfo t) fun B' _ a a' h => ?_
  rw [h.1]
  cases hv : a.zero with
  | none => exact r_unsupported _ _
  | some v => exact r_pure ⟨rfl, hz _ a v h.2 hv⟩
theorem VR.cells {v v' : Value} (h : VR G FS B v v') : VRs G FS B v.cells.toList v'.cells.toList := by
  cases h with
  | agg k => exact k
  | bool b => exact .cons (.bool b) .nil
  | int k n => exact .cons (.int k n) .nil
  | float k n => exact .cons (.float k n) .nil
  | string s => exact .cons (.string s) .nil
  | ptrNil => exact .cons .ptrNil .nil
  | ptr k => exact .cons (.ptr k) .nil
  | sliceNil l c => exact .cons (.sliceNil l c) .nil
  | slice l c k => exact .cons (.slice l c k) .nil
  | func f k => exact .cons (.func f k) .nil
  | nilFunc => exact .cons .nilFunc .nil
  | nilIface => exact .cons .nilIface .nil
  | mapNil => exact .cons .mapNil .nil
  | chanNil => exact .cons .chanNil .nil
  | iface t k => exact .cons (.iface t k) .nil
  | tuple k => exact .cons (.tuple k) .nil
theorem VRs.size {c c' : Array Value} (h : VRs G FS B c.toList c'.toList) : c'.size = c.size := by
  have := h.length
  simpa using this

theorem r_load {a a' : Addr} (h : AR G B a a') : SemR (G := G) (FS := FS) P (VQ G FS) B (load a) (load a') := .load h fun _ _ hv => .pure hv
theorem r_loadCellsFrom : ∀ (n i : Nat) {B : BR} {a a' : Addr} {acc acc' : Array Value}, AR G B a a' → VRs G FS B acc.toList acc'.toList → SemR (G := G) (FS := FS) P (VsQ G FS) B (loadCellsFrom a i n acc) (loadCellsFrom a' i n acc')
  | 0, _, _, _, _, _, _, _, hacc => r_pure hacc
  | n + 1, i, B, a, a', acc, acc', ha, hacc => by
    unfold loadCellsFrom
    refine r_bind (r_load (ha.add i)) fun B' hB v v' hv => ?_
    refine r_loadCellsFrom n (i + 1) (ha.mono hB) ?_
    rw [Array.toList_push, Array.toList_push]
    exact (hacc.mono hB).append (.cons hv .nil)
theorem r_loadCells {a a' : Addr} (ha : AR G B a a') (n : Nat) : SemR (G := G) (FS := FS) P (VsQ G FS) B (loadCells a n) (loadCells a' n) := r_loadCellsFrom n 0 ha .nil
theorem r_loadVar (t : TypeId) {a a' : Addr} (ha : AR G B a a') : SemR (G := G) (FS := FS) P (VQ G FS) B (loadVar t a) (loadVar t a') := by
  unfold loadVar
  refine r_bind (r_isAgg t) fun B' hB b b' hb => ?_
  obtain rfl : b' = b := hb
  cases b'
  · exact r_load (ha.mono hB)
  · simp only [if_true]
    refine r_bind (r_sizeOf t) fun B'' hB' n n' hn => ?_
    obtain rfl : n' = n := hn
    exact r_bind (r_loadCells ((ha.mono hB).mono hB') _) fun _ _ _ _ h => r_pure (.agg h)
theorem r_storeCells : ∀ {l l' : List Value} (i : Nat) {B : BR} {a a' : Addr}, AR G B a a' → VRs G FS B l l' → SemR (G := G) (FS := FS) P EqQ B (storeCells a l i) (storeCells a' l' i)
  | _, _, _, _, _, _, _, .nil => by unfold storeCells; exact r_pure rfl
  | _, _, i, _, _, _, ha, .cons hv hl => by
    unfold storeCells
    exact .store (ha.add i) hv (r_storeCells (i + 1) ha hl)
theorem r_storeVar (t : TypeId) {a a' : Addr} (ha : AR G B a a') {v v' : Value} (hv : VR G FS B v v') : SemR (G := G) (FS := FS) P EqQ B (storeVar t a v) (storeVar t a' v') := by
  unfold storeVar
  refine r_bind (r_sizeOf t) fun B' hB n n' hn => ?_
  obtain rfl : n' = n := hn
  have hc := hv.cells
  rw [hc.size]
  split
  · exact .dead (dead_bind (dead_stuck _))
  · exact r_storeCells 0 (ha.mono hB) (hc.mono hB)
theorem r_newRow (e : TypeId) {c c' : Array Value} (hc : VRs G FS B c.toList c'.toList) : SemR (G := G) (FS := FS) P (AQ G) B (newRow e c) (newRow e c') := .new hc fun _ _ hr => .pure ⟨.inr ⟨rfl, rfl⟩, rfl, rfl, hr⟩
theorem r_newVar (t : TypeId) {v v' : Value} (hv : VR G FS B v v') : SemR (G := G) (FS := FS) P (AQ G) B (newVar t v) (newVar t v') := r_newRow t hv.cells
theorem r_part (t : TypeId) {c c' : Array Value} (hc : VRs G FS B c.toList c'.toList) (off : Nat) : SemR (G := G) (FS := FS) P (VQ G FS) B (part t c off) (part t c' off) := by
  unfold part
  refine r_bind (r_isAgg t) fun B' hB b b' hb => ?_
  obtain rfl : b' = b := hb
  cases b'
  · simp only [Bool.false_eq_true, if_false]
    cases h : c[off]? with
    | none => exact r_stuck _ _
    | some v =>
      obtain ⟨v', e1, e2⟩ := hc.get (i := off) (v := v) (by simpa using h)
      have : c'[off]? = some v' := by simpa using e1
      rw [this]
      exact r_pure (e2.mono hB)
  · simp only [if_true]
    refine r_bind (r_sizeOf t) fun B'' hB' n n' hn => ?_
    obtain rfl : n' = n := hn
    refine r_pure (.agg ?_)
    simp only [Array.toList_extract, List.extract_eq_take_drop]
    exact (((hc.mono hB).mono hB').drop _).take _

theorem r_asIntOf {v v' : Value} (h : VR G FS B v v') : SemR (G := G) (FS := FS) P EqQ B (asIntOf v) (asIntOf v') := by
  cases h <;> first | exact r_pure rfl | exact r_stuck _ _ | exact r_unsupported _ _
theorem r_asInt {v v' : Value} (h : VR G FS B v v') : SemR (G := G) (FS := FS) P EqQ B (asInt v) (asInt v') := by
  unfold asInt
  exact r_bind (r_asIntOf h) fun _ _ a a' e => by obtain rfl : a' = a := e; exact r_pure rfl
theorem r_asBool {v v' : Value} (h : VR G FS B v v') : SemR (G := G) (FS := FS) P EqQ B (asBool v) (asBool v') := by
  cases h <;> first | exact r_pure rfl | exact r_stuck _ _
theorem r_sureAddr {v v' : Value} (h : VR G FS B v v') : SemR (G := G) (FS := FS) P (AQ G) B (Instr.sureAddr v) (Instr.sureAddr v') := by
  cases h <;> first | exact r_stuck _ _ | (rename_i ha; exact r_pure ha)

/-! ### The operations -/
theorem r_alloc {e : TypeId} (hz : ZT G FS P e) : SemR (G := G) (FS := FS) P (VQ G FS) B (Instr.alloc e true (.tuple #[])) (Instr.alloc e true (.tuple #[])) := by
  unfold Instr.alloc
  refine r_bind (r_zeroValue hz) fun B' _ v v' h => ?_
  rw [h.1]
  exact r_bind (r_newVar e h.2) fun _ _ _ _ h => r_pure (.ptr h)
theorem r_box (e : TypeId) {v v' : Value} (h : VR G FS B v v') : SemR (G := G) (FS := FS) P (VQ G FS) B (Instr.box e v) (Instr.box e v') := by
  unfold Instr.box
  exact r_bind (r_newVar e h) fun _ _ _ _ h => r_pure (.ptr h)
theorem r_loadAt (t : TypeId) {v v' : Value} (h : VR G FS B v v') : SemR (G := G) (FS := FS) P (VQ G FS) B (Instr.loadAt t v) (Instr.loadAt t v') := by
  unfold Instr.loadAt
  exact r_bind (r_sureAddr h) fun _ _ _ _ ha => r_loadVar t ha
theorem r_storeAt (t : TypeId) {v v' x x' : Value} (h : VR G FS B v v') (hx : VR G FS B x x') : SemR (G := G) (FS := FS) P EqQ B (Instr.storeAt t v x) (Instr.storeAt t v' x') := by
  unfold Instr.storeAt
  exact r_bind (r_sureAddr h) fun _ hB _ _ ha => r_storeVar t ha (hx.mono hB)
theorem r_extract {v v' : Value} (h : VR G FS B v v') (i : Nat) : SemR (G := G) (FS := FS) P (VQ G FS) B (Instr.extract v i) (Instr.extract v' i) := by
  cases h <;> first | exact r_stuck _ _ | skip
  rename_i c c' hc
  unfold Instr.extract
  simp only
  cases h : c[i]? with
  | none => exact r_stuck _ _
  | some v =>
    obtain ⟨v', e1, e2⟩ := hc.get (i := i) (v := v) (by simpa using h)
    have : c'[i]? = some v' := by simpa using e1
    rw [this]
    exact r_pure e2
end
end Go.Proofs.Ytgeoffpcmkofkaa
