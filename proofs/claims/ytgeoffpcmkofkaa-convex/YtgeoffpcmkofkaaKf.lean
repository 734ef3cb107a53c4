/- Operations are matched: append. -/
import Derived.Test.YtgeoffpcmkofkaaKe
namespace Go.Proofs.Ytgeoffpcmkofkaa
open Go

section
variable {G : Nat} {FS : FuncId → Prop} {P : Program} {α α' β β' : Type} {Q : BR → α → α' → Prop} {Q' : BR → β → β' → Prop} {B : BR}
/-! Steps that make nothing: the pairs of blocks stay as they are. -/
theorem rb_pure {a : α} {a' : α'} {f : α → Sem β} {f' : α' → Sem β'} (h : SemR (G := G) (FS := FS) P Q' B (f a) (f' a')) : SemR (G := G) (FS := FS) P Q' B (pure a >>= f) (pure a' >>= f') := h
theorem rb_any {a : α} {f : α → Sem β} {f' : α → Sem β'} (h : ∀ z, SemR (G := G) (FS := FS) P Q' B (f z) (f' z)) : SemR (G := G) (FS := FS) P Q' B (pure a >>= f) (pure a >>= f') := h a
theorem deadb {γ : Type} {s : Sem γ} (hs : Dead P s) {f : γ → Sem β} {s' : Sem β'} : SemR (G := G) (FS := FS) P Q' B (s >>= f) s' := .dead (dead_bind hs)
theorem rb_typeInfo {t : TypeId} {f : TypeInfo → Sem β} {f' : TypeInfo → Sem β'} (h : ∀ d, P.info? t = some d → SemR (G := G) (FS := FS) P Q' B (f d) (f' d)) : SemR (G := G) (FS := FS) P Q' B (typeInfo t >>= f) (typeInfo t >>= f') := by
  refine .program ?_
  simp only [Sem.bind]
  cases hd : P.info? t with
  | none => exact deadb (dead_stuck _)
  | some d => exact h d hd
theorem rb_underlying {t : TypeId} {f : TypeDesc → Sem β} {f' : TypeDesc → Sem β'} (h : ∀ d, P.underlying t = some d → SemR (G := G) (FS := FS) P Q' B (f d) (f' d)) : SemR (G := G) (FS := FS) P Q' B (underlying t >>= f) (underlying t >>= f') := by
  refine .program ?_
  simp only [Sem.bind]
  cases hd : P.underlying t with
  | none => exact deadb (dead_stuck _)
  | some d => exact h d hd
theorem rb_sizeOf {t : TypeId} {f : Nat → Sem β} {f' : Nat → Sem β'} (h : ∀ n, SemR (G := G) (FS := FS) P Q' B (f n) (f' n)) : SemR (G := G) (FS := FS) P Q' B (sizeOf t >>= f) (sizeOf t >>= f') := by
  unfold sizeOf
  simp only [bind_assoc]
  exact rb_typeInfo fun d _ => h _
theorem rb_zeroValue {t : TypeId} (hz : ZT G FS P t) {f : Value → Sem β} {f' : Value → Sem β'} (h : ∀ v, VR G FS B v v → SemR (G := G) (FS := FS) P Q' B (f v) (f' v)) : SemR (G := G) (FS := FS) P Q' B (zeroValue t >>= f) (zeroValue t >>= f') := by
  unfold zeroValue
  simp only [bind_assoc]
  refine rb_typeInfo fun d hd => ?_
  cases hv : d.zero with
  | none => exact deadb (dead_unsupported _)
  | some v => exact h v (hz _ d v hd hv)
theorem rb_asIntOf {v v' : Value} (hv : VR G FS B v v') {f : IntKind × Int → Sem β} {f' : IntKind × Int → Sem β'} (h : ∀ n, SemR (G := G) (FS := FS) P Q' B (f n) (f' n)) : SemR (G := G) (FS := FS) P Q' B (asIntOf v >>= f) (asIntOf v' >>= f') := by
  cases hv <;> first | exact h _ | exact deadb (dead_stuck _) | exact deadb (dead_unsupported _)
theorem rb_asInt {v v' : Value} (hv : VR G FS B v v') {f : Int → Sem β} {f' : Int → Sem β'} (h : ∀ n, SemR (G := G) (FS := FS) P Q' B (f n) (f' n)) : SemR (G := G) (FS := FS) P Q' B (asInt v >>= f) (asInt v' >>= f') := by
  unfold asInt
  simp only [bind_assoc]
  exact rb_asIntOf hv fun n => h _
theorem rb_askRoom {n : Nat} {f : Unit → Sem β} {f' : Unit → Sem β'} (h : SemR (G := G) (FS := FS) P Q' B (f ()) (f' ())) : SemR (G := G) (FS := FS) P Q' B (askRoom n >>= f) (askRoom n >>= f') := by
  unfold askRoom
  split
  · exact .mark (.inl rfl) h
  · exact h
theorem rb_loadCellsFrom {f : Array Value → Sem β} {f' : Array Value → Sem β'} (h : ∀ c c', VRs G FS B c.toList c'.toList → SemR (G := G) (FS := FS) P Q' B (f c) (f' c')) : ∀ (n i : Nat) {a a' : Addr} {acc acc' : Array Value}, AR G B a a' → VRs G FS B acc.toList acc'.toList → SemR (G := G) (FS := FS) P Q' B (loadCellsFrom a i n acc >>= f) (loadCellsFrom a' i n acc' >>= f')
  | 0, _, _, _, _, _, _, hacc => h _ _ hacc
  | n + 1, i, a, a', acc, acc', ha, hacc => by
    unfold loadCellsFrom
    refine .load (ha.add i) fun v v' hv => ?_
    refine rb_loadCellsFrom h n (i + 1) ha ?_
    rw [Array.toList_push, Array.toList_push]
    exact hacc.append (.cons hv .nil)
theorem rb_loadCells {a a' : Addr} (ha : AR G B a a') {n : Nat} {f : Array Value → Sem β} {f' : Array Value → Sem β'} (h : ∀ c c', VRs G FS B c.toList c'.toList → SemR (G := G) (FS := FS) P Q' B (f c) (f' c')) : SemR (G := G) (FS := FS) P Q' B (loadCells a n >>= f) (loadCells a' n >>= f') := rb_loadCellsFrom h n 0 ha .nil
theorem rb_firstCells {x x' : Value} (hx : VR G FS B x x') {size n : Nat} {f : Array Value → Sem β} {f' : Array Value → Sem β'} (h : ∀ c c', VRs G FS B c.toList c'.toList → SemR (G := G) (FS := FS) P Q' B (f c) (f' c')) : SemR (G := G) (FS := FS) P Q' B (Builtin.firstCells size n x >>= f) (Builtin.firstCells size n x' >>= f') := by
  cases hx <;> first | exact r_stuckBind _ _ _ | skip
  case string s =>
    refine h _ _ (VRs.of_get rfl fun i v v' h1 h2 => ?_)
    rw [h1] at h2
    injection h2 with h2
    subst h2
    simp only [Array.toList_map, List.getElem?_map, Option.map_eq_some_iff] at h1
    obtain ⟨b, _, rfl⟩ := h1
    exact .int _ _
  case sliceNil => exact h _ _ .nil
  case slice ha => exact rb_loadCells ha h
theorem rb_lenOf {x x' : Value} (hx : VR G FS B x x') {f : Nat → Sem β} {f' : Nat → Sem β'} (h : ∀ n, SemR (G := G) (FS := FS) P Q' B (f n) (f' n)) : SemR (G := G) (FS := FS) P Q' B (Builtin.lenOf x >>= f) (Builtin.lenOf x' >>= f') := by
  cases hx <;> first | exact h _ | exact r_stuckBind _ _ _
theorem rb_storeCells {f : Unit → Sem β} {f' : Unit → Sem β'} (h : SemR (G := G) (FS := FS) P Q' B (f ()) (f' ())) : ∀ {l l' : List Value} (i : Nat) {a a' : Addr}, AR G B a a' → VRs G FS B l l' → SemR (G := G) (FS := FS) P Q' B (storeCells a l i >>= f) (storeCells a' l' i >>= f')
  | _, _, _, _, _, _, .nil => by unfold storeCells; exact h
  | _, _, i, _, _, ha, .cons hv hl => by
    unfold storeCells
    exact .store (ha.add i) hv (rb_storeCells h (i + 1) ha hl)
theorem zeroCells_rel {z : Array Value} (h : VRs G FS B z.toList z.toList) (n : Nat) : VRs G FS B (Builtin.zeroCells z n).toList (Builtin.zeroCells z n).toList := range_rel h _
theorem VR.get {vas vas' : Array Value} (ha : VRs G FS B vas.toList vas'.toList) {i : Nat} {v : Value} (h : vas[i]? = some v) : ∃ v', vas'[i]? = some v' ∧ VR G FS B v v' := by
  obtain ⟨v', e1, e2⟩ := ha.get (i := i) (v := v) (by simpa using h)
  exact ⟨v', by simpa using e1, e2⟩

theorem m_holdsCells (a : Addr) (n : Nat) : MildT P (Builtin.holdsCells a n) := by
  refine m_bind (m_shape _) fun s => ?_
  split <;> exact m_pure _
theorem m_mayShare (size sLen n : Nat) (b : Option Addr) (x : Value) : MildT P (Builtin.mayShare size sLen n b x) := by
  have tail : ∀ t : Bool, MildT P (if (!t) = true then pure true else match x with | .slice (some b') _ _ => do pure (!(← Builtin.holdsCells b' (n * size)) || b.any (·.block == b'.block)) | _ => pure false) := by
    intro t
    split
    · exact m_pure _
    · split
      · exact m_bind (m_holdsCells _ _) fun _ => m_pure _
      · exact m_pure _
  unfold Builtin.mayShare
  cases b with
  | none => exact m_bind (m_pure _) tail
  | some a => exact m_bind (m_holdsCells _ _) fun _ => m_bind (m_frozen _) fun _ => m_bind (m_pure _) tail
theorem r_append {ts : Array TypeId} (hz : ∀ t, ts[0]? = some t → SZ G FS P t) (t : TypeId) {vas vas' : Array Value} (ha : VRs G FS B vas.toList vas'.toList) : SemR (G := G) (FS := FS) P (VQ G FS) B (Builtin.append_ ts t vas) (Builtin.append_ ts t vas') := by
  unfold Builtin.append_
  cases h0 : ts[0]? with
  | none => exact r_stuck _ _
  | some sT =>
  cases h1 : vas[0]? with
  | none => exact r_stuck _ _
  | some s =>
  cases h2 : vas[1]? with
  | none => exact r_stuck _ _
  | some x =>
  obtain ⟨s', e1, hs⟩ := VR.get ha h1
  obtain ⟨x', e2, hx⟩ := VR.get ha h2
  rw [e1, e2]
  simp only
  refine rb_underlying fun d hd => ?_
  cases d <;> first | exact r_stuck _ _ | skip
  rename_i elem
  simp only
  cases s <;> first | exact r_stuck _ _ | skip
  rename_i base sLen sCap
  obtain ⟨base', rfl, hb⟩ := hs.none_or rfl
  simp only
  refine rb_sizeOf fun size => ?_
  have hz := hz sT h0 elem hd
  have new : ∀ (z : Bool) (n : Nat) {f f' : Array Value → Sem Value}, (∀ c c', VRs G FS B c.toList c'.toList → SemR (G := G) (FS := FS) P (VQ G FS) B (f c) (f' c')) →
      SemR (G := G) (FS := FS) P (VQ G FS) B
        ((if (!z) = true then Builtin.firstCells size n x else if n * size = 0 then pure #[] else do pure (Builtin.zeroCells (← zeroValue elem).cells n)) >>= f)
        ((if (!z) = true then Builtin.firstCells size n x' else if n * size = 0 then pure #[] else do pure (Builtin.zeroCells (← zeroValue elem).cells n)) >>= f') := by
    intro z n f f' h
    cases z
    · exact rb_firstCells hx h
    · by_cases hn : n * size = 0
      · simp only [hn, if_true]
        exact h _ _ .nil
      · rw [if_neg (by decide), if_neg hn, if_neg (by decide)]
        simp only [bind_assoc]
        exact rb_zeroValue (f := fun v => f (Builtin.zeroCells v.cells n)) (f' := fun v => f' (Builtin.zeroCells v.cells n)) hz fun v hv => h _ _ (zeroCells_rel hv.cells n)
  cases h1 : ts[1]? with
  | none =>
    simp only
    refine rb_pure ?_
    simp only [Bool.false_eq_true, if_false, false_or]
    refine rb_lenOf hx fun n => ?_
    split
    · refine new false n fun c c' hc => ?_
      rcases hb with ⟨q1, q2⟩ | ⟨y, y', q1, q2, hy⟩ <;> subst q1 <;> subst q2
      · exact r_pure (VR.sliceNil _ _)
      · refine rb_storeCells ?_ 0 (hy.add _) hc
        exact r_pure (VR.slice _ _ hy)
    · refine rb_typeInfo fun i hi => ?_
      split
      · exact deadb (dead_runtimePanic _)
      · refine rb_typeInfo fun i hi => ?_
        split
        · first
          | exact deadb (dead_runtimePanic _)
          | refine deadb ?_
            rw [if_pos rfl]
            exact dead_runtimePanic _
          | refine deadb (dead_then (m_mayShare _ _ _ _ _) fun _ => ?_)
            split
            · exact dead_then (m_mark _) fun _ => dead_unsupported _
            · exact dead_unsupported _
        · refine r_choose fun k => ?_
          refine rb_typeInfo fun i hi => ?_
          refine rb_askRoom ?_
          refine rb_firstCells hs fun o o' ho => ?_
          refine new false n fun c c' hc => ?_
          refine rb_zeroValue hz fun v hv => ?_
          refine r_bind (r_newRow _ ?_) fun _ _ _ _ h => r_pure (VR.slice _ _ h)
          simp only [Array.toList_append]
          exact (ho.append hc).append (zeroCells_rel hv.cells _)
  | some xT =>
    simp only
    refine rb_underlying fun d hd => ?_
    refine rb_any fun z => ?_
    cases z
    · simp only [Bool.false_eq_true, if_false, false_or]
      refine rb_lenOf hx fun n => ?_
      split
      · refine new false n fun c c' hc => ?_
        rcases hb with ⟨q1, q2⟩ | ⟨y, y', q1, q2, hy⟩ <;> subst q1 <;> subst q2
        · exact r_pure (VR.sliceNil _ _)
        · refine rb_storeCells ?_ 0 (hy.add _) hc
          exact r_pure (VR.slice _ _ hy)
      · refine rb_typeInfo fun i hi => ?_
        split
        · exact deadb (dead_runtimePanic _)
        · refine rb_typeInfo fun i hi => ?_
          split
          · first
            | exact deadb (dead_runtimePanic _)
            | refine deadb ?_
              rw [if_pos rfl]
              exact dead_runtimePanic _
            | refine deadb (dead_then (m_mayShare _ _ _ _ _) fun _ => ?_)
              split
              · exact dead_then (m_mark _) fun _ => dead_unsupported _
              · exact dead_unsupported _
          · refine r_choose fun k => ?_
            refine rb_typeInfo fun i hi => ?_
            refine rb_askRoom ?_
            refine rb_firstCells hs fun o o' ho => ?_
            refine new false n fun c c' hc => ?_
            refine rb_zeroValue hz fun v hv => ?_
            refine r_bind (r_newRow _ ?_) fun _ _ _ _ h => r_pure (VR.slice _ _ h)
            simp only [Array.toList_append]
            exact (ho.append hc).append (zeroCells_rel hv.cells _)
    · rw [if_pos rfl, if_pos rfl]
      refine rb_asInt hx fun m => ?_
      by_cases hm : IntKind.i64.wrap m < 0
      · rw [if_pos hm]
        exact deadb (dead_runtimePanic _)
      · rw [if_neg hm, if_neg hm]
        refine rb_typeInfo fun i hi => ?_
        by_cases hi : IntKind.i64.wrap m * (i.bytes : Int) > 2 ^ 48
        · rw [if_pos hi]
          exact .dead (dead_then (m_choose _) fun _ => dead_bind (dead_runtimePanic _))
        · rw [if_neg hi, if_neg hi]
          refine rb_pure ?_
          split
          · refine new true ((IntKind.i64.wrap m).toNat) fun c c' hc => ?_
            rcases hb with ⟨q1, q2⟩ | ⟨y, y', q1, q2, hy⟩ <;> subst q1 <;> subst q2
            · exact r_pure (VR.sliceNil _ _)
            · refine rb_storeCells ?_ 0 (hy.add _) hc
              exact r_pure (VR.slice _ _ hy)
          · refine rb_typeInfo fun i hi => ?_
            split
            · exact deadb (dead_runtimePanic _)
            · refine rb_typeInfo fun i hi => ?_
              split
              · first
                | exact deadb (dead_runtimePanic _)
                | refine deadb ?_
                  rw [if_pos rfl]
                  exact dead_runtimePanic _
                | refine deadb (dead_then (m_mayShare _ _ _ _ _) fun _ => ?_)
                  split
                  · exact dead_then (m_mark _) fun _ => dead_unsupported _
                  · exact dead_unsupported _
              · refine r_choose fun k => ?_
                refine rb_typeInfo fun i hi => ?_
                refine rb_askRoom ?_
                refine rb_firstCells hs fun o o' ho => ?_
                refine new true ((IntKind.i64.wrap m).toNat) fun c c' hc => ?_
                refine rb_zeroValue hz fun v hv => ?_
                refine r_bind (r_newRow _ ?_) fun _ _ _ _ h => r_pure (VR.slice _ _ h)
                simp only [Array.toList_append]
                exact (ho.append hc).append (zeroCells_rel hv.cells _)
end
end Go.Proofs.Ytgeoffpcmkofkaa
