/- Kb; Kc; Kd; Ke; Kf: texts laid into one. -/
import Derived.Test.YtgeoffpcmkofkaaQai
import Derived.Below
/- A run of the lone piece is matched by one of the other. -/
namespace Go.Proofs.Ytgeoffpcmkofkaa
open Go

section
variable {G : Nat} {FS : FuncId → Prop} {Sh : Nat → Prop} {B : BR} {wl w : World}
theorem heap_set_same {w : World} {a : Addr} {v : Value} {c : Array Value} {e : TypeId} {fr : Nat × Nat} (h : w.heap[a.block]? = some (.cells c e fr)) (hs : a.spot = none) : (w.setCell a v).heap[a.block]? = some (.cells (c.setIfInBounds a.off v) e fr) := by
  obtain ⟨hlt, hk⟩ := Array.getElem?_eq_some_iff.1 h
  show (w.heap.modify a.block _)[a.block]? = _
  rw [Array.getElem?_eq_getElem (by rw [Array.size_modify]; exact hlt), Array.getElem_modify_self, hk]
  simp [hs]
theorem heap_set_other {w : World} {a : Addr} {v : Value} {r : Nat} (h : r ≠ a.block) : (w.setCell a v).heap[r]? = w.heap[r]? := by
  exact Go.RowKit.Below.heap_setCell w a v r h
theorem heap_set_size (w : World) (a : Addr) (v : Value) : (w.setCell a v).heap.size = w.heap.size := by simp [World.setCell]

theorem WR.not_shared (h : WR G FS Sh B wl w) {a a' : Addr} (ha : AR G B a a') {v : Value} (hv : wl.cell? a = some v) (hf : wl.frozen? a = false) : ¬Sh a.block := by
  intro hs
  obtain ⟨c, e, fr, k1, k2, k3⟩ := cell_block hv
  obtain ⟨c', h2, h3, h4, _⟩ := h.cells ha.block k1
  have := h4 hs
  subst this
  have hlt : a.off < c.size := (Array.getElem?_eq_some_iff.1 k3).1
  simp [World.frozen?, k1, hlt] at hf
theorem WR.frozen (h : WR G FS Sh B wl w) {a a' : Addr} (ha : AR G B a a') : w.frozen? a' = false := by
  obtain ⟨o, o', h1, h2, h3⟩ := h.blk _ _ ha.block
  cases h3 <;> simp [World.frozen?, h2]
theorem WR.set (h : WR G FS Sh B wl w) {a a' : Addr} (ha : AR G B a a') {v v' u : Value} (hu : wl.cell? a = some u) (hv : VR G FS B v v') : WR G FS Sh B (wl.setCell a v) (w.setCell a' v') := by
  obtain ⟨c1, e1, fr1, k1, k2, k3⟩ := cell_block hu
  refine ⟨fun r r' hb => ?_, h.fn, h.inj, fun r hs => by rw [heap_set_size]; exact h.low r hs, by rw [heap_set_size]; exact h.glob, h.tape⟩
  by_cases hr : r = a.block
  · subst hr
    have hr' : r' = a'.block := h.fn _ _ _ hb ha.block
    subst hr'
    obtain ⟨c', h2, h3, h4, h5⟩ := h.cells hb k1
    refine ⟨_, _, heap_set_same k1 k2, heap_set_same h2 (by rw [ha.spot, k2]), .cells ?_ (fun hs => by rw [Array.size_setIfInBounds]; exact h4 hs) h5⟩
    rw [Array.toList_setIfInBounds, Array.toList_setIfInBounds, ha.off]
    exact h3.set _ hv
  · have hr' : r' ≠ a'.block := fun e => hr (h.inj _ _ _ (e ▸ hb) ha.block)
    obtain ⟨o, o', h1, h2, h3⟩ := h.blk r r' hb
    exact ⟨o, o', (heap_set_other hr).trans h1, (heap_set_other hr').trans h2, h3⟩
theorem did_set {w : World} {a a' : Addr} (ha : AR G B a a') (hs : ¬Sh a.block) (v' : Value) : Did Sh B B w (w.setCell a' v') := by
  refine ⟨rfl, rfl, rfl, by rw [heap_set_size]; exact Nat.le_refl _, fun r' hr k => heap_set_other fun e => hs ?_, Sub.refl _, fun _ _ hb => .inl hb⟩
  subst e
  exact k _ ha.block
theorem WR.lt (h : WR G FS Sh B wl w) {r r' : Nat} (hb : B r r') : r < wl.heap.size ∧ r' < w.heap.size := by
  obtain ⟨o, o', h1, h2, _⟩ := h.blk _ _ hb
  exact ⟨(Array.getElem?_eq_some_iff.1 h1).1, (Array.getElem?_eq_some_iff.1 h2).1⟩
theorem WR.new (h : WR G FS Sh B wl w) {o o' : Obj} (hc : ¬Sh wl.heap.size → ObR G FS Sh B wl.heap.size o o') : WR G FS Sh (ext B wl.heap.size w.heap.size) { wl with heap := wl.heap.push o } { w with heap := w.heap.push o' } := by
  have lt : ∀ {r r'}, B r r' → r < wl.heap.size ∧ r' < w.heap.size := fun hb => h.lt hb
  refine ⟨fun r r' hb => ?_, fun r r' q' h1 h2 => ?_, fun r q r' h1 h2 => ?_, fun r hs => by have := h.low r hs; simp; omega, by have := h.glob; simp; omega, h.tape⟩
  · rcases hb with hb | ⟨rfl, rfl⟩
    · obtain ⟨o1, o1', h1, h2, h3⟩ := h.blk r r' hb
      have := lt hb
      refine ⟨o1, o1', ?_, ?_, h3.mono (Sub.ext _ _ _)⟩
      · show (wl.heap.push _)[r]? = _
        rw [Array.getElem?_push_lt this.1, ← Array.getElem?_eq_getElem this.1]; exact h1
      · show (w.heap.push _)[r']? = _
        rw [Array.getElem?_push_lt this.2, ← Array.getElem?_eq_getElem this.2]; exact h2
    · exact ⟨o, o', by simp, by simp, (hc fun hs => absurd (h.low _ hs) (Nat.lt_irrefl _)).mono (Sub.ext _ _ _)⟩
  · rcases h1 with h1 | ⟨h1, h1'⟩ <;> rcases h2 with h2 | ⟨h2, h2'⟩
    · exact h.fn _ _ _ h1 h2
    · have := (lt h1).1; omega
    · have := (lt h2).1; omega
    · rw [h1', h2']
  · rcases h1 with h1 | ⟨h1, h1'⟩ <;> rcases h2 with h2 | ⟨h2, h2'⟩
    · exact h.inj _ _ _ h1 h2
    · have := (lt h1).2; omega
    · have := (lt h2).2; omega
    · rw [h1, h2]
theorem did_new (h : WR G FS Sh B wl w) (o : Obj) : Did Sh B (ext B wl.heap.size w.heap.size) w { w with heap := w.heap.push o } := by
  refine ⟨rfl, rfl, rfl, by simp, fun r' hr _ => ?_, Sub.ext _ _ _, fun r r' hb => ?_⟩
  · show (w.heap.push o)[r']? = _
    rw [Array.getElem?_push_lt hr, ← Array.getElem?_eq_getElem hr]
  · rcases hb with hb | ⟨rfl, rfl⟩
    · exact .inl hb
    · exact .inr ⟨Nat.le_refl _, by simp, fun hs => absurd (h.low _ hs) (Nat.lt_irrefl _)⟩
theorem WR.shape (h : WR G FS Sh B wl w) {r r' : Nat} (hb : B r r') : w.shape? r' = wl.shape? r := by
  obtain ⟨o, o', h1, h2, h3⟩ := h.blk r r' hb
  cases h3 with
  | cells k1 _ _ =>
    simp only [World.shape?, h1, h2]
    have := k1.length
    simp only [Array.length_toList] at this
    rw [this]
  | number _ _ => simp only [World.shape?, h1, h2]
theorem WR.draw (h : WR G FS Sh B wl w) : WR G FS Sh B { wl with drawn := wl.drawn + 1 } { w with drawn := w.drawn + 1 } :=
  ⟨h.blk, h.fn, h.inj, h.low, h.glob, fun i q => by have := h.tape (1 + i) q; simpa [Nat.add_assoc] using this⟩
end

section
variable {G : Nat} {FS : FuncId → Prop} {Sh : Nat → Prop} {P : Program} {α α' : Type} {Q : BR → α → α' → Prop}
/-- What the other run comes to. -/
def Comes' (G : Nat) (FS : FuncId → Prop) (Sh : Nat → Prop) (P : Program) (Q : BR → α → α' → Prop) (B : BR) (s' : Sem α') (w : World) (es : Array Event) (a : α) (wl' : World) : Prop :=
  ∃ B' a' w' es', s'.runT P w es = (.ok a' w', es') ∧ Q B' a a' ∧ WR G FS Sh B' wl' w' ∧ Did Sh B B' w w' ∧ ∀ e ∈ es', e ∈ es ∨ EvOK Sh B' e

theorem SemR.run {B : BR} {s : Sem α} {s' : Sem α'} (h : SemR (G := G) (FS := FS) P Q B s s') : ∀ {wl w : World} {a : α} {wl' : World} (es : Array Event), WR G FS Sh B wl w → s.run P wl = .ok a wl' → Comes' G FS Sh P Q B s' w es a wl' := by
  induction h with
  | pure hq =>
    intro wl w a wl' es hw hr
    simp only [Sem.run] at hr
    cases hr
    exact ⟨_, _, w, es, rfl, hq, hw, Did.refl _ _, fun e he => .inl he⟩
  | @load B a a' k k' ha _ ih =>
    intro wl w x wl' es hw hr
    simp only [Sem.run] at hr
    cases hc : wl.cell? a with
    | none =>
      rw [hc] at hr
      simp only at hr
      have := (hw.far (P := P) ha (Mode.plain == .atomic)).1
      split at hr
      · rename_i hf; exact absurd hf (this _)
      · cases hr
    | some v =>
      rw [hc] at hr
      obtain ⟨v', hv', hvr⟩ := hw.cell ha hc
      obtain ⟨B', a2, w', es', h1, h2, h3, h4, h5⟩ := ih v v' hvr (es.push ⟨.cell a', false, false⟩) hw hr
      refine ⟨B', a2, w', es', ?_, h2, h3, h4, fun e he => ?_⟩
      · simp only [Sem.runT, hv']
        exact h1
      · rcases h5 e he with q | q
        · rcases Array.mem_push.1 q with q | q
          · exact .inl q
          · exact .inr (.inl ⟨a', q, _, h4.sub _ _ ha.block⟩)
        · exact .inr q
  | @store B a a' v v' k k' ha hv _ ih =>
    intro wl w x wl' es hw hr
    have key : ∀ (hag : ∀ cs, v ≠ .agg cs) (htu : ∀ cs, v ≠ .tuple cs), Comes' G FS Sh P Q B (.store .plain a' v' k') w es x wl' := by
      intro hag htu
      have e1 : (Sem.store .plain a v k).run P wl = match wl.cell? a with
          | some _ => if wl.frozen? a then .halt (.unsupported (.unsafePointer "a write to bytes that a string shares")) wl else k.run P (wl.setCell a v)
          | none => match wl.farStore P a v (Mode.plain == .atomic) with
            | .ok (w, _) => k.run P w
            | .error h => .halt h wl := by
        cases v <;> first | rfl | exact absurd rfl (hag _) | exact absurd rfl (htu _)
      have e2 : (Sem.store .plain a' v' k').runT P w es = match w.cell? a' with
          | some _ =>
            if w.frozen? a' then (.halt (.unsupported (.unsafePointer "a write to bytes that a string shares")) w, es)
            else k'.runT P (w.setCell a' v') (es.push ⟨.cell a', true, Mode.plain == .atomic⟩)
          | none => match w.farStore P a' v' (Mode.plain == .atomic) with
            | .ok (w, touched) => k'.runT P w (es ++ touched.toArray.map (⟨.cell ·, true, Mode.plain == .atomic⟩))
            | .error h => (.halt h w, es) := by
        cases hv <;> first | rfl | exact absurd rfl (hag _) | exact absurd rfl (htu _)
      rw [e1] at hr
      cases hc : wl.cell? a with
      | none =>
        rw [hc] at hr
        simp only at hr
        have := (hw.far (P := P) ha (Mode.plain == .atomic)).2 v
        split at hr
        · rename_i hf; exact absurd hf (this _)
        · cases hr
      | some u =>
        rw [hc] at hr
        simp only at hr
        by_cases hf : wl.frozen? a = true
        · rw [if_pos hf] at hr; cases hr
        · rw [if_neg hf] at hr
          obtain ⟨u', hu', _⟩ := hw.cell ha hc
          have hns := hw.not_shared ha hc (by simpa using hf)
          obtain ⟨B', a2, w', es', h1, h2, h3, h4, h5⟩ := ih (es.push ⟨.cell a', true, false⟩) (hw.set ha hc hv) hr
          refine ⟨B', a2, w', es', ?_, h2, h3, (did_set ha hns v').trans h4, fun e he => ?_⟩
          · rw [e2, hu']
            simp only [hw.frozen ha]
            exact h1
          · rcases h5 e he with q | q
            · rcases Array.mem_push.1 q with q | q
              · exact .inl q
              · exact .inr (.inr (.inl ⟨a', q, _, h4.sub _ _ ha.block, hns⟩))
            · exact .inr q
    cases v with
    | agg cs => simp [Sem.run] at hr
    | tuple cs => simp [Sem.run] at hr
    | _ => exact key (fun _ h => by cases h) (fun _ h => by cases h)
  | @getNum B r r' k k' hb _ ih =>
    intro wl w x wl' es hw hr
    obtain ⟨o, o', g1, g2, g3⟩ := hw.blk r r' hb
    simp only [Sem.run, g1] at hr
    cases g3 with
    | cells _ _ _ => simp at hr
    | @number a a' l ha hns =>
      simp only at hr
      obtain ⟨B', a2, w', es', h1, h2, h3, h4, h5⟩ := ih a a' l ha (es.push ⟨.obj r', false, false⟩) hw hr
      refine ⟨B', a2, w', es', ?_, h2, h3, h4, fun e he => ?_⟩
      · simp only [Sem.runT, g2]
        exact h1
      · rcases h5 e he with q | q
        · rcases Array.mem_push.1 q with q | q
          · exact .inl q
          · exact .inr (.inr (.inr (.inr ⟨r', q, r, h4.sub _ _ hb, hns⟩)))
        · exact .inr q
  | @newNum B a a' l k k' ha _ ih =>
    intro wl w x wl' es hw hr
    simp only [Sem.run] at hr
    obtain ⟨B', a2, w', es', h1, h2, h3, h4, h5⟩ := ih wl.heap.size w.heap.size hw.glob es (hw.new fun hs => .number ha hs) hr
    refine ⟨B', a2, w', es', ?_, h2, h3, (did_new hw _).trans h4, h5⟩
    simp only [Sem.runT]
    exact h1
  | @new B c c' e k k' hc _ ih =>
    intro wl w x wl' es hw hr
    simp only [Sem.run] at hr
    obtain ⟨B', a2, w', es', h1, h2, h3, h4, h5⟩ := ih wl.heap.size w.heap.size hw.glob es (hw.new fun hs => .cells hc (fun k => absurd k hs) fun _ => rfl) hr
    refine ⟨B', a2, w', es', ?_, h2, h3, (did_new hw _).trans h4, h5⟩
    simp only [Sem.runT]
    exact h1
  | @shape B r r' k k' hb _ ih =>
    intro wl w x wl' es hw hr
    simp only [Sem.run] at hr
    obtain ⟨B', a2, w', es', h1, h2, h3, h4, h5⟩ := ih _ es hw hr
    refine ⟨B', a2, w', es', ?_, h2, h3, h4, h5⟩
    simp only [Sem.runT, hw.shape hb]
    exact h1
  | @choose B q k k' _ ih =>
    intro wl w x wl' es hw hr
    simp only [Sem.run] at hr
    by_cases hq : q.forced = true
    · rw [if_pos hq] at hr
      obtain ⟨B', a2, w', es', h1, h2, h3, h4, h5⟩ := ih _ es hw hr
      refine ⟨B', a2, w', es', ?_, h2, h3, h4, h5⟩
      simp only [Sem.runT, if_pos hq]
      exact h1
    · rw [if_neg hq] at hr
      have ht := hw.tape 0 q
      simp only [Nat.add_zero] at ht
      rw [ht] at hr
      obtain ⟨B', a2, w', es', h1, h2, h3, h4, h5⟩ := ih _ es hw.draw hr
      refine ⟨B', a2, w', es', ?_, h2, h3, ⟨h4.os, h4.tape, h4.output, h4.size, h4.kept, h4.sub, h4.new⟩, h5⟩
      simp only [Sem.runT, if_neg hq]
      exact h1
  | program _ ih =>
    intro wl w x wl' es hw hr
    simp only [Sem.run] at hr
    obtain ⟨B', a2, w', es', h1, h2, h3, h4, h5⟩ := ih es hw hr
    exact ⟨B', a2, w', es', by simp only [Sem.runT]; exact h1, h2, h3, h4, h5⟩
  | @mark B m k k' hm _ ih =>
    intro wl w x wl' es hw hr
    simp only [Sem.run] at hr
    obtain ⟨B', a2, w', es', h1, h2, h3, h4, h5⟩ := ih (es.push ⟨.mark m, false, true⟩) hw hr
    refine ⟨B', a2, w', es', by simp only [Sem.runT]; exact h1, h2, h3, h4, fun e he => ?_⟩
    rcases h5 e he with q | q
    · rcases Array.mem_push.1 q with q | q
      · exact .inl q
      · exact .inr (.inr (.inr (.inl ⟨m, q, hm⟩)))
    · exact .inr q
  | dead hd =>
    intro wl w x wl' es _ hr
    exact absurd hr (hd.1 _ _ _)
end
end Go.Proofs.Ytgeoffpcmkofkaa
/- Operations that read and write memory are matched: loads, stores, new rows, addresses. -/
namespace Go.Proofs.Ytgeoffpcmkofkaa
open Go

section
variable {G : Nat} {FS : FuncId → Prop} {P : Program} {α α' β β' : Type} {Q : BR → α → α' → Prop} {Q' : BR → β → β' → Prop} {B : BR}
/-- The very same. -/
def EqQ {γ : Type} : BR → γ → γ → Prop := fun _ a a' => a' = a
abbrev VQ (G : Nat) (FS : FuncId → Prop) : BR → Value → Value → Prop := fun B v v' => VR G FS B v v'
abbrev VsQ (G : Nat) (FS : FuncId → Prop) : BR → Array Value → Array Value → Prop := fun B v v' => VRs G FS B v.toList v'.toList
abbrev AQ (G : Nat) : BR → Addr → Addr → Prop := fun B a a' => AR G B a a'

theorem r_bind {s : Sem α} {s' : Sem α'} (h : SemR (G := G) (FS := FS) P Q B s s') {f : α → Sem β} {f' : α' → Sem β'} (hf : ∀ B', Sub B B' → ∀ a a', Q B' a a' → SemR (G := G) (FS := FS) P Q' B' (f a) (f' a')) : SemR (G := G) (FS := FS) P Q' B (s >>= f) (s' >>= f') := SemR.bind h hf
theorem r_pure {a : α} {a' : α'} (h : Q B a a') : SemR (G := G) (FS := FS) P Q B (pure a) (pure a') := .pure h
theorem r_stuck (why : String) (s' : Sem α') : SemR (G := G) (FS := FS) P Q B (stuck why) s' := .dead (dead_stuck _)
theorem r_unsupported (u : Unsupported) (s' : Sem α') : SemR (G := G) (FS := FS) P Q B (unsupported u) s' := .dead (dead_unsupported _)
theorem r_goPanic (v : Value) (s' : Sem α') : SemR (G := G) (FS := FS) P Q B (goPanic v) s' := .dead (dead_goPanic _)
theorem m_elemOf (t : TypeId) : MildT P (elemOf t) := by
  unfold elemOf
  refine m_bind (m_underlying t) fun d => ?_
  split
  · exact m_pure _
  · exact m_stuck _
theorem m_newVar (t : TypeId) (v : Value) : MildT P (newVar t v) := fun w h w' hr => by cases hr
theorem dead_runtimePanic (e : RuntimeError) : Dead P (runtimePanic e : Sem α) := by
  unfold runtimePanic
  refine dead_then m_program fun p => ?_
  cases e with
  | typeAssertion i c a m => exact dead_then (m_elemOf _) fun _ => dead_then (m_newVar _ _) fun _ => dead_goPanic _
  | panicNil => exact dead_then (m_elemOf _) fun _ => dead_then (m_newVar _ _) fun _ => dead_goPanic _
  | _ => exact dead_goPanic _
theorem r_runtimePanic (e : RuntimeError) (s' : Sem α') : SemR (G := G) (FS := FS) P Q B (runtimePanic e) s' := .dead (dead_runtimePanic e)
theorem r_boundsPanic (k : IntKind) (x y : Int) (c : BoundsCode) (s' : Sem α') : SemR (G := G) (FS := FS) P Q B (boundsPanic k x y c) s' := by
  refine .dead ?_
  unfold boundsPanic
  simp only
  split
  · exact dead_then (m_bind (m_choose _) fun _ => m_pure _) fun _ => dead_runtimePanic _
  · exact dead_then (m_pure _) fun _ => dead_runtimePanic _
theorem r_prog {f : Program → Sem β} {f' : Program → Sem β'} (h : SemR (G := G) (FS := FS) P Q' B (f P) (f' P)) : SemR (G := G) (FS := FS) P Q' B (program >>= f) (program >>= f') := .program h
theorem r_choose {q : Question} {f : Nat → Sem β} {f' : Nat → Sem β'} (h : ∀ n, SemR (G := G) (FS := FS) P Q' B (f n) (f' n)) : SemR (G := G) (FS := FS) P Q' B (choose q >>= f) (choose q >>= f') := .choose h
theorem r_underlying (t : TypeId) : SemR (G := G) (FS := FS) P (fun _ d d' => d' = d ∧ P.underlying t = some d) B (underlying t) (underlying t) := by
  unfold underlying
  refine r_prog ?_
  cases h : P.underlying t with
  | none => exact r_stuck _ _
  | some d => exact r_pure ⟨rfl, rfl⟩
theorem r_typeInfo (t : TypeId) : SemR (G := G) (FS := FS) P (fun _ d d' => d' = d ∧ P.info? t = some d) B (typeInfo t) (typeInfo t) := by
  unfold typeInfo
  refine r_prog ?_
  cases h : P.info? t with
  | none => exact r_stuck _ _
  | some d => exact r_pure ⟨rfl, rfl⟩
theorem r_sizeOf (t : TypeId) : SemR (G := G) (FS := FS) P EqQ B (sizeOf t) (sizeOf t) := by
  unfold sizeOf
  exact r_bind (r_typeInfo t) fun B' _ a a' h => by rw [h.1]; exact r_pure rfl
theorem r_isAgg (t : TypeId) : SemR (G := G) (FS := FS) P EqQ B (isAgg t) (isAgg t) := by
  unfold isAgg
  refine r_bind (r_underlying t) fun B' _ a a' h => ?_
  rw [h.1]
  split <;> exact r_pure rfl
/-- The type's zero value names no memory. -/
def ZT (G : Nat) (FS : FuncId → Prop) (P : Program) (t : TypeId) : Prop := ∀ (B : BR) (i : TypeInfo) (v : Value), P.info? t = some i → i.zero = some v → VR G FS B v v
/-- .. of a slice's elements. -/
def SZ (G : Nat) (FS : FuncId → Prop) (P : Program) (t : TypeId) : Prop := ∀ e, P.underlying t = some (.slice e) → ZT G FS P e
theorem r_zeroValue {t : TypeId} (hz : ZT G FS P t) : SemR (G := G) (FS := FS) P (fun B v v' => v' = v ∧ VR G FS B v v) B (zeroValue t) (zeroValue t) := by
  unfold zeroValue
  refine r_bind (r_typeInfo t) fun B' _ a a' h => ?_
  rw [h.1]
  cases hv : a.zero with
  | none => exact r_unsupported _ _
  | some v => exact r_pure ⟨rfl, hz _ a v h.2 hv⟩
theorem VR.cells {v v' : Value} (h : VR G FS B v v') : VRs G FS B v.cells.toList v'.cells.toList := by
  cases h with
  | agg k => exact k
  | bool b => exact .cons (.bool b) .nil
  | int k n => exact .cons (.int k n) .nil
  | float k n => exact .cons (.float k n) .nil
  | string s => exact .cons (.string s) .nil
  | ptrNil => exact .cons .ptrNil .nil
  | ptr k => exact .cons (.ptr k) .nil
  | sliceNil l c => exact .cons (.sliceNil l c) .nil
  | slice l c k => exact .cons (.slice l c k) .nil
  | func f k => exact .cons (.func f k) .nil
  | nilFunc => exact .cons .nilFunc .nil
  | nilIface => exact .cons .nilIface .nil
  | mapNil => exact .cons .mapNil .nil
  | chanNil => exact .cons .chanNil .nil
  | iface t k => exact .cons (.iface t k) .nil
  | tuple k => exact .cons (.tuple k) .nil
theorem VRs.size {c c' : Array Value} (h : VRs G FS B c.toList c'.toList) : c'.size = c.size := by
  have := h.length
  simpa using this

theorem r_load {a a' : Addr} (h : AR G B a a') : SemR (G := G) (FS := FS) P (VQ G FS) B (load a) (load a') := .load h fun _ _ hv => .pure hv
theorem r_loadCellsFrom : ∀ (n i : Nat) {B : BR} {a a' : Addr} {acc acc' : Array Value}, AR G B a a' → VRs G FS B acc.toList acc'.toList → SemR (G := G) (FS := FS) P (VsQ G FS) B (loadCellsFrom a i n acc) (loadCellsFrom a' i n acc')
  | 0, _, _, _, _, _, _, _, hacc => r_pure hacc
  | n + 1, i, B, a, a', acc, acc', ha, hacc => by
    unfold loadCellsFrom
    refine r_bind (r_load (ha.add i)) fun B' hB v v' hv => ?_
    refine r_loadCellsFrom n (i + 1) (ha.mono hB) ?_
    rw [Array.toList_push, Array.toList_push]
    exact (hacc.mono hB).append (.cons hv .nil)
theorem r_loadCells {a a' : Addr} (ha : AR G B a a') (n : Nat) : SemR (G := G) (FS := FS) P (VsQ G FS) B (loadCells a n) (loadCells a' n) := r_loadCellsFrom n 0 ha .nil
theorem r_loadVar (t : TypeId) {a a' : Addr} (ha : AR G B a a') : SemR (G := G) (FS := FS) P (VQ G FS) B (loadVar t a) (loadVar t a') := by
  unfold loadVar
  refine r_bind (r_isAgg t) fun B' hB b b' hb => ?_
  obtain rfl : b' = b := hb
  cases b'
  · exact r_load (ha.mono hB)
  · simp only [if_true]
    refine r_bind (r_sizeOf t) fun B'' hB' n n' hn => ?_
    obtain rfl : n' = n := hn
    exact r_bind (r_loadCells ((ha.mono hB).mono hB') _) fun _ _ _ _ h => r_pure (.agg h)
theorem r_storeCells : ∀ {l l' : List Value} (i : Nat) {B : BR} {a a' : Addr}, AR G B a a' → VRs G FS B l l' → SemR (G := G) (FS := FS) P EqQ B (storeCells a l i) (storeCells a' l' i)
  | _, _, _, _, _, _, _, .nil => by unfold storeCells; exact r_pure rfl
  | _, _, i, _, _, _, ha, .cons hv hl => by
    unfold storeCells
    exact .store (ha.add i) hv (r_storeCells (i + 1) ha hl)
theorem r_storeVar (t : TypeId) {a a' : Addr} (ha : AR G B a a') {v v' : Value} (hv : VR G FS B v v') : SemR (G := G) (FS := FS) P EqQ B (storeVar t a v) (storeVar t a' v') := by
  unfold storeVar
  refine r_bind (r_sizeOf t) fun B' hB n n' hn => ?_
  obtain rfl : n' = n := hn
  have hc := hv.cells
  rw [hc.size]
  split
  · exact .dead (dead_bind (dead_stuck _))
  · exact r_storeCells 0 (ha.mono hB) (hc.mono hB)
theorem r_newRow (e : TypeId) {c c' : Array Value} (hc : VRs G FS B c.toList c'.toList) : SemR (G := G) (FS := FS) P (AQ G) B (newRow e c) (newRow e c') := .new hc fun _ _ hr => .pure ⟨.inr ⟨rfl, rfl⟩, rfl, rfl, hr⟩
theorem r_newVar (t : TypeId) {v v' : Value} (hv : VR G FS B v v') : SemR (G := G) (FS := FS) P (AQ G) B (newVar t v) (newVar t v') := r_newRow t hv.cells
theorem r_part (t : TypeId) {c c' : Array Value} (hc : VRs G FS B c.toList c'.toList) (off : Nat) : SemR (G := G) (FS := FS) P (VQ G FS) B (part t c off) (part t c' off) := by
  unfold part
  refine r_bind (r_isAgg t) fun B' hB b b' hb => ?_
  obtain rfl : b' = b := hb
  cases b'
  · simp only [Bool.false_eq_true, if_false]
    cases h : c[off]? with
    | none => exact r_stuck _ _
    | some v =>
      obtain ⟨v', e1, e2⟩ := hc.get (i := off) (v := v) (by simpa using h)
      have : c'[off]? = some v' := by simpa using e1
      rw [this]
      exact r_pure (e2.mono hB)
  · simp only [if_true]
    refine r_bind (r_sizeOf t) fun B'' hB' n n' hn => ?_
    obtain rfl : n' = n := hn
    refine r_pure (.agg ?_)
    simp only [Array.toList_extract, List.extract_eq_take_drop]
    exact (((hc.mono hB).mono hB').drop _).take _

theorem r_asIntOf {v v' : Value} (h : VR G FS B v v') : SemR (G := G) (FS := FS) P EqQ B (asIntOf v) (asIntOf v') := by
  cases h <;> first | exact r_pure rfl | exact r_stuck _ _ | exact r_unsupported _ _
theorem r_asInt {v v' : Value} (h : VR G FS B v v') : SemR (G := G) (FS := FS) P EqQ B (asInt v) (asInt v') := by
  unfold asInt
  exact r_bind (r_asIntOf h) fun _ _ a a' e => by obtain rfl : a' = a := e; exact r_pure rfl
theorem r_asBool {v v' : Value} (h : VR G FS B v v') : SemR (G := G) (FS := FS) P EqQ B (asBool v) (asBool v') := by
  cases h <;> first | exact r_pure rfl | exact r_stuck _ _
theorem r_sureAddr {v v' : Value} (h : VR G FS B v v') : SemR (G := G) (FS := FS) P (AQ G) B (Instr.sureAddr v) (Instr.sureAddr v') := by
  cases h <;> first | exact r_stuck _ _ | (rename_i ha; exact r_pure ha)

/-! ### The operations -/
theorem r_alloc {e : TypeId} (hz : ZT G FS P e) : SemR (G := G) (FS := FS) P (VQ G FS) B (Instr.alloc e true (.tuple #[])) (Instr.alloc e true (.tuple #[])) := by
  unfold Instr.alloc
  refine r_bind (r_zeroValue hz) fun B' _ v v' h => ?_
  rw [h.1]
  exact r_bind (r_newVar e h.2) fun _ _ _ _ h => r_pure (.ptr h)
theorem r_box (e : TypeId) {v v' : Value} (h : VR G FS B v v') : SemR (G := G) (FS := FS) P (VQ G FS) B (Instr.box e v) (Instr.box e v') := by
  unfold Instr.box
  exact r_bind (r_newVar e h) fun _ _ _ _ h => r_pure (.ptr h)
theorem r_loadAt (t : TypeId) {v v' : Value} (h : VR G FS B v v') : SemR (G := G) (FS := FS) P (VQ G FS) B (Instr.loadAt t v) (Instr.loadAt t v') := by
  unfold Instr.loadAt
  exact r_bind (r_sureAddr h) fun _ _ _ _ ha => r_loadVar t ha
theorem r_storeAt (t : TypeId) {v v' x x' : Value} (h : VR G FS B v v') (hx : VR G FS B x x') : SemR (G := G) (FS := FS) P EqQ B (Instr.storeAt t v x) (Instr.storeAt t v' x') := by
  unfold Instr.storeAt
  exact r_bind (r_sureAddr h) fun _ hB _ _ ha => r_storeVar t ha (hx.mono hB)
theorem r_extract {v v' : Value} (h : VR G FS B v v') (i : Nat) : SemR (G := G) (FS := FS) P (VQ G FS) B (Instr.extract v i) (Instr.extract v' i) := by
  cases h <;> first | exact r_stuck _ _ | skip
  rename_i c c' hc
  unfold Instr.extract
  simp only
  cases h : c[i]? with
  | none => exact r_stuck _ _
  | some v =>
    obtain ⟨v', e1, e2⟩ := hc.get (i := i) (v := v) (by simpa using h)
    have : c'[i]? = some v' := by simpa using e1
    rw [this]
    exact r_pure e2
end
end Go.Proofs.Ytgeoffpcmkofkaa
/- Operations are matched: addresses, slices, arithmetic, conversions, append. -/
namespace Go.Proofs.Ytgeoffpcmkofkaa
open Go

section
variable {G : Nat} {FS : FuncId → Prop} {P : Program} {α α' β β' : Type} {Q : BR → α → α' → Prop} {Q' : BR → β → β' → Prop} {B : BR}

theorem VR.none_or {v v' : Value} (h : VR G FS B v v') {a : Option Addr} {l c : Nat} (e : v = .slice a l c) : ∃ a', v' = .slice a' l c ∧ (a = none ∧ a' = none ∨ ∃ x x', a = some x ∧ a' = some x' ∧ AR G B x x') := by
  subst e
  cases h with
  | sliceNil => exact ⟨none, rfl, .inl ⟨rfl, rfl⟩⟩
  | slice _ _ ha => exact ⟨_, rfl, .inr ⟨_, _, rfl, rfl, ha⟩⟩
theorem VR.mkSlice {a a' : Option Addr} (h : a = none ∧ a' = none ∨ ∃ x x', a = some x ∧ a' = some x' ∧ AR G B x x') (l c : Nat) : VR G FS B (.slice a l c) (.slice a' l c) := by
  rcases h with ⟨rfl, rfl⟩ | ⟨x, x', rfl, rfl, k⟩
  · exact .sliceNil _ _
  · exact .slice _ _ k

theorem r_stuckBind (why : String) (f : α → Sem β) (s' : Sem β') : SemR (G := G) (FS := FS) P Q' B (stuck why >>= f) s' := .dead (dead_bind (dead_stuck _))
theorem r_indexAt (t : TypeId) {x x' i i' : Value} (hx : VR G FS B x x') (hi : VR G FS B i i') : SemR (G := G) (FS := FS) P (VQ G FS) B (Instr.indexAt t x i) (Instr.indexAt t x' i') := by
  unfold Instr.indexAt
  refine r_bind (r_asIntOf hi) fun B1 h1 k k' hk => ?_
  obtain rfl : k' = k := hk
  obtain ⟨kk, ii⟩ := k'
  simp only
  refine r_bind (r_underlying t) fun B2 h2 d d' hd => ?_
  rw [hd.1]
  have hx2 := (hx.mono h1).mono h2
  cases d <;> first | exact r_stuckBind _ _ _ | skip
  case array len elem =>
    refine r_bind (r_sureAddr hx2) fun B3 h3 a a' ha => ?_
    simp only [pure_bind]
    refine r_bind (r_underlying _) fun B3 h3 d d' hd => ?_
    rw [hd.1]
    split
    · refine r_bind (r_sizeOf _) fun B4 h4 n n' hn => ?_
      have hn : n' = n := hn
      subst hn
      exact r_pure (VR.ptr ((AR.mono (h3.trans h4) ha).add _))
    · (repeat' split) <;> first | exact r_unsupported _ _ | exact r_boundsPanic _ _ _ _ _
  case slice elem =>
    cases hx2 <;> first | exact r_stuckBind _ _ _ | skip
    case sliceNil l c =>
      simp only [pure_bind]
      refine r_bind (r_underlying _) fun B3 h3 d d' hd => ?_
      exact r_boundsPanic _ _ _ _ _
    case slice l c ha =>
      simp only [pure_bind]
      refine r_bind (r_underlying _) fun B3 h3 d d' hd => ?_
      rw [hd.1]
      split
      · refine r_bind (r_sizeOf _) fun B4 h4 n n' hn => ?_
        have hn : n' = n := hn
        subst hn
        exact r_pure (VR.ptr ((AR.mono (h3.trans h4) ha).add _))
      · (repeat' split) <;> first | exact r_unsupported _ _ | exact r_boundsPanic _ _ _ _ _

theorem r_fieldAt (s : TypeId) {x x' : Value} (hx : VR G FS B x x') (f : Nat) (hs : ∀ fields fl, P.underlying s = some (.struct fields) → fields[f]? = some fl → ∃ i, P.info? fl.type = some i ∧ i.size ≠ 0) : SemR (G := G) (FS := FS) P (VQ G FS) B (Instr.fieldAt s x f) (Instr.fieldAt s x' f) := by
  unfold Instr.fieldAt
  refine r_bind (r_underlying s) fun B1 h1 d d' hd => ?_
  rw [hd.1]
  cases d <;> first | exact r_stuck _ _ | skip
  rename_i fields
  simp only
  cases hf : fields[f]? with
  | none => exact r_stuck _ _
  | some fl =>
    simp only
    refine r_bind (r_sureAddr (hx.mono h1)) fun B2 h2 a a' ha => ?_
    refine r_bind (Q := AQ G) ?_ fun _ _ _ _ h => r_pure (.ptr h)
    unfold fieldPlace
    obtain ⟨i, hi, hn⟩ := hs fields fl hd.2 hf
    refine r_bind (r_bind (r_typeInfo _) (Q' := fun _ n n' => n' = n ∧ n ≠ 0) fun B3 h3 j j' hj => ?_) fun B3 h3 n n' hn => ?_
    · rw [hj.1]
      refine r_pure ⟨rfl, ?_⟩
      have := hj.2
      rw [hi] at this
      injection this with this
      rw [← this]; exact hn
    · rw [hn.1]
      simp only [if_neg hn.2]
      exact r_pure ((ha.mono h3).add _)

theorem r_sliceBound {x x' : Value} (hx : VR G FS B x x') (y : Nat) (c : BoundsCode) : SemR (G := G) (FS := FS) P EqQ B (Instr.sliceBound x y c) (Instr.sliceBound x' y c) := by
  unfold Instr.sliceBound
  refine r_bind (r_asIntOf hx) fun B1 h1 k k' hk => ?_
  obtain rfl : k' = k := hk
  simp only
  split
  · exact r_pure rfl
  · exact r_boundsPanic _ _ _ _ _
/-- Bounds that may be left out. -/
def OV (G : Nat) (FS : FuncId → Prop) (B : BR) : Option Value → Option Value → Prop
  | none, none => True
  | some v, some v' => VR G FS B v v'
  | _, _ => False
theorem OV.mono {B B' : BR} (h : Sub B B') : ∀ {v v' : Option Value}, OV G FS B v v' → OV G FS B' v v'
  | none, none, _ => trivial
  | some _, some _, k => VR.mono h k
theorem r_sliceBounds (b : Bool) (len cap : Nat) {lo lo' hi hi' : Option Value} (hl : OV G FS B lo lo') (hh : OV G FS B hi hi') : SemR (G := G) (FS := FS) P EqQ B (Instr.sliceBounds b len cap lo hi none) (Instr.sliceBounds b len cap lo' hi' none) := by
  cases hi <;> cases hi' <;> first | exact hh.elim | skip
  · cases lo <;> cases lo' <;> first | exact hl.elim | skip
    · exact .pure rfl
    · rename_i v v'
      show SemR P EqQ B (Instr.sliceBound v len .sliceB >>= fun l => pure (l, len, cap)) (Instr.sliceBound v' len .sliceB >>= fun l => pure (l, len, cap))
      exact r_bind (r_sliceBound hl _ _) fun _ _ q q' hq => by obtain rfl : q' = q := hq; exact r_pure rfl
  · rename_i u u'
    cases lo <;> cases lo' <;> first | exact hl.elim | skip
    · show SemR P EqQ B (Instr.sliceBound u cap (if b then .sliceAcap else .sliceAlen) >>= fun h => pure (0, h, cap)) (Instr.sliceBound u' cap (if b then .sliceAcap else .sliceAlen) >>= fun h => pure (0, h, cap))
      exact r_bind (r_sliceBound hh _ _) fun _ _ q q' hq => by obtain rfl : q' = q := hq; exact r_pure rfl
    · rename_i v v'
      show SemR P EqQ B (Instr.sliceBound u cap (if b then .sliceAcap else .sliceAlen) >>= fun h => Instr.sliceBound v h .sliceB >>= fun l => pure (l, h, cap)) (Instr.sliceBound u' cap (if b then .sliceAcap else .sliceAlen) >>= fun h => Instr.sliceBound v' h .sliceB >>= fun l => pure (l, h, cap))
      refine r_bind (r_sliceBound hh _ _) fun B2 h2 n n' hn => ?_
      obtain rfl : n' = n := hn
      exact r_bind (r_sliceBound (VR.mono h2 hl) _ _) fun _ _ q q' hq => by obtain rfl : q' = q := hq; exact r_pure rfl
/-- A slice of a slice (of no string, array or pointer). -/
theorem r_sliceAt (t : TypeId) {e : TypeId} (ht : P.underlying t = some (.slice e)) {x x' : Value} (hx : VR G FS B x x') {lo lo' hi hi' : Option Value} (hl : OV G FS B lo lo') (hh : OV G FS B hi hi') : SemR (G := G) (FS := FS) P (VQ G FS) B (Instr.sliceAt t x lo hi none) (Instr.sliceAt t x' lo' hi' none) := by
  unfold Instr.sliceAt
  refine r_bind (r_underlying t) fun B1 h1 d d' hd => ?_
  rw [hd.1]
  obtain rfl : d = .slice e := by have := hd.2; rw [ht] at this; injection this with this; exact this.symm
  simp only
  unfold Instr.slice
  refine r_bind (r_underlying t) fun B2 h2 d d' hd => ?_
  rw [hd.1]
  obtain rfl : d = .slice e := by have := hd.2; rw [ht] at this; injection this with this; exact this.symm
  have hx2 := (hx.mono h1).mono h2
  have key : ∀ {a a' : Option Addr} {l c : Nat}, (a = none ∧ a' = none ∨ ∃ x x', a = some x ∧ a' = some x' ∧ AR G B2 x x') → SemR (G := G) (FS := FS) P (VQ G FS) B2
      (do let (l, h, m) ← Instr.sliceBounds true l c lo hi none; let size ← sizeOf e; pure (.slice (if m = l then a else a.map (·.add (l * size))) (h - l) (m - l)))
      (do let (l, h, m) ← Instr.sliceBounds true l c lo' hi' none; let size ← sizeOf e; pure (.slice (if m = l then a' else a'.map (·.add (l * size))) (h - l) (m - l))) := by
    intro a a' l c ha
    refine r_bind (r_sliceBounds true l c ((hl.mono h1).mono h2) ((hh.mono h1).mono h2)) fun B3 h3 q q' hq => ?_
    obtain rfl : q' = q := hq
    obtain ⟨ql, qh, qm⟩ := q'
    simp only
    refine r_bind (r_sizeOf _) fun B4 h4 n n' hn => ?_
    obtain rfl : n' = n := hn
    refine r_pure (VR.mkSlice ?_ _ _)
    rcases ha with ⟨rfl, rfl⟩ | ⟨y, y', rfl, rfl, hy⟩
    · left; simp
    · right
      have hy2 := (hy.mono h3).mono h4
      by_cases hm : qm = ql
      · simp only [hm, if_true]; exact ⟨y, y', rfl, rfl, hy2⟩
      · simp only [hm, if_false, Option.map_some]; exact ⟨_, _, rfl, rfl, hy2.add _⟩
  cases hx2 <;> first | exact r_stuck _ _ | skip
  · exact key (.inl ⟨rfl, rfl⟩)
  · rename_i h; exact key (.inr ⟨_, _, rfl, rfl, h⟩)

theorem VRs.zeros {z : Array Value} (hz : VRs G FS B z.toList z.toList) (n : Nat) (hn : 0 < n → 0 < z.size) : VRs G FS B ((Array.range n).map (z[· % z.size]!)).toList ((Array.range n).map (z[· % z.size]!)).toList := by
  refine VRs.of_get rfl fun i v v' h1 h2 => ?_
  rw [h1] at h2
  injection h2 with h2
  subst h2
  simp only [Array.toList_map, List.getElem?_map, Option.map_eq_some_iff] at h1
  obtain ⟨j, hj, rfl⟩ := h1
  have hjn : j < n := by
    have := List.mem_of_getElem? hj
    simpa using this
  have hs := hn (by omega)
  have hlt : j % z.size < z.size := Nat.mod_lt _ hs
  rw [getElem!_pos z _ hlt]
  obtain ⟨v', e1, e2⟩ := hz.get (i := j % z.size) (v := z[j % z.size]) (by simp [hlt])
  have : v' = z[j % z.size] := by
    have e3 : z.toList[j % z.size]? = some z[j % z.size] := by simp [hlt]
    rw [e3] at e1
    injection e1 with e1
    exact e1.symm
  rwa [this] at e2
end
end Go.Proofs.Ytgeoffpcmkofkaa
/- Operations are matched: rows that are made, append. -/
namespace Go.Proofs.Ytgeoffpcmkofkaa
open Go

section
variable {G : Nat} {FS : FuncId → Prop} {P : Program} {α α' β β' : Type} {Q : BR → α → α' → Prop} {Q' : BR → β → β' → Prop} {B : BR}
inductive PRs (G : Nat) (FS : FuncId → Prop) (B : BR) : List (Nat × Value) → List (Nat × Value) → Prop
  | nil : PRs G FS B [] []
  | cons {i : Nat} {v v' : Value} {l l' : List (Nat × Value)} : VR G FS B v v' → PRs G FS B l l' → PRs G FS B ((i, v) :: l) ((i, v') :: l')
theorem PRs.mono {B' : BR} (h : Sub B B') : ∀ {l l' : List (Nat × Value)}, PRs G FS B l l' → PRs G FS B' l l'
  | _, _, .nil => .nil
  | _, _, .cons k ks => .cons (k.mono h) (ks.mono h)
theorem foldl_set : ∀ {xs xs' : List Value} (k : Nat) (off : Nat) {c c' : Array Value}, VRs G FS B xs xs' → VRs G FS B c.toList c'.toList →
    VRs G FS B ((xs.zipIdx k).foldl (fun cs (x : Value × Nat) => cs.setIfInBounds (off + x.2) x.1) c).toList ((xs'.zipIdx k).foldl (fun cs (x : Value × Nat) => cs.setIfInBounds (off + x.2) x.1) c').toList
  | _, _, _, _, _, _, .nil, hc => by simpa using hc
  | _, _, k, off, c, c', .cons hv hl, hc => by
    simp only [List.zipIdx_cons, List.foldl_cons]
    refine foldl_set (k + 1) off hl ?_
    rw [Array.toList_setIfInBounds, Array.toList_setIfInBounds]
    exact hc.set _ hv
theorem foldl_size : ∀ (xs : List Value) (k : Nat) (off : Nat) (c : Array Value), ((xs.zipIdx k).foldl (fun cs (x : Value × Nat) => cs.setIfInBounds (off + x.2) x.1) c).size = c.size
  | [], _, _, _ => by simp
  | x :: xs, k, off, c => by
    simp only [List.zipIdx_cons, List.foldl_cons]
    rw [foldl_size xs (k + 1) off]
    simp
theorem fill_rel (place : Nat → Option (Nat × Nat)) : ∀ {l l' : List (Nat × Value)} {c c' : Array Value}, PRs G FS B l l' → VRs G FS B c.toList c'.toList →
    (Instr.fill place c l = none ∨ ∃ d d', Instr.fill place c l = some d ∧ Instr.fill place c' l' = some d' ∧ VRs G FS B d.toList d'.toList)
  | _, _, c, c', .nil, hc => .inr ⟨c, c', rfl, rfl, hc⟩
  | _, _, c, c', .cons (i := i) (v := v) (v' := v') hv hl, hc => by
    unfold Instr.fill
    cases hp : place i with
    | none => exact .inl rfl
    | some q =>
      obtain ⟨off, size⟩ := q
      simp only
      have hcv := hv.cells
      have e1 := hcv.size
      have e2 := hc.size
      rw [e1, e2]
      by_cases hb : (decide (v.cells.size ≠ size) || decide (off + v.cells.size > c.size)) = true
      · rw [if_pos hb]; exact .inl rfl
      · rw [if_neg hb, if_neg hb]
        refine fill_rel place hl ?_
        have f1 : v.cells.zipIdx.foldl (fun cs (x : Value × Nat) => match x with | (c, j) => cs.setIfInBounds (off + j) c) c = (v.cells.toList.zipIdx 0).foldl (fun cs (x : Value × Nat) => cs.setIfInBounds (off + x.2) x.1) c := by
          rw [← Array.foldl_toList, Array.toList_zipIdx]
        have f2 : v'.cells.zipIdx.foldl (fun cs (x : Value × Nat) => match x with | (c, j) => cs.setIfInBounds (off + j) c) c' = (v'.cells.toList.zipIdx 0).foldl (fun cs (x : Value × Nat) => cs.setIfInBounds (off + x.2) x.1) c' := by
          rw [← Array.foldl_toList, Array.toList_zipIdx]
        rw [f1, f2]
        exact foldl_set 0 off hcv hc

theorem r_zeroCells {e : TypeId} (hz : ZT G FS P e) (n : Nat) : SemR (G := G) (FS := FS) P (fun B c c' => c' = c ∧ VRs G FS B c.toList c.toList) B (if n = 0 then pure #[] else do pure (← zeroValue e).cells) (if n = 0 then pure #[] else do pure (← zeroValue e).cells) := by
  split
  · exact r_pure ⟨rfl, .nil⟩
  · exact r_bind (r_zeroValue hz) fun _ _ v v' h => by rw [h.1]; exact r_pure ⟨rfl, h.2.cells⟩
theorem range_rel {c : Array Value} (hc : VRs G FS B c.toList c.toList) (n : Nat) : VRs G FS B ((Array.range n).map (c[· % c.size]!)).toList ((Array.range n).map (c[· % c.size]!)).toList := by
  by_cases h : 0 < c.size
  · exact VRs.zeros hc n fun _ => h
  · have hs : c = #[] := by simpa using h
    subst hs
    refine VRs.of_get rfl fun i v v' h1 h2 => ?_
    rw [h1] at h2
    injection h2 with h2
    subst h2
    simp only [Array.toList_map, List.getElem?_map, Option.map_eq_some_iff] at h1
    obtain ⟨j, _, rfl⟩ := h1
    exact .bool false
theorem r_buildSlice {t : TypeId} (hz : SZ G FS P t) (len : Nat) {ps ps' : Array (Nat × Value)} (hp : PRs G FS B ps.toList ps'.toList) : SemR (G := G) (FS := FS) P (VQ G FS) B (Instr.buildSlice t len ps) (Instr.buildSlice t len ps') := by
  unfold Instr.buildSlice
  refine r_bind (r_underlying t) fun B1 h1 d d' hd => ?_
  rw [hd.1]
  cases d <;> first | exact r_stuck _ _ | skip
  rename_i elem
  simp only
  refine r_bind (r_sizeOf elem) fun B2 h2 n n' hn => ?_
  obtain rfl : n' = n := hn
  by_cases hb : len * n' > 2 ^ 24
  · rw [if_pos hb]
    exact .dead (dead_bind (dead_unsupported _))
  · rw [if_neg hb, if_neg hb]
    have key : ∀ (B3 : BR), Sub B2 B3 → ∀ (z z' : Array Value), (z' = z ∧ VRs G FS B3 z.toList z.toList) → SemR (G := G) (FS := FS) P (VQ G FS) B3
          (match Instr.fill (fun i => some (i * n', n')) ((Array.range (len * n')).map (z[· % z.size]!)) ps.toList with
            | some cells => do pure (.slice (some (← newRow elem cells)) len len)
            | _ => stuck "buildSlice: a part of the wrong size")
          (match Instr.fill (fun i => some (i * n', n')) ((Array.range (len * n')).map (z'[· % z'.size]!)) ps'.toList with
            | some cells => do pure (.slice (some (← newRow elem cells)) len len)
            | _ => stuck "buildSlice: a part of the wrong size") := by
      intro B3 h3 z z' hz'
      obtain ⟨rfl, hzz⟩ := hz'
      rcases fill_rel (fun i => some (i * n', n')) (hp.mono (h1.trans (h2.trans h3))) (range_rel hzz (len * n')) with k | ⟨c, c', k1, k2, k3⟩
      · rw [k]; exact r_stuck _ _
      · rw [k1, k2]
        exact r_bind (r_newRow elem k3) fun _ _ _ _ h => r_pure (.slice _ _ h)
    split
    · exact r_bind (r_pure (Q := fun B z z' => z' = z ∧ VRs G FS B z.toList z.toList) ⟨rfl, .nil⟩) key
    · refine r_bind (r_zeroValue (hz elem hd.2)) fun B3 h3 v v' hv => ?_
      rw [hv.1]
      exact r_bind (r_pure (Q := fun B z z' => z' = z ∧ VRs G FS B z.toList z.toList) ⟨rfl, hv.2.cells⟩) fun B4 h4 => key B4 (h3.trans h4)

theorem r_mark {m : Mark} (hm : m = .noRoom ∨ ∃ f, m = .extern f) : SemR (G := G) (FS := FS) P EqQ B (mark m) (mark m) := .mark hm (.pure rfl)
theorem r_askRoom (n : Nat) : SemR (G := G) (FS := FS) P EqQ B (askRoom n) (askRoom n) := by
  unfold askRoom
  split
  · exact r_mark (.inl rfl)
  · exact r_pure rfl
theorem r_makeSlice {t : TypeId} (hz : SZ G FS P t) {l l' c c' : Value} (hl : VR G FS B l l') (hc : VR G FS B c c') : SemR (G := G) (FS := FS) P (VQ G FS) B (Instr.makeSlice t l c) (Instr.makeSlice t l' c') := by
  unfold Instr.makeSlice
  refine r_bind (r_underlying t) fun B1 h1 d d' hd => ?_
  rw [hd.1]
  cases d <;> first | exact r_stuck _ _ | skip
  rename_i elem
  simp only
  refine r_bind (r_asInt (hl.mono h1)) fun B2 h2 n n' hn => ?_
  obtain rfl : n' = n := hn
  refine r_bind (r_asInt (hc.mono (h1.trans h2))) fun B3 h3 m m' hm => ?_
  obtain rfl : m' = m := hm
  refine r_bind (r_typeInfo elem) fun B4 h4 i i' hi => ?_
  rw [hi.1]
  have key : ∀ (B5 : BR) (z z' : Array Value) (n : Nat) (u v : Nat), (z' = z ∧ VRs G FS B5 z.toList z.toList) → SemR (G := G) (FS := FS) P (VQ G FS) B5
      (do let a ← newRow elem ((Array.range n).map (z[· % z.size]!)); pure (.slice (some a) u v))
      (do let a ← newRow elem ((Array.range n).map (z'[· % z'.size]!)); pure (.slice (some a) u v)) := by
    intro B5 z z' n u v hz'
    obtain ⟨rfl, hzz⟩ := hz'
    exact r_bind (r_newRow elem (range_rel hzz n)) fun _ _ _ _ h => r_pure (.slice _ _ h)
  split
  · split
    · exact .dead (dead_bind (dead_runtimePanic _))
    · split
      · exact .dead (dead_bind (dead_runtimePanic _))
      · exact .dead (dead_then (m_choose _) fun _ => dead_bind (dead_runtimePanic _))
  · refine r_bind (r_askRoom _) fun B5 h5 _ _ _ => ?_
    refine r_bind (r_sizeOf elem) fun B6 h6 n n' hn => ?_
    obtain rfl : n' = n := hn
    split
    · exact r_bind (r_pure (Q := fun B z z' => z' = z ∧ VRs G FS B z.toList z.toList) ⟨rfl, .nil⟩) fun B7 h7 z z' h => key B7 z z' _ _ _ h
    · refine r_bind (r_zeroValue (hz elem hd.2)) fun B3 h3 v v' hv => ?_
      rw [hv.1]
      exact r_bind (r_pure (Q := fun B z z' => z' = z ∧ VRs G FS B z.toList z.toList) ⟨rfl, hv.2.cells⟩) fun B7 h7 z z' h => key B7 z z' _ _ _ h
end
end Go.Proofs.Ytgeoffpcmkofkaa
/- Operations are matched: append. -/
namespace Go.Proofs.Ytgeoffpcmkofkaa
open Go

section
variable {G : Nat} {FS : FuncId → Prop} {P : Program} {α α' β β' : Type} {Q : BR → α → α' → Prop} {Q' : BR → β → β' → Prop} {B : BR}
/-! Steps that make nothing: the pairs of blocks stay as they are. -/
theorem rb_pure {a : α} {a' : α'} {f : α → Sem β} {f' : α' → Sem β'} (h : SemR (G := G) (FS := FS) P Q' B (f a) (f' a')) : SemR (G := G) (FS := FS) P Q' B (pure a >>= f) (pure a' >>= f') := h
theorem rb_any {a : α} {f : α → Sem β} {f' : α → Sem β'} (h : ∀ z, SemR (G := G) (FS := FS) P Q' B (f z) (f' z)) : SemR (G := G) (FS := FS) P Q' B (pure a >>= f) (pure a >>= f') := h a
theorem deadb {γ : Type} {s : Sem γ} (hs : Dead P s) {f : γ → Sem β} {s' : Sem β'} : SemR (G := G) (FS := FS) P Q' B (s >>= f) s' := .dead (dead_bind hs)
theorem rb_typeInfo {t : TypeId} {f : TypeInfo → Sem β} {f' : TypeInfo → Sem β'} (h : ∀ d, P.info? t = some d → SemR (G := G) (FS := FS) P Q' B (f d) (f' d)) : SemR (G := G) (FS := FS) P Q' B (typeInfo t >>= f) (typeInfo t >>= f') := by
  refine .program ?_
  simp only [Sem.bind]
  cases hd : P.info? t with
  | none => exact deadb (dead_stuck _)
  | some d => exact h d hd
theorem rb_underlying {t : TypeId} {f : TypeDesc → Sem β} {f' : TypeDesc → Sem β'} (h : ∀ d, P.underlying t = some d → SemR (G := G) (FS := FS) P Q' B (f d) (f' d)) : SemR (G := G) (FS := FS) P Q' B (underlying t >>= f) (underlying t >>= f') := by
  refine .program ?_
  simp only [Sem.bind]
  cases hd : P.underlying t with
  | none => exact deadb (dead_stuck _)
  | some d => exact h d hd
theorem rb_sizeOf {t : TypeId} {f : Nat → Sem β} {f' : Nat → Sem β'} (h : ∀ n, SemR (G := G) (FS := FS) P Q' B (f n) (f' n)) : SemR (G := G) (FS := FS) P Q' B (sizeOf t >>= f) (sizeOf t >>= f') := by
  unfold sizeOf
  simp only [bind_assoc]
  exact rb_typeInfo fun d _ => h _
theorem rb_zeroValue {t : TypeId} (hz : ZT G FS P t) {f : Value → Sem β} {f' : Value → Sem β'} (h : ∀ v, VR G FS B v v → SemR (G := G) (FS := FS) P Q' B (f v) (f' v)) : SemR (G := G) (FS := FS) P Q' B (zeroValue t >>= f) (zeroValue t >>= f') := by
  unfold zeroValue
  simp only [bind_assoc]
  refine rb_typeInfo fun d hd => ?_
  cases hv : d.zero with
  | none => exact deadb (dead_unsupported _)
  | some v => exact h v (hz _ d v hd hv)
theorem rb_asIntOf {v v' : Value} (hv : VR G FS B v v') {f : IntKind × Int → Sem β} {f' : IntKind × Int → Sem β'} (h : ∀ n, SemR (G := G) (FS := FS) P Q' B (f n) (f' n)) : SemR (G := G) (FS := FS) P Q' B (asIntOf v >>= f) (asIntOf v' >>= f') := by
  cases hv <;> first | exact h _ | exact deadb (dead_stuck _) | exact deadb (dead_unsupported _)
theorem rb_asInt {v v' : Value} (hv : VR G FS B v v') {f : Int → Sem β} {f' : Int → Sem β'} (h : ∀ n, SemR (G := G) (FS := FS) P Q' B (f n) (f' n)) : SemR (G := G) (FS := FS) P Q' B (asInt v >>= f) (asInt v' >>= f') := by
  unfold asInt
  simp only [bind_assoc]
  exact rb_asIntOf hv fun n => h _
theorem rb_askRoom {n : Nat} {f : Unit → Sem β} {f' : Unit → Sem β'} (h : SemR (G := G) (FS := FS) P Q' B (f ()) (f' ())) : SemR (G := G) (FS := FS) P Q' B (askRoom n >>= f) (askRoom n >>= f') := by
  unfold askRoom
  split
  · exact .mark (.inl rfl) h
  · exact h
theorem rb_loadCellsFrom {f : Array Value → Sem β} {f' : Array Value → Sem β'} (h : ∀ c c', VRs G FS B c.toList c'.toList → SemR (G := G) (FS := FS) P Q' B (f c) (f' c')) : ∀ (n i : Nat) {a a' : Addr} {acc acc' : Array Value}, AR G B a a' → VRs G FS B acc.toList acc'.toList → SemR (G := G) (FS := FS) P Q' B (loadCellsFrom a i n acc >>= f) (loadCellsFrom a' i n acc' >>= f')
  | 0, _, _, _, _, _, _, hacc => h _ _ hacc
  | n + 1, i, a, a', acc, acc', ha, hacc => by
    unfold loadCellsFrom
    refine .load (ha.add i) fun v v' hv => ?_
    refine rb_loadCellsFrom h n (i + 1) ha ?_
    rw [Array.toList_push, Array.toList_push]
    exact hacc.append (.cons hv .nil)
theorem rb_loadCells {a a' : Addr} (ha : AR G B a a') {n : Nat} {f : Array Value → Sem β} {f' : Array Value → Sem β'} (h : ∀ c c', VRs G FS B c.toList c'.toList → SemR (G := G) (FS := FS) P Q' B (f c) (f' c')) : SemR (G := G) (FS := FS) P Q' B (loadCells a n >>= f) (loadCells a' n >>= f') := rb_loadCellsFrom h n 0 ha .nil
theorem rb_firstCells {x x' : Value} (hx : VR G FS B x x') {size n : Nat} {f : Array Value → Sem β} {f' : Array Value → Sem β'} (h : ∀ c c', VRs G FS B c.toList c'.toList → SemR (G := G) (FS := FS) P Q' B (f c) (f' c')) : SemR (G := G) (FS := FS) P Q' B (Builtin.firstCells size n x >>= f) (Builtin.firstCells size n x' >>= f') := by
  cases hx <;> first | exact r_stuckBind _ _ _ | skip
  case string s =>
    refine h _ _ (VRs.of_get rfl fun i v v' h1 h2 => ?_)
    rw [h1] at h2
    injection h2 with h2
    subst h2
    simp only [Array.toList_map, List.getElem?_map, Option.map_eq_some_iff] at h1
    obtain ⟨b, _, rfl⟩ := h1
    exact .int _ _
  case sliceNil => exact h _ _ .nil
  case slice ha => exact rb_loadCells ha h
theorem rb_lenOf {x x' : Value} (hx : VR G FS B x x') {f : Nat → Sem β} {f' : Nat → Sem β'} (h : ∀ n, SemR (G := G) (FS := FS) P Q' B (f n) (f' n)) : SemR (G := G) (FS := FS) P Q' B (Builtin.lenOf x >>= f) (Builtin.lenOf x' >>= f') := by
  cases hx <;> first | exact h _ | exact r_stuckBind _ _ _
theorem rb_storeCells {f : Unit → Sem β} {f' : Unit → Sem β'} (h : SemR (G := G) (FS := FS) P Q' B (f ()) (f' ())) : ∀ {l l' : List Value} (i : Nat) {a a' : Addr}, AR G B a a' → VRs G FS B l l' → SemR (G := G) (FS := FS) P Q' B (storeCells a l i >>= f) (storeCells a' l' i >>= f')
  | _, _, _, _, _, _, .nil => by unfold storeCells; exact h
  | _, _, i, _, _, ha, .cons hv hl => by
    unfold storeCells
    exact .store (ha.add i) hv (rb_storeCells h (i + 1) ha hl)
theorem zeroCells_rel {z : Array Value} (h : VRs G FS B z.toList z.toList) (n : Nat) : VRs G FS B (Builtin.zeroCells z n).toList (Builtin.zeroCells z n).toList := range_rel h _
theorem VR.get {vas vas' : Array Value} (ha : VRs G FS B vas.toList vas'.toList) {i : Nat} {v : Value} (h : vas[i]? = some v) : ∃ v', vas'[i]? = some v' ∧ VR G FS B v v' := by
  obtain ⟨v', e1, e2⟩ := ha.get (i := i) (v := v) (by simpa using h)
  exact ⟨v', by simpa using e1, e2⟩

theorem m_holdsCells (a : Addr) (n : Nat) : MildT P (Builtin.holdsCells a n) := by
  refine m_bind (m_shape _) fun s => ?_
  split <;> exact m_pure _
theorem m_mayShare (size sLen n : Nat) (b : Option Addr) (x : Value) : MildT P (Builtin.mayShare size sLen n b x) := by
  have tail : ∀ t : Bool, MildT P (if (!t) = true then pure true else match x with | .slice (some b') _ _ => do pure (!(← Builtin.holdsCells b' (n * size)) || b.any (·.block == b'.block)) | _ => pure false) := by
    intro t
    split
    · exact m_pure _
    · split
      · exact m_bind (m_holdsCells _ _) fun _ => m_pure _
      · exact m_pure _
  unfold Builtin.mayShare
  cases b with
  | none => exact m_bind (m_pure _) tail
  | some a => exact m_bind (m_holdsCells _ _) fun _ => m_bind (m_frozen _) fun _ => m_bind (m_pure _) tail
theorem r_append {ts : Array TypeId} (hz : ∀ t, ts[0]? = some t → SZ G FS P t) (t : TypeId) {vas vas' : Array Value} (ha : VRs G FS B vas.toList vas'.toList) : SemR (G := G) (FS := FS) P (VQ G FS) B (Builtin.append_ ts t vas) (Builtin.append_ ts t vas') := by
  unfold Builtin.append_
  cases h0 : ts[0]? with
  | none => exact r_stuck _ _
  | some sT =>
  cases h1 : vas[0]? with
  | none => exact r_stuck _ _
  | some s =>
  cases h2 : vas[1]? with
  | none => exact r_stuck _ _
  | some x =>
  obtain ⟨s', e1, hs⟩ := VR.get ha h1
  obtain ⟨x', e2, hx⟩ := VR.get ha h2
  rw [e1, e2]
  simp only
  refine rb_underlying fun d hd => ?_
  cases d <;> first | exact r_stuck _ _ | skip
  rename_i elem
  simp only
  cases s <;> first | exact r_stuck _ _ | skip
  rename_i base sLen sCap
  obtain ⟨base', rfl, hb⟩ := hs.none_or rfl
  simp only
  refine rb_sizeOf fun size => ?_
  have hz := hz sT h0 elem hd
  have new : ∀ (z : Bool) (n : Nat) {f f' : Array Value → Sem Value}, (∀ c c', VRs G FS B c.toList c'.toList → SemR (G := G) (FS := FS) P (VQ G FS) B (f c) (f' c')) →
      SemR (G := G) (FS := FS) P (VQ G FS) B
        ((if (!z) = true then Builtin.firstCells size n x else if n * size = 0 then pure #[] else do pure (Builtin.zeroCells (← zeroValue elem).cells n)) >>= f)
        ((if (!z) = true then Builtin.firstCells size n x' else if n * size = 0 then pure #[] else do pure (Builtin.zeroCells (← zeroValue elem).cells n)) >>= f') := by
    intro z n f f' h
    cases z
    · exact rb_firstCells hx h
    · by_cases hn : n * size = 0
      · simp only [hn, if_true]
        exact h _ _ .nil
      · rw [if_neg (by decide), if_neg hn, if_neg (by decide)]
        simp only [bind_assoc]
        exact rb_zeroValue (f := fun v => f (Builtin.zeroCells v.cells n)) (f' := fun v => f' (Builtin.zeroCells v.cells n)) hz fun v hv => h _ _ (zeroCells_rel hv.cells n)
  cases h1 : ts[1]? with
  | none =>
    simp only
    refine rb_pure ?_
    simp only [Bool.false_eq_true, if_false, false_or]
    refine rb_lenOf hx fun n => ?_
    split
    · refine new false n fun c c' hc => ?_
      rcases hb with ⟨q1, q2⟩ | ⟨y, y', q1, q2, hy⟩ <;> subst q1 <;> subst q2
      · exact r_pure (VR.sliceNil _ _)
      · refine rb_storeCells ?_ 0 (hy.add _) hc
        exact r_pure (VR.slice _ _ hy)
    · refine rb_typeInfo fun i hi => ?_
      split
      · exact deadb (dead_runtimePanic _)
      · refine rb_typeInfo fun i hi => ?_
        split
        · first
          | exact deadb (dead_runtimePanic _)
          | refine deadb ?_
            rw [if_pos rfl]
            exact dead_runtimePanic _
          | refine deadb (dead_then (m_mayShare _ _ _ _ _) fun _ => ?_)
            split
            · exact dead_then (m_mark _) fun _ => dead_unsupported _
            · exact dead_unsupported _
        · refine r_choose fun k => ?_
          refine rb_typeInfo fun i hi => ?_
          refine rb_askRoom ?_
          refine rb_firstCells hs fun o o' ho => ?_
          refine new false n fun c c' hc => ?_
          refine rb_zeroValue hz fun v hv => ?_
          refine r_bind (r_newRow _ ?_) fun _ _ _ _ h => r_pure (VR.slice _ _ h)
          simp only [Array.toList_append]
          exact (ho.append hc).append (zeroCells_rel hv.cells _)
  | some xT =>
    simp only
    refine rb_underlying fun d hd => ?_
    refine rb_any fun z => ?_
    cases z
    · simp only [Bool.false_eq_true, if_false, false_or]
      refine rb_lenOf hx fun n => ?_
      split
      · refine new false n fun c c' hc => ?_
        rcases hb with ⟨q1, q2⟩ | ⟨y, y', q1, q2, hy⟩ <;> subst q1 <;> subst q2
        · exact r_pure (VR.sliceNil _ _)
        · refine rb_storeCells ?_ 0 (hy.add _) hc
          exact r_pure (VR.slice _ _ hy)
      · refine rb_typeInfo fun i hi => ?_
        split
        · exact deadb (dead_runtimePanic _)
        · refine rb_typeInfo fun i hi => ?_
          split
          · first
            | exact deadb (dead_runtimePanic _)
            | refine deadb ?_
              rw [if_pos rfl]
              exact dead_runtimePanic _
            | refine deadb (dead_then (m_mayShare _ _ _ _ _) fun _ => ?_)
              split
              · exact dead_then (m_mark _) fun _ => dead_unsupported _
              · exact dead_unsupported _
          · refine r_choose fun k => ?_
            refine rb_typeInfo fun i hi => ?_
            refine rb_askRoom ?_
            refine rb_firstCells hs fun o o' ho => ?_
            refine new false n fun c c' hc => ?_
            refine rb_zeroValue hz fun v hv => ?_
            refine r_bind (r_newRow _ ?_) fun _ _ _ _ h => r_pure (VR.slice _ _ h)
            simp only [Array.toList_append]
            exact (ho.append hc).append (zeroCells_rel hv.cells _)
    · rw [if_pos rfl, if_pos rfl]
      refine rb_asInt hx fun m => ?_
      by_cases hm : IntKind.i64.wrap m < 0
      · rw [if_pos hm]
        exact deadb (dead_runtimePanic _)
      · rw [if_neg hm, if_neg hm]
        refine rb_typeInfo fun i hi => ?_
        by_cases hi : IntKind.i64.wrap m * (i.bytes : Int) > 2 ^ 48
        · rw [if_pos hi]
          exact .dead (dead_then (m_choose _) fun _ => dead_bind (dead_runtimePanic _))
        · rw [if_neg hi, if_neg hi]
          refine rb_pure ?_
          split
          · refine new true ((IntKind.i64.wrap m).toNat) fun c c' hc => ?_
            rcases hb with ⟨q1, q2⟩ | ⟨y, y', q1, q2, hy⟩ <;> subst q1 <;> subst q2
            · exact r_pure (VR.sliceNil _ _)
            · refine rb_storeCells ?_ 0 (hy.add _) hc
              exact r_pure (VR.slice _ _ hy)
          · refine rb_typeInfo fun i hi => ?_
            split
            · exact deadb (dead_runtimePanic _)
            · refine rb_typeInfo fun i hi => ?_
              split
              · first
                | exact deadb (dead_runtimePanic _)
                | refine deadb ?_
                  rw [if_pos rfl]
                  exact dead_runtimePanic _
                | refine deadb (dead_then (m_mayShare _ _ _ _ _) fun _ => ?_)
                  split
                  · exact dead_then (m_mark _) fun _ => dead_unsupported _
                  · exact dead_unsupported _
              · refine r_choose fun k => ?_
                refine rb_typeInfo fun i hi => ?_
                refine rb_askRoom ?_
                refine rb_firstCells hs fun o o' ho => ?_
                refine new true ((IntKind.i64.wrap m).toNat) fun c c' hc => ?_
                refine rb_zeroValue hz fun v hv => ?_
                refine r_bind (r_newRow _ ?_) fun _ _ _ _ h => r_pure (VR.slice _ _ h)
                simp only [Array.toList_append]
                exact (ho.append hc).append (zeroCells_rel hv.cells _)
end
end Go.Proofs.Ytgeoffpcmkofkaa
