/- Kb; Kc; Kd; Ke; Kf; Kg; Kh; Ki; Kj: texts laid into one. -/
import Derived.Test.YtgeoffpcmkofkaaRaq
import Derived.Below
/- A run of the lone piece is matched by one of the other. -/
namespace Go.Proofs.Ytgeoffpcmkofkaa
open Go

section
variable {G : Nat} {FS : FuncId → Prop} {Sh : Nat → Prop} {B : BR} {wl w : World}
theorem heap_set_same {w : World} {a : Addr} {v : Value} {c : Array Value} {e : TypeId} {fr : Nat × Nat} (h : w.heap[a.block]? = some (.cells c e fr)) (hs : a.spot = none) : (w.setCell a v).heap[a.block]? = some (.cells (c.setIfInBounds a.off v) e fr) := by
  obtain ⟨hlt, hk⟩ := Array.getElem?_eq_some_iff.1 h
  show (w.heap.modify a.block _)[a.block]? = _
  rw [Array.getElem?_eq_getElem (by rw [Array.size_modify]; exact hlt), Array.getElem_modify_self, hk]
  simp [hs]
theorem heap_set_other {w : World} {a : Addr} {v : Value} {r : Nat} (h : r ≠ a.block) : (w.setCell a v).heap[r]? = w.heap[r]? := by
  exact Go.RowKit.Below.heap_setCell w a v r h
theorem heap_set_size (w : World) (a : Addr) (v : Value) : (w.setCell a v).heap.size = w.heap.size := by simp [World.setCell]

theorem WR.not_shared (h : WR G FS Sh B wl w) {a a' : Addr} (ha : AR G B a a') {v : Value} (hv : wl.cell? a = some v) (hf : wl.frozen? a = false) : ¬Sh a.block := by
  intro hs
  obtain ⟨c, e, fr, k1, k2, k3⟩ := cell_block hv
  obtain ⟨c', h2, h3, h4, _⟩ := h.cells ha.block k1
  have := h4 hs
  subst this
  have hlt : a.off < c.size := (Array.getElem?_eq_some_iff.1 k3).1
  simp [World.frozen?, k1, hlt] at hf
theorem WR.frozen (h : WR G FS Sh B wl w) {a a' : Addr} (ha : AR G B a a') : w.frozen? a' = false := by
  obtain ⟨o, o', h1, h2, h3⟩ := h.blk _ _ ha.block
  cases h3 <;> simp [World.frozen?, h2]
theorem WR.set (h : WR G FS Sh B wl w) {a a' : Addr} (ha : AR G B a a') {v v' u : Value} (hu : wl.cell? a = some u) (hv : VR G FS B v v') : WR G FS Sh B (wl.setCell a v) (w.setCell a' v') := by
  obtain ⟨c1, e1, fr1, k1, k2, k3⟩ := cell_block hu
  refine ⟨fun r r' hb => ?_, h.fn, h.inj, fun r hs => by rw [heap_set_size]; exact h.low r hs, by rw [heap_set_size]; exact h.glob, h.tape⟩
  by_cases hr : r = a.block
  · subst hr
    have hr' : r' = a'.block := h.fn _ _ _ hb ha.block
    subst hr'
    obtain ⟨c', h2, h3, h4, h5⟩ := h.cells hb k1
    refine ⟨_, _, heap_set_same k1 k2, heap_set_same h2 (by rw [ha.spot, k2]), .cells ?_ (fun hs => by rw [Array.size_setIfInBounds]; exact h4 hs) h5⟩
    rw [Array.toList_setIfInBounds, Array.toList_setIfInBounds, ha.off]
    exact h3.set _ hv
  · have hr' : r' ≠ a'.block := fun e => hr (h.inj _ _ _ (e ▸ hb) ha.block)
    obtain ⟨o, o', h1, h2, h3⟩ := h.blk r r' hb
    exact ⟨o, o', (heap_set_other hr).trans h1, (heap_set_other hr').trans h2, h3⟩
theorem did_set {w : World} {a a' : Addr} (ha : AR G B a a') (hs : ¬Sh a.block) (v' : Value) : Did Sh B B w (w.setCell a' v') := by
  refine ⟨rfl, rfl, rfl, by rw [heap_set_size]; exact Nat.le_refl _, fun r' hr k => heap_set_other fun e => hs ?_, Sub.refl _, fun _ _ hb => .inl hb⟩
  subst e
  exact k _ ha.block
theorem WR.lt (h : WR G FS Sh B wl w) {r r' : Nat} (hb : B r r') : r < wl.heap.size ∧ r' < w.heap.size := by
  obtain ⟨o, o', h1, h2, _⟩ := h.blk _ _ hb
  exact ⟨(Array.getElem?_eq_some_iff.1 h1).1, (Array.getElem?_eq_some_iff.1 h2).1⟩
theorem WR.new (h : WR G FS Sh B wl w) {o o' : Obj} (hc : ¬Sh wl.heap.size → ObR G FS Sh B wl.heap.size o o') : WR G FS Sh (ext B wl.heap.size w.heap.size) { wl with heap := wl.heap.push o } { w with heap := w.heap.push o' } := by
  have lt : ∀ {r r'}, B r r' → r < wl.heap.size ∧ r' < w.heap.size := fun hb => h.lt hb
  refine ⟨fun r r' hb => ?_, fun r r' q' h1 h2 => ?_, fun r q r' h1 h2 => ?_, fun r hs => by have := h.low r hs; simp; omega, by have := h.glob; simp; omega, h.tape⟩
  · rcases hb with hb | ⟨rfl, rfl⟩
    · obtain ⟨o1, o1', h1, h2, h3⟩ := h.blk r r' hb
      have := lt hb
      refine ⟨o1, o1', ?_, ?_, h3.mono (Sub.ext _ _ _)⟩
      · show (wl.heap.push _)[r]? = _
        rw [Array.getElem?_push_lt this.1, ← Array.getElem?_eq_getElem this.1]; exact h1
      · show (w.heap.push _)[r']? = _
        rw [Array.getElem?_push_lt this.2, ← Array.getElem?_eq_getElem this.2]; exact h2
    · exact ⟨o, o', by simp, by simp, (hc fun hs => absurd (h.low _ hs) (Nat.lt_irrefl _)).mono (Sub.ext _ _ _)⟩
  · rcases h1 with h1 | ⟨h1, h1'⟩ <;> rcases h2 with h2 | ⟨h2, h2'⟩
    · exact h.fn _ _ _ h1 h2
    · have := (lt h1).1; omega
    · have := (lt h2).1; omega
    · rw [h1', h2']
  · rcases h1 with h1 | ⟨h1, h1'⟩ <;> rcases h2 with h2 | ⟨h2, h2'⟩
    · exact h.inj _ _ _ h1 h2
    · have := (lt h1).2; omega
    · have := (lt h2).2; omega
    · rw [h1, h2]
theorem did_new (h : WR G FS Sh B wl w) (o : Obj) : Did Sh B (ext B wl.heap.size w.heap.size) w { w with heap := w.heap.push o } := by
  refine ⟨rfl, rfl, rfl, by simp, fun r' hr _ => ?_, Sub.ext _ _ _, fun r r' hb => ?_⟩
  · show (w.heap.push o)[r']? = _
    rw [Array.getElem?_push_lt hr, ← Array.getElem?_eq_getElem hr]
  · rcases hb with hb | ⟨rfl, rfl⟩
    · exact .inl hb
    · exact .inr ⟨Nat.le_refl _, by simp, fun hs => absurd (h.low _ hs) (Nat.lt_irrefl _)⟩
theorem WR.shape (h : WR G FS Sh B wl w) {r r' : Nat} (hb : B r r') : w.shape? r' = wl.shape? r := by
  obtain ⟨o, o', h1, h2, h3⟩ := h.blk r r' hb
  cases h3 with
  | cells k1 _ _ =>
    simp only [World.shape?, h1, h2]
    have := k1.length
    simp only [Array.length_toList] at this
    rw [this]
  | number _ _ => simp only [World.shape?, h1, h2]
theorem WR.draw (h : WR G FS Sh B wl w) : WR G FS Sh B { wl with drawn := wl.drawn + 1 } { w with drawn := w.drawn + 1 } :=
  ⟨h.blk, h.fn, h.inj, h.low, h.glob, fun i q => by have := h.tape (1 + i) q; simpa [Nat.add_assoc] using this⟩
end

section
variable {G : Nat} {FS : FuncId → Prop} {Sh : Nat → Prop} {P : Program} {α α' : Type} {Q : BR → α → α' → Prop}
/-- What the other run comes to. -/
def Comes' (G : Nat) (FS : FuncId → Prop) (Sh : Nat → Prop) (P : Program) (Q : BR → α → α' → Prop) (B : BR) (s' : Sem α') (w : World) (es : Array Event) (a : α) (wl' : World) : Prop :=
  ∃ B' a' w' es', s'.runT P w es = (.ok a' w', es') ∧ Q B' a a' ∧ WR G FS Sh B' wl' w' ∧ Did Sh B B' w w' ∧ ∀ e ∈ es', e ∈ es ∨ EvOK Sh B' e

theorem SemR.run {B : BR} {s : Sem α} {s' : Sem α'} (h : SemR (G := G) (FS := FS) P Q B s s') : ∀ {wl w : World} {a : α} {wl' : World} (es : Array Event), WR G FS Sh B wl w → s.run P wl = .ok a wl' → Comes' G FS Sh P Q B s' w es a wl' := by
  induction h with
  | pure hq =>
    intro wl w a wl' es hw hr
    simp only [Sem.run] at hr
    cases hr
    exact ⟨_, _, w, es, rfl, hq, hw, Did.refl _ _, fun e he => .inl he⟩
  | @load B a a' k k' ha _ ih =>
    intro wl w x wl' es hw hr
    simp only [Sem.run] at hr
    cases hc : wl.cell? a with
    | none =>
      rw [hc] at hr
      simp only at hr
      have := (hw.far (P := P) ha (Mode.plain == .atomic)).1
      split at hr
      · rename_i hf; exact absurd hf (this _)
      · cases hr
    | some v =>
      rw [hc] at hr
      obtain ⟨v', hv', hvr⟩ := hw.cell ha hc
      obtain ⟨B', a2, w', es', h1, h2, h3, h4, h5⟩ := ih v v' hvr (es.push ⟨.cell a', false, false⟩) hw hr
      refine ⟨B', a2, w', es', ?_, h2, h3, h4, fun e he => ?_⟩
      · simp only [Sem.runT, hv']
        exact h1
      · rcases h5 e he with q | q
        · rcases Array.mem_push.1 q with q | q
          · exact .inl q
          · exact .inr (.inl ⟨a', q, _, h4.sub _ _ ha.block⟩)
        · exact .inr q
  | @store B a a' v v' k k' ha hv _ ih =>
    intro wl w x wl' es hw hr
    have key : ∀ (hag : ∀ cs, v ≠ .agg cs) (htu : ∀ cs, v ≠ .tuple cs), Comes' G FS Sh P Q B (.store .plain a' v' k') w es x wl' := by
      intro hag htu
      have e1 : (Sem.store .plain a v k).run P wl = match wl.cell? a with
          | some _ => if wl.frozen? a then .halt (.unsupported (.unsafePointer "a write to bytes that a string shares")) wl else k.run P (wl.setCell a v)
          | none => match wl.farStore P a v (Mode.plain == .atomic) with
            | .ok (w, _) => k.run P w
            | .error h => .halt h wl := by
        cases v <;> first | rfl | exact absurd rfl (hag _) | exact absurd rfl (htu _)
      have e2 : (Sem.store .plain a' v' k').runT P w es = match w.cell? a' with
          | some _ =>
            if w.frozen? a' then (.halt (.unsupported (.unsafePointer "a write to bytes that a string shares")) w, es)
            else k'.runT P (w.setCell a' v') (es.push ⟨.cell a', true, Mode.plain == .atomic⟩)
          | none => match w.farStore P a' v' (Mode.plain == .atomic) with
            | .ok (w, touched) => k'.runT P w (es ++ touched.toArray.map (⟨.cell ·, true, Mode.plain == .atomic⟩))
            | .error h => (.halt h w, es) := by
        cases hv <;> first | rfl | exact absurd rfl (hag _) | exact absurd rfl (htu _)
      rw [e1] at hr
      cases hc : wl.cell? a with
      | none =>
        rw [hc] at hr
        simp only at hr
        have := (hw.far (P := P) ha (Mode.plain == .atomic)).2 v
        split at hr
        · rename_i hf; exact absurd hf (this _)
        · cases hr
      | some u =>
        rw [hc] at hr
        simp only at hr
        by_cases hf : wl.frozen? a = true
        · rw [if_pos hf] at hr; cases hr
        · rw [if_neg hf] at hr
          obtain ⟨u', hu', _⟩ := hw.cell ha hc
          have hns := hw.not_shared ha hc (by simpa using hf)
          obtain ⟨B', a2, w', es', h1, h2, h3, h4, h5⟩ := ih (es.push ⟨.cell a', true, false⟩) (hw.set ha hc hv) hr
          refine ⟨B', a2, w', es', ?_, h2, h3, (did_set ha hns v').trans h4, fun e he => ?_⟩
          · rw [e2, hu']
            simp only [hw.frozen ha]
            exact h1
          · rcases h5 e he with q | q
            · rcases Array.mem_push.1 q with q | q
              · exact .inl q
              · exact .inr (.inr (.inl ⟨a', q, _, h4.sub _ _ ha.block, hns⟩))
            · exact .inr q
    cases v with
    | agg cs => simp [Sem.run] at hr
    | tuple cs => simp [Sem.run] at hr
    | _ => exact key (fun _ h => by cases h) (fun _ h => by cases h)
  | @getNum B r r' k k' hb _ ih =>
    intro wl w x wl' es hw hr
    obtain ⟨o, o', g1, g2, g3⟩ := hw.blk r r' hb
    simp only [Sem.run, g1] at hr
    cases g3 with
    | cells _ _ _ => simp at hr
    | @number a a' l ha hns =>
      simp only at hr
      obtain ⟨B', a2, w', es', h1, h2, h3, h4, h5⟩ := ih a a' l ha (es.push ⟨.obj r', false, false⟩) hw hr
      refine ⟨B', a2, w', es', ?_, h2, h3, h4, fun e he => ?_⟩
      · simp only [Sem.runT, g2]
        exact h1
      · rcases h5 e he with q | q
        · rcases Array.mem_push.1 q with q | q
          · exact .inl q
          · exact .inr (.inr (.inr (.inr ⟨r', q, r, h4.sub _ _ hb, hns⟩)))
        · exact .inr q
  | @newNum B a a' l k k' ha _ ih =>
    intro wl w x wl' es hw hr
    simp only [Sem.run] at hr
    obtain ⟨B', a2, w', es', h1, h2, h3, h4, h5⟩ := ih wl.heap.size w.heap.size hw.glob es (hw.new fun hs => .number ha hs) hr
    refine ⟨B', a2, w', es', ?_, h2, h3, (did_new hw _).trans h4, h5⟩
    simp only [Sem.runT]
    exact h1
  | @new B c c' e k k' hc _ ih =>
    intro wl w x wl' es hw hr
    simp only [Sem.run] at hr
    obtain ⟨B', a2, w', es', h1, h2, h3, h4, h5⟩ := ih wl.heap.size w.heap.size hw.glob es (hw.new fun hs => .cells hc (fun k => absurd k hs) fun _ => rfl) hr
    refine ⟨B', a2, w', es', ?_, h2, h3, (did_new hw _).trans h4, h5⟩
    simp only [Sem.runT]
    exact h1
  | @shape B r r' k k' hb _ ih =>
    intro wl w x wl' es hw hr
    simp only [Sem.run] at hr
    obtain ⟨B', a2, w', es', h1, h2, h3, h4, h5⟩ := ih _ es hw hr
    refine ⟨B', a2, w', es', ?_, h2, h3, h4, h5⟩
    simp only [Sem.runT, hw.shape hb]
    exact h1
  | @choose B q k k' _ ih =>
    intro wl w x wl' es hw hr
    simp only [Sem.run] at hr
    by_cases hq : q.forced = true
    · rw [if_pos hq] at hr
      obtain ⟨B', a2, w', es', h1, h2, h3, h4, h5⟩ := ih _ es hw hr
      refine ⟨B', a2, w', es', ?_, h2, h3, h4, h5⟩
      simp only [Sem.runT, if_pos hq]
      exact h1
    · rw [if_neg hq] at hr
      have ht := hw.tape 0 q
      simp only [Nat.add_zero] at ht
      rw [ht] at hr
      obtain ⟨B', a2, w', es', h1, h2, h3, h4, h5⟩ := ih _ es hw.draw hr
      refine ⟨B', a2, w', es', ?_, h2, h3, ⟨h4.os, h4.tape, h4.output, h4.size, h4.kept, h4.sub, h4.new⟩, h5⟩
      simp only [Sem.runT, if_neg hq]
      exact h1
  | program _ ih =>
    intro wl w x wl' es hw hr
    simp only [Sem.run] at hr
    obtain ⟨B', a2, w', es', h1, h2, h3, h4, h5⟩ := ih es hw hr
    exact ⟨B', a2, w', es', by simp only [Sem.runT]; exact h1, h2, h3, h4, h5⟩
  | @mark B m k k' hm _ ih =>
    intro wl w x wl' es hw hr
    simp only [Sem.run] at hr
    obtain ⟨B', a2, w', es', h1, h2, h3, h4, h5⟩ := ih (es.push ⟨.mark m, false, true⟩) hw hr
    refine ⟨B', a2, w', es', by simp only [Sem.runT]; exact h1, h2, h3, h4, fun e he => ?_⟩
    rcases h5 e he with q | q
    · rcases Array.mem_push.1 q with q | q
      · exact .inl q
      · exact .inr (.inr (.inr (.inl ⟨m, q, hm⟩)))
    · exact .inr q
  | dead hd =>
    intro wl w x wl' es _ hr
    exact absurd hr (hd.1 _ _ _)
end
end Go.Proofs.Ytgeoffpcmkofkaa
/- Operations that read and write memory are matched: loads, stores, new rows, addresses. -/
namespace Go.Proofs.Ytgeoffpcmkofkaa
open Go

section
variable {G : Nat} {FS : FuncId → Prop} {P : Program} {α α' β β' : Type} {Q : BR → α → α' → Prop} {Q' : BR → β → β' → Prop} {B : BR}
/-- The very same. -/
def EqQ {γ : Type} : BR → γ → γ → Prop := fun _ a a' => a' = a
abbrev VQ (G : Nat) (FS : FuncId → Prop) : BR → Value → Value → Prop := fun B v v' => VR G FS B v v'
abbrev VsQ (G : Nat) (FS : FuncId → Prop) : BR → Array Value → Array Value → Prop := fun B v v' => VRs G FS B v.toList v'.toList
abbrev AQ (G : Nat) : BR → Addr → Addr → Prop := fun B a a' => AR G B a a'

theorem r_bind {s : Sem α} {s' : Sem α'} (h : SemR (G := G) (FS := FS) P Q B s s') {f : α → Sem β} {f' : α' → Sem β'} (hf : ∀ B', Sub B B' → ∀ a a', Q B' a a' → SemR (G := G) (FS := FS) P Q' B' (f a) (f' a')) : SemR (G := G) (FS := FS) P Q' B (s >>= f) (s' >>= f') := SemR.bind h hf
theorem r_pure {a : α} {a' : α'} (h : Q B a a') : SemR (G := G) (FS := FS) P Q B (pure a) (pure a') := .pure h
theorem r_stuck (why : String) (s' : Sem α') : SemR (G := G) (FS := FS) P Q B (stuck why) s' := .dead (dead_stuck _)
theorem r_unsupported (u : Unsupported) (s' : Sem α') : SemR (G := G) (FS := FS) P Q B (unsupported u) s' := .dead (dead_unsupported _)
theorem r_goPanic (v : Value) (s' : Sem α') : SemR (G := G) (FS := FS) P Q B (goPanic v) s' := .dead (dead_goPanic _)
theorem m_elemOf (t : TypeId) : MildT P (elemOf t) := by
  unfold elemOf
  refine m_bind (m_underlying t) fun d => ?_
  split
  · exact m_pure _
  · exact m_stuck _
theorem m_newVar (t : TypeId) (v : Value) : MildT P (newVar t v) := fun w h w' hr => by cases hr
theorem dead_runtimePanic (e : RuntimeError) : Dead P (runtimePanic e : Sem α) := by
  unfold runtimePanic
  refine dead_then m_program fun p => ?_
  cases e with
  | typeAssertion i c a m => exact dead_then (m_elemOf _) fun _ => dead_then (m_newVar _ _) fun _ => dead_goPanic _
  | panicNil => exact dead_then (m_elemOf _) fun _ => dead_then (m_newVar _ _) fun _ => dead_goPanic _
  | _ => exact dead_goPanic _
theorem r_runtimePanic (e : RuntimeError) (s' : Sem α') : SemR (G := G) (FS := FS) P Q B (runtimePanic e) s' := .dead (dead_runtimePanic e)
theorem r_boundsPanic (k : IntKind) (x y : Int) (c : BoundsCode) (s' : Sem α') : SemR (G := G) (FS := FS) P Q B (boundsPanic k x y c) s' := by
  refine .dead ?_
  unfold boundsPanic
  simp only
  split
  · exact dead_then (m_bind (m_choose _) fun _ => m_pure _) fun _ => dead_runtimePanic _
  · exact dead_then (m_pure _) fun _ => dead_runtimePanic _
theorem r_prog {f : Program → Sem β} {f' : Program → Sem β'} (h : SemR (G := G) (FS := FS) P Q' B (f P) (f' P)) : SemR (G := G) (FS := FS) P Q' B (program >>= f) (program >>= f') := .program h
theorem r_choose {q : Question} {f : Nat → Sem β} {f' : Nat → Sem β'} (h : ∀ n, SemR (G := G) (FS := FS) P Q' B (f n) (f' n)) : SemR (G := G) (FS := FS) P Q' B (choose q >>= f) (choose q >>= f') := .choose h
theorem r_underlying (t : TypeId) : SemR (G := G) (FS := FS) P (fun _ d d' => d' = d ∧ P.underlying t = some d) B (underlying t) (underlying t) := by
  unfold underlying
  refine r_prog ?_
  cases h : P.underlying t with
  | none => exact r_stuck _ _
  | some d => exact r_pure ⟨rfl, rfl⟩
theorem r_typeInfo (t : TypeId) : SemR (G := G) (FS := FS) P (fun _ d d' => d' = d ∧ P.info? t = some d) B (typeInfo t) (typeInfo t) := by
  unfold typeInfo
  refine r_prog ?_
  cases h : P.info? t with
  | none => exact r_stuck _ _
  | some d => exact r_pure ⟨rfl, rfl⟩
theorem r_sizeOf (t : TypeId) : SemR (G := G) (FS := FS) P EqQ B (sizeOf t) (sizeOf t) := by
  unfold sizeOf
  exact r_bind (r_typeInfo t) fun B' _ a a' h => by rw [h.1]; exact r_pure rfl
theorem r_isAgg (t : TypeId) : SemR (G := G) (FS := FS) P EqQ B (isAgg t) (isAgg t) := by
  unfold isAgg
  refine r_bind (r_underlying t) fun B' _ a a' h => ?_
  rw [h.1]
  split <;> exact r_pure rfl
/-- The type's zero value names no memory. -/
def ZT (G : Nat) (FS : FuncId → Prop) (P : Program) (t : TypeId) : Prop := ∀ (B : BR) (i : TypeInfo) (v : Value), P.info? t = some i → i.zero = some v → VR G FS B v v
/-- .. of a slice's elements. -/
def SZ (G : Nat) (FS : FuncId → Prop) (P : Program) (t : TypeId) : Prop := ∀ e, P.underlying t = some (.slice e) → ZT G FS P e
theorem r_zeroValue {t : TypeId} (hz : ZT G FS P t) : SemR (G := G) (FS := FS) P (fun B v v' => v' = v ∧ VR G FS B v v) B (zeroValue t) (zeroValue t) := by
  unfold zeroValue
  refine r_bind (r_typeInfo t) fun B' _ a a' h => ?_
  rw [h.1]
  cases hv : a.zero with
  | none => exact r_unsupported _ _
  | some v => exact r_pure ⟨rfl, hz _ a v h.2 hv⟩
theorem VR.cells {v v' : Value} (h : VR G FS B v v') : VRs G FS B v.cells.toList v'.cells.toList := by
  cases h with
  | agg k => exact k
  | bool b => exact .cons (.bool b) .nil
  | int k n => exact .cons (.int k n) .nil
  | float k n => exact .cons (.float k n) .nil
  | string s => exact .cons (.string s) .nil
  | ptrNil => exact .cons .ptrNil .nil
  | ptr k => exact .cons (.ptr k) .nil
  | sliceNil l c => exact .cons (.sliceNil l c) .nil
  | slice l c k => exact .cons (.slice l c k) .nil
  | func f k => exact .cons (.func f k) .nil
  | nilFunc => exact .cons .nilFunc .nil
  | nilIface => exact .cons .nilIface .nil
  | mapNil => exact .cons .mapNil .nil
  | chanNil => exact .cons .chanNil .nil
  | iface t k => exact .cons (.iface t k) .nil
  | tuple k => exact .cons (.tuple k) .nil
theorem VRs.size {c c' : Array Value} (h : VRs G FS B c.toList c'.toList) : c'.size = c.size := by
  have := h.length
  simpa using this

theorem r_load {a a' : Addr} (h : AR G B a a') : SemR (G := G) (FS := FS) P (VQ G FS) B (load a) (load a') := .load h fun _ _ hv => .pure hv
theorem r_loadCellsFrom : ∀ (n i : Nat) {B : BR} {a a' : Addr} {acc acc' : Array Value}, AR G B a a' → VRs G FS B acc.toList acc'.toList → SemR (G := G) (FS := FS) P (VsQ G FS) B (loadCellsFrom a i n acc) (loadCellsFrom a' i n acc')
  | 0, _, _, _, _, _, _, _, hacc => r_pure hacc
  | n + 1, i, B, a, a', acc, acc', ha, hacc => by
    unfold loadCellsFrom
    refine r_bind (r_load (ha.add i)) fun B' hB v v' hv => ?_
    refine r_loadCellsFrom n (i + 1) (ha.mono hB) ?_
    rw [Array.toList_push, Array.toList_push]
    exact (hacc.mono hB).append (.cons hv .nil)
theorem r_loadCells {a a' : Addr} (ha : AR G B a a') (n : Nat) : SemR (G := G) (FS := FS) P (VsQ G FS) B (loadCells a n) (loadCells a' n) := r_loadCellsFrom n 0 ha .nil
theorem r_loadVar (t : TypeId) {a a' : Addr} (ha : AR G B a a') : SemR (G := G) (FS := FS) P (VQ G FS) B (loadVar t a) (loadVar t a') := by
  unfold loadVar
  refine r_bind (r_isAgg t) fun B' hB b b' hb => ?_
  obtain rfl : b' = b := hb
  cases b'
  · exact r_load (ha.mono hB)
  · simp only [if_true]
    refine r_bind (r_sizeOf t) fun B'' hB' n n' hn => ?_
    obtain rfl : n' = n := hn
    exact r_bind (r_loadCells ((ha.mono hB).mono hB') _) fun _ _ _ _ h => r_pure (.agg h)
theorem r_storeCells : ∀ {l l' : List Value} (i : Nat) {B : BR} {a a' : Addr}, AR G B a a' → VRs G FS B l l' → SemR (G := G) (FS := FS) P EqQ B (storeCells a l i) (storeCells a' l' i)
  | _, _, _, _, _, _, _, .nil => by unfold storeCells; exact r_pure rfl
  | _, _, i, _, _, _, ha, .cons hv hl => by
    unfold storeCells
    exact .store (ha.add i) hv (r_storeCells (i + 1) ha hl)
theorem r_storeVar (t : TypeId) {a a' : Addr} (ha : AR G B a a') {v v' : Value} (hv : VR G FS B v v') : SemR (G := G) (FS := FS) P EqQ B (storeVar t a v) (storeVar t a' v') := by
  unfold storeVar
  refine r_bind (r_sizeOf t) fun B' hB n n' hn => ?_
  obtain rfl : n' = n := hn
  have hc := hv.cells
  rw [hc.size]
  split
  · exact .dead (dead_bind (dead_stuck _))
  · exact r_storeCells 0 (ha.mono hB) (hc.mono hB)
theorem r_newRow (e : TypeId) {c c' : Array Value} (hc : VRs G FS B c.toList c'.toList) : SemR (G := G) (FS := FS) P (AQ G) B (newRow e c) (newRow e c') := .new hc fun _ _ hr => .pure ⟨.inr ⟨rfl, rfl⟩, rfl, rfl, hr⟩
theorem r_newVar (t : TypeId) {v v' : Value} (hv : VR G FS B v v') : SemR (G := G) (FS := FS) P (AQ G) B (newVar t v) (newVar t v') := r_newRow t hv.cells
theorem r_part (t : TypeId) {c c' : Array Value} (hc : VRs G FS B c.toList c'.toList) (off : Nat) : SemR (G := G) (FS := FS) P (VQ G FS) B (part t c off) (part t c' off) := by
  unfold part
  refine r_bind (r_isAgg t) fun B' hB b b' hb => ?_
  obtain rfl : b' = b := hb
  cases b'
  · simp only [Bool.false_eq_true, if_false]
    cases h : c[off]? with
    | none => exact r_stuck _ _
    | some v =>
      obtain ⟨v', e1, e2⟩ := hc.get (i := off) (v := v) (by simpa using h)
      have : c'[off]? = some v' := by simpa using e1
      rw [this]
      exact r_pure (e2.mono hB)
  · simp only [if_true]
    refine r_bind (r_sizeOf t) fun B'' hB' n n' hn => ?_
    obtain rfl : n' = n := hn
    refine r_pure (.agg ?_)
    simp only [Array.toList_extract, List.extract_eq_take_drop]
    exact (((hc.mono hB).mono hB').drop _).take _

theorem r_asIntOf {v v' : Value} (h : VR G FS B v v') : SemR (G := G) (FS := FS) P EqQ B (asIntOf v) (asIntOf v') := by
  cases h <;> first | exact r_pure rfl | exact r_stuck _ _ | exact r_unsupported _ _
theorem r_asInt {v v' : Value} (h : VR G FS B v v') : SemR (G := G) (FS := FS) P EqQ B (asInt v) (asInt v') := by
  unfold asInt
  exact r_bind (r_asIntOf h) fun _ _ a a' e => by obtain rfl : a' = a := e; exact r_pure rfl
theorem r_asBool {v v' : Value} (h : VR G FS B v v') : SemR (G := G) (FS := FS) P EqQ B (asBool v) (asBool v') := by
  cases h <;> first | exact r_pure rfl | exact r_stuck _ _
theorem r_sureAddr {v v' : Value} (h : VR G FS B v v') : SemR (G := G) (FS := FS) P (AQ G) B (Instr.sureAddr v) (Instr.sureAddr v') := by
  cases h <;> first | exact r_stuck _ _ | (rename_i ha; exact r_pure ha)

/-! ### The operations -/
theorem r_alloc {e : TypeId} (hz : ZT G FS P e) : SemR (G := G) (FS := FS) P (VQ G FS) B (Instr.alloc e true (.tuple #[])) (Instr.alloc e true (.tuple #[])) := by
  unfold Instr.alloc
  refine r_bind (r_zeroValue hz) fun B' _ v v' h => ?_
  rw [h.1]
  exact r_bind (r_newVar e h.2) fun _ _ _ _ h => r_pure (.ptr h)
theorem r_box (e : TypeId) {v v' : Value} (h : VR G FS B v v') : SemR (G := G) (FS := FS) P (VQ G FS) B (Instr.box e v) (Instr.box e v') := by
  unfold Instr.box
  exact r_bind (r_newVar e h) fun _ _ _ _ h => r_pure (.ptr h)
theorem r_loadAt (t : TypeId) {v v' : Value} (h : VR G FS B v v') : SemR (G := G) (FS := FS) P (VQ G FS) B (Instr.loadAt t v) (Instr.loadAt t v') := by
  unfold Instr.loadAt
  exact r_bind (r_sureAddr h) fun _ _ _ _ ha => r_loadVar t ha
theorem r_storeAt (t : TypeId) {v v' x x' : Value} (h : VR G FS B v v') (hx : VR G FS B x x') : SemR (G := G) (FS := FS) P EqQ B (Instr.storeAt t v x) (Instr.storeAt t v' x') := by
  unfold Instr.storeAt
  exact r_bind (r_sureAddr h) fun _ hB _ _ ha => r_storeVar t ha (hx.mono hB)
theorem r_extract {v v' : Value} (h : VR G FS B v v') (i : Nat) : SemR (G := G) (FS := FS) P (VQ G FS) B (Instr.extract v i) (Instr.extract v' i) := by
  cases h <;> first | exact r_stuck _ _ | skip
  rename_i c c' hc
  unfold Instr.extract
  simp only
  cases h : c[i]? with
  | none => exact r_stuck _ _
  | some v =>
    obtain ⟨v', e1, e2⟩ := hc.get (i := i) (v := v) (by simpa using h)
    have : c'[i]? = some v' := by simpa using e1
    rw [this]
    exact r_pure e2
end
end Go.Proofs.Ytgeoffpcmkofkaa
/- Operations are matched: addresses, slices, arithmetic, conversions, append. -/
namespace Go.Proofs.Ytgeoffpcmkofkaa
open Go

section
variable {G : Nat} {FS : FuncId → Prop} {P : Program} {α α' β β' : Type} {Q : BR → α → α' → Prop} {Q' : BR → β → β' → Prop} {B : BR}

theorem VR.none_or {v v' : Value} (h : VR G FS B v v') {a : Option Addr} {l c : Nat} (e : v = .slice a l c) : ∃ a', v' = .slice a' l c ∧ (a = none ∧ a' = none ∨ ∃ x x', a = some x ∧ a' = some x' ∧ AR G B x x') := by
  subst e
  cases h with
  | sliceNil => exact ⟨none, rfl, .inl ⟨rfl, rfl⟩⟩
  | slice _ _ ha => exact ⟨_, rfl, .inr ⟨_, _, rfl, rfl, ha⟩⟩
theorem VR.mkSlice {a a' : Option Addr} (h : a = none ∧ a' = none ∨ ∃ x x', a = some x ∧ a' = some x' ∧ AR G B x x') (l c : Nat) : VR G FS B (.slice a l c) (.slice a' l c) := by
  rcases h with ⟨rfl, rfl⟩ | ⟨x, x', rfl, rfl, k⟩
  · exact .sliceNil _ _
  · exact .slice _ _ k

theorem r_stuckBind (why : String) (f : α → Sem β) (s' : Sem β') : SemR (G := G) (FS := FS) P Q' B (stuck why >>= f) s' := .dead (dead_bind (dead_stuck _))
theorem r_indexAt (t : TypeId) {x x' i i' : Value} (hx : VR G FS B x x') (hi : VR G FS B i i') : SemR (G := G) (FS := FS) P (VQ G FS) B (Instr.indexAt t x i) (Instr.indexAt t x' i') := by
  unfold Instr.indexAt
  refine r_bind (r_asIntOf hi) fun B1 h1 k k' hk => ?_
  obtain rfl : k' = k := hk
  obtain ⟨kk, ii⟩ := k'
  simp only
  refine r_bind (r_underlying t) fun B2 h2 d d' hd => ?_
  rw [hd.1]
  have hx2 := (hx.mono h1).mono h2
  cases d <;> first | exact r_stuckBind _ _ _ | skip
  case array len elem =>
    refine r_bind (r_sureAddr hx2) fun B3 h3 a a' ha => ?_
    simp only [pure_bind]
    refine r_bind (r_underlying _) fun B3 h3 d d' hd => ?_
    rw [hd.1]
    split
    · refine r_bind (r_sizeOf _) fun B4 h4 n n' hn => ?_
      have hn : n' = n := hn
      subst hn
      exact r_pure (VR.ptr ((AR.mono (h3.trans h4) ha).add _))
    · (repeat' split) <;> first | exact r_unsupported _ _ | exact r_boundsPanic _ _ _ _ _
  case slice elem =>
    cases hx2 <;> first | exact r_stuckBind _ _ _ | skip
    case sliceNil l c =>
      simp only [pure_bind]
      refine r_bind (r_underlying _) fun B3 h3 d d' hd => ?_
      exact r_boundsPanic _ _ _ _ _
    case slice l c ha =>
      simp only [pure_bind]
      refine r_bind (r_underlying _) fun B3 h3 d d' hd => ?_
      rw [hd.1]
      split
      · refine r_bind (r_sizeOf _) fun B4 h4 n n' hn => ?_
        have hn : n' = n := hn
        subst hn
        exact r_pure (VR.ptr ((AR.mono (h3.trans h4) ha).add _))
      · (repeat' split) <;> first | exact r_unsupported _ _ | exact r_boundsPanic _ _ _ _ _

theorem r_fieldAt (s : TypeId) {x x' : Value} (hx : VR G FS B x x') (f : Nat) (hs : ∀ fields fl, P.underlying s = some (.struct fields) → fields[f]? = some fl → ∃ i, P.info? fl.type = some i ∧ i.size ≠ 0) : SemR (G := G) (FS := FS) P (VQ G FS) B (Instr.fieldAt s x f) (Instr.fieldAt s x' f) := by
  unfold Instr.fieldAt
  refine r_bind (r_underlying s) fun B1 h1 d d' hd => ?_
  rw [hd.1]
  cases d <;> first | exact r_stuck _ _ | skip
  rename_i fields
  simp only
  cases hf : fields[f]? with
  | none => exact r_stuck _ _
  | some fl =>
    simp only
    refine r_bind (r_sureAddr (hx.mono h1)) fun B2 h2 a a' ha => ?_
    refine r_bind (Q := AQ G) ?_ fun _ _ _ _ h => r_pure (.ptr h)
    unfold fieldPlace
    obtain ⟨i, hi, hn⟩ := hs fields fl hd.2 hf
    refine r_bind (r_bind (r_typeInfo _) (Q' := fun _ n n' => n' = n ∧ n ≠ 0) fun B3 h3 j j' hj => ?_) fun B3 h3 n n' hn => ?_
    · rw [hj.1]
      refine r_pure ⟨rfl, ?_⟩
      have := hj.2
      rw [hi] at this
      injection this with this
      rw [← this]; exact hn
    · rw [hn.1]
      simp only [if_neg hn.2]
      exact r_pure ((ha.mono h3).add _)

theorem r_sliceBound {x x' : Value} (hx : VR G FS B x x') (y : Nat) (c : BoundsCode) : SemR (G := G) (FS := FS) P EqQ B (Instr.sliceBound x y c) (Instr.sliceBound x' y c) := by
  unfold Instr.sliceBound
  refine r_bind (r_asIntOf hx) fun B1 h1 k k' hk => ?_
  obtain rfl : k' = k := hk
  simp only
  split
  · exact r_pure rfl
  · exact r_boundsPanic _ _ _ _ _
/-- Bounds that may be left out. -/
def OV (G : Nat) (FS : FuncId → Prop) (B : BR) : Option Value → Option Value → Prop
  | none, none => True
  | some v, some v' => VR G FS B v v'
  | _, _ => False
theorem OV.mono {B B' : BR} (h : Sub B B') : ∀ {v v' : Option Value}, OV G FS B v v' → OV G FS B' v v'
  | none, none, _ => trivial
  | some _, some _, k => VR.mono h k
theorem r_sliceBounds (b : Bool) (len cap : Nat) {lo lo' hi hi' : Option Value} (hl : OV G FS B lo lo') (hh : OV G FS B hi hi') : SemR (G := G) (FS := FS) P EqQ B (Instr.sliceBounds b len cap lo hi none) (Instr.sliceBounds b len cap lo' hi' none) := by
  cases hi <;> cases hi' <;> first | exact hh.elim | skip
  · cases lo <;> cases lo' <;> first | exact hl.elim | skip
    · exact .pure rfl
    · rename_i v v'
      show SemR P EqQ B (Instr.sliceBound v len .sliceB >>= fun l => pure (l, len, cap)) (Instr.sliceBound v' len .sliceB >>= fun l => pure (l, len, cap))
      exact r_bind (r_sliceBound hl _ _) fun _ _ q q' hq => by obtain rfl : q' = q := hq; exact r_pure rfl
  · rename_i u u'
    cases lo <;> cases lo' <;> first | exact hl.elim | skip
    · show SemR P EqQ B (Instr.sliceBound u cap (if b then .sliceAcap else .sliceAlen) >>= fun h => pure (0, h, cap)) (Instr.sliceBound u' cap (if b then .sliceAcap else .sliceAlen) >>= fun h => pure (0, h, cap))
      exact r_bind (r_sliceBound hh _ _) fun _ _ q q' hq => by obtain rfl : q' = q := hq; exact r_pure rfl
    · rename_i v v'
      show SemR P EqQ B (Instr.sliceBound u cap (if b then .sliceAcap else .sliceAlen) >>= fun h => Instr.sliceBound v h .sliceB >>= fun l => pure (l, h, cap)) (Instr.sliceBound u' cap (if b then .sliceAcap else .sliceAlen) >>= fun h => Instr.sliceBound v' h .sliceB >>= fun l => pure (l, h, cap))
      refine r_bind (r_sliceBound hh _ _) fun B2 h2 n n' hn => ?_
      obtain rfl : n' = n := hn
      exact r_bind (r_sliceBound (VR.mono h2 hl) _ _) fun _ _ q q' hq => by obtain rfl : q' = q := hq; exact r_pure rfl
/-- A slice of a slice (of no string, array or pointer). -/
theorem r_sliceAt (t : TypeId) {e : TypeId} (ht : P.underlying t = some (.slice e)) {x x' : Value} (hx : VR G FS B x x') {lo lo' hi hi' : Option Value} (hl : OV G FS B lo lo') (hh : OV G FS B hi hi') : SemR (G := G) (FS := FS) P (VQ G FS) B (Instr.sliceAt t x lo hi none) (Instr.sliceAt t x' lo' hi' none) := by
  unfold Instr.sliceAt
  refine r_bind (r_underlying t) fun B1 h1 d d' hd => ?_
  rw [hd.1]
  obtain rfl : d = .slice e := by have := hd.2; rw [ht] at this; injection this with this; exact this.symm
  simp only
  unfold Instr.slice
  refine r_bind (r_underlying t) fun B2 h2 d d' hd => ?_
  rw [hd.1]
  obtain rfl : d = .slice e := by have := hd.2; rw [ht] at this; injection this with this; exact this.symm
  have hx2 := (hx.mono h1).mono h2
  have key : ∀ {a a' : Option Addr} {l c : Nat}, (a = none ∧ a' = none ∨ ∃ x x', a = some x ∧ a' = some x' ∧ AR G B2 x x') → SemR (G := G) (FS := FS) P (VQ G FS) B2
      (do let (l, h, m) ← Instr.sliceBounds true l c lo hi none; let size ← sizeOf e; pure (.slice (if m = l then a else a.map (·.add (l * size))) (h - l) (m - l)))
      (do let (l, h, m) ← Instr.sliceBounds true l c lo' hi' none; let size ← sizeOf e; pure (.slice (if m = l then a' else a'.map (·.add (l * size))) (h - l) (m - l))) := by
    intro a a' l c ha
    refine r_bind (r_sliceBounds true l c ((hl.mono h1).mono h2) ((hh.mono h1).mono h2)) fun B3 h3 q q' hq => ?_
    obtain rfl : q' = q := hq
    obtain ⟨ql, qh, qm⟩ := q'
    simp only
    refine r_bind (r_sizeOf _) fun B4 h4 n n' hn => ?_
    obtain rfl : n' = n := hn
    refine r_pure (VR.mkSlice ?_ _ _)
    rcases ha with ⟨rfl, rfl⟩ | ⟨y, y', rfl, rfl, hy⟩
    · left; simp
    · right
      have hy2 := (hy.mono h3).mono h4
      by_cases hm : qm = ql
      · simp only [hm, if_true]; exact ⟨y, y', rfl, rfl, hy2⟩
      · simp only [hm, if_false, Option.map_some]; exact ⟨_, _, rfl, rfl, hy2.add _⟩
  cases hx2 <;> first | exact r_stuck _ _ | skip
  · exact key (.inl ⟨rfl, rfl⟩)
  · rename_i h; exact key (.inr ⟨_, _, rfl, rfl, h⟩)

theorem VRs.zeros {z : Array Value} (hz : VRs G FS B z.toList z.toList) (n : Nat) (hn : 0 < n → 0 < z.size) : VRs G FS B ((Array.range n).map (z[· % z.size]!)).toList ((Array.range n).map (z[· % z.size]!)).toList := by
  refine VRs.of_get rfl fun i v v' h1 h2 => ?_
  rw [h1] at h2
  injection h2 with h2
  subst h2
  simp only [Array.toList_map, List.getElem?_map, Option.map_eq_some_iff] at h1
  obtain ⟨j, hj, rfl⟩ := h1
  have hjn : j < n := by
    have := List.mem_of_getElem? hj
    simpa using this
  have hs := hn (by omega)
  have hlt : j % z.size < z.size := Nat.mod_lt _ hs
  rw [getElem!_pos z _ hlt]
  obtain ⟨v', e1, e2⟩ := hz.get (i := j % z.size) (v := z[j % z.size]) (by simp [hlt])
  have : v' = z[j % z.size] := by
    have e3 : z.toList[j % z.size]? = some z[j % z.size] := by simp [hlt]
    rw [e3] at e1
    injection e1 with e1
    exact e1.symm
  rwa [this] at e2
end
end Go.Proofs.Ytgeoffpcmkofkaa
/- Operations are matched: rows that are made, append. -/
namespace Go.Proofs.Ytgeoffpcmkofkaa
open Go

section
variable {G : Nat} {FS : FuncId → Prop} {P : Program} {α α' β β' : Type} {Q : BR → α → α' → Prop} {Q' : BR → β → β' → Prop} {B : BR}
inductive PRs (G : Nat) (FS : FuncId → Prop) (B : BR) : List (Nat × Value) → List (Nat × Value) → Prop
  | nil : PRs G FS B [] []
  | cons {i : Nat} {v v' : Value} {l l' : List (Nat × Value)} : VR G FS B v v' → PRs G FS B l l' → PRs G FS B ((i, v) :: l) ((i, v') :: l')
theorem PRs.mono {B' : BR} (h : Sub B B') : ∀ {l l' : List (Nat × Value)}, PRs G FS B l l' → PRs G FS B' l l'
  | _, _, .nil => .nil
  | _, _, .cons k ks => .cons (k.mono h) (ks.mono h)
theorem foldl_set : ∀ {xs xs' : List Value} (k : Nat) (off : Nat) {c c' : Array Value}, VRs G FS B xs xs' → VRs G FS B c.toList c'.toList →
    VRs G FS B ((xs.zipIdx k).foldl (fun cs (x : Value × Nat) => cs.setIfInBounds (off + x.2) x.1) c).toList ((xs'.zipIdx k).foldl (fun cs (x : Value × Nat) => cs.setIfInBounds (off + x.2) x.1) c').toList
  | _, _, _, _, _, _, .nil, hc => by simpa using hc
  | _, _, k, off, c, c', .cons hv hl, hc => by
    simp only [List.zipIdx_cons, List.foldl_cons]
    refine foldl_set (k + 1) off hl ?_
    rw [Array.toList_setIfInBounds, Array.toList_setIfInBounds]
    exact hc.set _ hv
theorem foldl_size : ∀ (xs : List Value) (k : Nat) (off : Nat) (c : Array Value), ((xs.zipIdx k).foldl (fun cs (x : Value × Nat) => cs.setIfInBounds (off + x.2) x.1) c).size = c.size
  | [], _, _, _ => by simp
  | x :: xs, k, off, c => by
    simp only [List.zipIdx_cons, List.foldl_cons]
    rw [foldl_size xs (k + 1) off]
    simp
theorem fill_rel (place : Nat → Option (Nat × Nat)) : ∀ {l l' : List (Nat × Value)} {c c' : Array Value}, PRs G FS B l l' → VRs G FS B c.toList c'.toList →
    (Instr.fill place c l = none ∨ ∃ d d', Instr.fill place c l = some d ∧ Instr.fill place c' l' = some d' ∧ VRs G FS B d.toList d'.toList)
  | _, _, c, c', .nil, hc => .inr ⟨c, c', rfl, rfl, hc⟩
  | _, _, c, c', .cons (i := i) (v := v) (v' := v') hv hl, hc => by
    unfold Instr.fill
    cases hp : place i with
    | none => exact .inl rfl
    | some q =>
      obtain ⟨off, size⟩ := q
      simp only
      have hcv := hv.cells
      have e1 := hcv.size
      have e2 := hc.size
      rw [e1, e2]
      by_cases hb : (decide (v.cells.size ≠ size) || decide (off + v.cells.size > c.size)) = true
      · rw [if_pos hb]; exact .inl rfl
      · rw [if_neg hb, if_neg hb]
        refine fill_rel place hl ?_
        have f1 : v.cells.zipIdx.foldl (fun cs (x : Value × Nat) => match x with | (c, j) => cs.setIfInBounds (off + j) c) c = (v.cells.toList.zipIdx 0).foldl (fun cs (x : Value × Nat) => cs.setIfInBounds (off + x.2) x.1) c := by
          rw [← Array.foldl_toList, Array.toList_zipIdx]
        have f2 : v'.cells.zipIdx.foldl (fun cs (x : Value × Nat) => match x with | (c, j) => cs.setIfInBounds (off + j) c) c' = (v'.cells.toList.zipIdx 0).foldl (fun cs (x : Value × Nat) => cs.setIfInBounds (off + x.2) x.1) c' := by
          rw [← Array.foldl_toList, Array.toList_zipIdx]
        rw [f1, f2]
        exact foldl_set 0 off hcv hc

theorem r_zeroCells {e : TypeId} (hz : ZT G FS P e) (n : Nat) : SemR (G := G) (FS := FS) P (fun B c c' => c' = c ∧ VRs G FS B c.toList c.toList) B (if n = 0 then pure #[] else do pure (← zeroValue e).cells) (if n = 0 then pure #[] else do pure (← zeroValue e).cells) := by
  split
  · exact r_pure ⟨rfl, .nil⟩
  · exact r_bind (r_zeroValue hz) fun _ _ v v' h => by rw [h.1]; exact r_pure ⟨rfl, h.2.cells⟩
theorem range_rel {c : Array Value} (hc : VRs G FS B c.toList c.toList) (n : Nat) : VRs G FS B ((Array.range n).map (c[· % c.size]!)).toList ((Array.range n).map (c[· % c.size]!)).toList := by
  by_cases h : 0 < c.size
  · exact VRs.zeros hc n fun _ => h
  · have hs : c = #[] := by simpa using h
    subst hs
    refine VRs.of_get rfl fun i v v' h1 h2 => ?_
    rw [h1] at h2
    injection h2 with h2
    subst h2
    simp only [Array.toList_map, List.getElem?_map, Option.map_eq_some_iff] at h1
    obtain ⟨j, _, rfl⟩ := h1
    exact .bool false
theorem r_buildSlice {t : TypeId} (hz : SZ G FS P t) (len : Nat) {ps ps' : Array (Nat × Value)} (hp : PRs G FS B ps.toList ps'.toList) : SemR (G := G) (FS := FS) P (VQ G FS) B (Instr.buildSlice t len ps) (Instr.buildSlice t len ps') := by
  unfold Instr.buildSlice
  refine r_bind (r_underlying t) fun B1 h1 d d' hd => ?_
  rw [hd.1]
  cases d <;> first | exact r_stuck _ _ | skip
  rename_i elem
  simp only
  refine r_bind (r_sizeOf elem) fun B2 h2 n n' hn => ?_
  obtain rfl : n' = n := hn
  by_cases hb : len * n' > 2 ^ 24
  · rw [if_pos hb]
    exact .dead (dead_bind (dead_unsupported _))
  · rw [if_neg hb, if_neg hb]
    have key : ∀ (B3 : BR), Sub B2 B3 → ∀ (z z' : Array Value), (z' = z ∧ VRs G FS B3 z.toList z.toList) → SemR (G := G) (FS := FS) P (VQ G FS) B3
          (match Instr.fill (fun i => some (i * n', n')) ((Array.range (len * n')).map (z[· % z.size]!)) ps.toList with
            | some cells => do pure (.slice (some (← newRow elem cells)) len len)
            | _ => stuck "buildSlice: a part of the wrong size")
          (match Instr.fill (fun i => some (i * n', n')) ((Array.range (len * n')).map (z'[· % z'.size]!)) ps'.toList with
            | some cells => do pure (.slice (some (← newRow elem cells)) len len)
            | _ => stuck "buildSlice: a part of the wrong size") := by
      intro B3 h3 z z' hz'
      obtain ⟨rfl, hzz⟩ := hz'
      rcases fill_rel (fun i => some (i * n', n')) (hp.mono (h1.trans (h2.trans h3))) (range_rel hzz (len * n')) with k | ⟨c, c', k1, k2, k3⟩
      · rw [k]; exact r_stuck _ _
      · rw [k1, k2]
        exact r_bind (r_newRow elem k3) fun _ _ _ _ h => r_pure (.slice _ _ h)
    split
    · exact r_bind (r_pure (Q := fun B z z' => z' = z ∧ VRs G FS B z.toList z.toList) ⟨rfl, .nil⟩) key
    · refine r_bind (r_zeroValue (hz elem hd.2)) fun B3 h3 v v' hv => ?_
      rw [hv.1]
      exact r_bind (r_pure (Q := fun B z z' => z' = z ∧ VRs G FS B z.toList z.toList) ⟨rfl, hv.2.cells⟩) fun B4 h4 => key B4 (h3.trans h4)

theorem r_mark {m : Mark} (hm : m = .noRoom ∨ ∃ f, m = .extern f) : SemR (G := G) (FS := FS) P EqQ B (mark m) (mark m) := .mark hm (.pure rfl)
theorem r_askRoom (n : Nat) : SemR (G := G) (FS := FS) P EqQ B (askRoom n) (askRoom n) := by
  unfold askRoom
  split
  · exact r_mark (.inl rfl)
  · exact r_pure rfl
theorem r_makeSlice {t : TypeId} (hz : SZ G FS P t) {l l' c c' : Value} (hl : VR G FS B l l') (hc : VR G FS B c c') : SemR (G := G) (FS := FS) P (VQ G FS) B (Instr.makeSlice t l c) (Instr.makeSlice t l' c') := by
  unfold Instr.makeSlice
  refine r_bind (r_underlying t) fun B1 h1 d d' hd => ?_
  rw [hd.1]
  cases d <;> first | exact r_stuck _ _ | skip
  rename_i elem
  simp only
  refine r_bind (r_asInt (hl.mono h1)) fun B2 h2 n n' hn => ?_
  obtain rfl : n' = n := hn
  refine r_bind (r_asInt (hc.mono (h1.trans h2))) fun B3 h3 m m' hm => ?_
  obtain rfl : m' = m := hm
  refine r_bind (r_typeInfo elem) fun B4 h4 i i' hi => ?_
  rw [hi.1]
  have key : ∀ (B5 : BR) (z z' : Array Value) (n : Nat) (u v : Nat), (z' = z ∧ VRs G FS B5 z.toList z.toList) → SemR (G := G) (FS := FS) P (VQ G FS) B5
      (do let a ← newRow elem ((Array.range n).map (z[· % z.size]!)); pure (.slice (some a) u v))
      (do let a ← newRow elem ((Array.range n).map (z'[· % z'.size]!)); pure (.slice (some a) u v)) := by
    intro B5 z z' n u v hz'
    obtain ⟨rfl, hzz⟩ := hz'
    exact r_bind (r_newRow elem (range_rel hzz n)) fun _ _ _ _ h => r_pure (.slice _ _ h)
  split
  · split
    · exact .dead (dead_bind (dead_runtimePanic _))
    · split
      · exact .dead (dead_bind (dead_runtimePanic _))
      · exact .dead (dead_then (m_choose _) fun _ => dead_bind (dead_runtimePanic _))
  · refine r_bind (r_askRoom _) fun B5 h5 _ _ _ => ?_
    refine r_bind (r_sizeOf elem) fun B6 h6 n n' hn => ?_
    obtain rfl : n' = n := hn
    split
    · exact r_bind (r_pure (Q := fun B z z' => z' = z ∧ VRs G FS B z.toList z.toList) ⟨rfl, .nil⟩) fun B7 h7 z z' h => key B7 z z' _ _ _ h
    · refine r_bind (r_zeroValue (hz elem hd.2)) fun B3 h3 v v' hv => ?_
      rw [hv.1]
      exact r_bind (r_pure (Q := fun B z z' => z' = z ∧ VRs G FS B z.toList z.toList) ⟨rfl, hv.2.cells⟩) fun B7 h7 z z' h => key B7 z z' _ _ _ h
end
end Go.Proofs.Ytgeoffpcmkofkaa
/- Operations are matched: append. -/
namespace Go.Proofs.Ytgeoffpcmkofkaa
open Go

section
variable {G : Nat} {FS : FuncId → Prop} {P : Program} {α α' β β' : Type} {Q : BR → α → α' → Prop} {Q' : BR → β → β' → Prop} {B : BR}
/-! Steps that make nothing: the pairs of blocks stay as they are. -/
theorem rb_pure {a : α} {a' : α'} {f : α → Sem β} {f' : α' → Sem β'} (h : SemR (G := G) (FS := FS) P Q' B (f a) (f' a')) : SemR (G := G) (FS := FS) P Q' B (pure a >>= f) (pure a' >>= f') := h
theorem rb_any {a : α} {f : α → Sem β} {f' : α → Sem β'} (h : ∀ z, SemR (G := G) (FS := FS) P Q' B (f z) (f' z)) : SemR (G := G) (FS := FS) P Q' B (pure a >>= f) (pure a >>= f') := h a
theorem deadb {γ : Type} {s : Sem γ} (hs : Dead P s) {f : γ → Sem β} {s' : Sem β'} : SemR (G := G) (FS := FS) P Q' B (s >>= f) s' := .dead (dead_bind hs)
theorem rb_typeInfo {t : TypeId} {f : TypeInfo → Sem β} {f' : TypeInfo → Sem β'} (h : ∀ d, P.info? t = some d → SemR (G := G) (FS := FS) P Q' B (f d) (f' d)) : SemR (G := G) (FS := FS) P Q' B (typeInfo t >>= f) (typeInfo t >>= f') := by
  refine .program ?_
  simp only [Sem.bind]
  cases hd : P.info? t with
  | none => exact deadb (dead_stuck _)
  | some d => exact h d hd
theorem rb_underlying {t : TypeId} {f : TypeDesc → Sem β} {f' : TypeDesc → Sem β'} (h : ∀ d, P.underlying t = some d → SemR (G := G) (FS := FS) P Q' B (f d) (f' d)) : SemR (G := G) (FS := FS) P Q' B (underlying t >>= f) (underlying t >>= f') := by
  refine .program ?_
  simp only [Sem.bind]
  cases hd : P.underlying t with
  | none => exact deadb (dead_stuck _)
  | some d => exact h d hd
theorem rb_sizeOf {t : TypeId} {f : Nat → Sem β} {f' : Nat → Sem β'} (h : ∀ n, SemR (G := G) (FS := FS) P Q' B (f n) (f' n)) : SemR (G := G) (FS := FS) P Q' B (sizeOf t >>= f) (sizeOf t >>= f') := by
  unfold sizeOf
  simp only [bind_assoc]
  exact rb_typeInfo fun d _ => h _
theorem rb_zeroValue {t : TypeId} (hz : ZT G FS P t) {f : Value → Sem β} {f' : Value → Sem β'} (h : ∀ v, VR G FS B v v → SemR (G := G) (FS := FS) P Q' B (f v) (f' v)) : SemR (G := G) (FS := FS) P Q' B (zeroValue t >>= f) (zeroValue t >>= f') := by
  unfold zeroValue
  simp only [bind_assoc]
  refine rb_typeInfo fun d hd => ?_
  cases hv : d.zero with
  | none => exact deadb (dead_unsupported _)
  | some v => exact h v (hz _ d v hd hv)
theorem rb_asIntOf {v v' : Value} (hv : VR G FS B v v') {f : IntKind × Int → Sem β} {f' : IntKind × Int → Sem β'} (h : ∀ n, SemR (G := G) (FS := FS) P Q' B (f n) (f' n)) : SemR (G := G) (FS := FS) P Q' B (asIntOf v >>= f) (asIntOf v' >>= f') := by
  cases hv <;> first | exact h _ | exact deadb (dead_stuck _) | exact deadb (dead_unsupported _)
theorem rb_asInt {v v' : Value} (hv : VR G FS B v v') {f : Int → Sem β} {f' : Int → Sem β'} (h : ∀ n, SemR (G := G) (FS := FS) P Q' B (f n) (f' n)) : SemR (G := G) (FS := FS) P Q' B (asInt v >>= f) (asInt v' >>= f') := by
  unfold asInt
  simp only [bind_assoc]
  exact rb_asIntOf hv fun n => h _
theorem rb_askRoom {n : Nat} {f : Unit → Sem β} {f' : Unit → Sem β'} (h : SemR (G := G) (FS := FS) P Q' B (f ()) (f' ())) : SemR (G := G) (FS := FS) P Q' B (askRoom n >>= f) (askRoom n >>= f') := by
  unfold askRoom
  split
  · exact .mark (.inl rfl) h
  · exact h
theorem rb_loadCellsFrom {f : Array Value → Sem β} {f' : Array Value → Sem β'} (h : ∀ c c', VRs G FS B c.toList c'.toList → SemR (G := G) (FS := FS) P Q' B (f c) (f' c')) : ∀ (n i : Nat) {a a' : Addr} {acc acc' : Array Value}, AR G B a a' → VRs G FS B acc.toList acc'.toList → SemR (G := G) (FS := FS) P Q' B (loadCellsFrom a i n acc >>= f) (loadCellsFrom a' i n acc' >>= f')
  | 0, _, _, _, _, _, _, hacc => h _ _ hacc
  | n + 1, i, a, a', acc, acc', ha, hacc => by
    unfold loadCellsFrom
    refine .load (ha.add i) fun v v' hv => ?_
    refine rb_loadCellsFrom h n (i + 1) ha ?_
    rw [Array.toList_push, Array.toList_push]
    exact hacc.append (.cons hv .nil)
theorem rb_loadCells {a a' : Addr} (ha : AR G B a a') {n : Nat} {f : Array Value → Sem β} {f' : Array Value → Sem β'} (h : ∀ c c', VRs G FS B c.toList c'.toList → SemR (G := G) (FS := FS) P Q' B (f c) (f' c')) : SemR (G := G) (FS := FS) P Q' B (loadCells a n >>= f) (loadCells a' n >>= f') := rb_loadCellsFrom h n 0 ha .nil
theorem rb_firstCells {x x' : Value} (hx : VR G FS B x x') {size n : Nat} {f : Array Value → Sem β} {f' : Array Value → Sem β'} (h : ∀ c c', VRs G FS B c.toList c'.toList → SemR (G := G) (FS := FS) P Q' B (f c) (f' c')) : SemR (G := G) (FS := FS) P Q' B (Builtin.firstCells size n x >>= f) (Builtin.firstCells size n x' >>= f') := by
  cases hx <;> first | exact r_stuckBind _ _ _ | skip
  case string s =>
    refine h _ _ (VRs.of_get rfl fun i v v' h1 h2 => ?_)
    rw [h1] at h2
    injection h2 with h2
    subst h2
    simp only [Array.toList_map, List.getElem?_map, Option.map_eq_some_iff] at h1
    obtain ⟨b, _, rfl⟩ := h1
    exact .int _ _
  case sliceNil => exact h _ _ .nil
  case slice ha => exact rb_loadCells ha h
theorem rb_lenOf {x x' : Value} (hx : VR G FS B x x') {f : Nat → Sem β} {f' : Nat → Sem β'} (h : ∀ n, SemR (G := G) (FS := FS) P Q' B (f n) (f' n)) : SemR (G := G) (FS := FS) P Q' B (Builtin.lenOf x >>= f) (Builtin.lenOf x' >>= f') := by
  cases hx <;> first | exact h _ | exact r_stuckBind _ _ _
theorem rb_storeCells {f : Unit → Sem β} {f' : Unit → Sem β'} (h : SemR (G := G) (FS := FS) P Q' B (f ()) (f' ())) : ∀ {l l' : List Value} (i : Nat) {a a' : Addr}, AR G B a a' → VRs G FS B l l' → SemR (G := G) (FS := FS) P Q' B (storeCells a l i >>= f) (storeCells a' l' i >>= f')
  | _, _, _, _, _, _, .nil => by unfold storeCells; exact h
  | _, _, i, _, _, ha, .cons hv hl => by
    unfold storeCells
    exact .store (ha.add i) hv (rb_storeCells h (i + 1) ha hl)
theorem zeroCells_rel {z : Array Value} (h : VRs G FS B z.toList z.toList) (n : Nat) : VRs G FS B (Builtin.zeroCells z n).toList (Builtin.zeroCells z n).toList := range_rel h _
theorem VR.get {vas vas' : Array Value} (ha : VRs G FS B vas.toList vas'.toList) {i : Nat} {v : Value} (h : vas[i]? = some v) : ∃ v', vas'[i]? = some v' ∧ VR G FS B v v' := by
  obtain ⟨v', e1, e2⟩ := ha.get (i := i) (v := v) (by simpa using h)
  exact ⟨v', by simpa using e1, e2⟩

theorem m_holdsCells (a : Addr) (n : Nat) : MildT P (Builtin.holdsCells a n) := by
  refine m_bind (m_shape _) fun s => ?_
  split <;> exact m_pure _
theorem m_mayShare (size sLen n : Nat) (b : Option Addr) (x : Value) : MildT P (Builtin.mayShare size sLen n b x) := by
  have tail : ∀ t : Bool, MildT P (if (!t) = true then pure true else match x with | .slice (some b') _ _ => do pure (!(← Builtin.holdsCells b' (n * size)) || b.any (·.block == b'.block)) | _ => pure false) := by
    intro t
    split
    · exact m_pure _
    · split
      · exact m_bind (m_holdsCells _ _) fun _ => m_pure _
      · exact m_pure _
  unfold Builtin.mayShare
  cases b with
  | none => exact m_bind (m_pure _) tail
  | some a => exact m_bind (m_holdsCells _ _) fun _ => m_bind (m_frozen _) fun _ => m_bind (m_pure _) tail
theorem r_append {ts : Array TypeId} (hz : ∀ t, ts[0]? = some t → SZ G FS P t) (t : TypeId) {vas vas' : Array Value} (ha : VRs G FS B vas.toList vas'.toList) : SemR (G := G) (FS := FS) P (VQ G FS) B (Builtin.append_ ts t vas) (Builtin.append_ ts t vas') := by
  unfold Builtin.append_
  cases h0 : ts[0]? with
  | none => exact r_stuck _ _
  | some sT =>
  cases h1 : vas[0]? with
  | none => exact r_stuck _ _
  | some s =>
  cases h2 : vas[1]? with
  | none => exact r_stuck _ _
  | some x =>
  obtain ⟨s', e1, hs⟩ := VR.get ha h1
  obtain ⟨x', e2, hx⟩ := VR.get ha h2
  rw [e1, e2]
  simp only
  refine rb_underlying fun d hd => ?_
  cases d <;> first | exact r_stuck _ _ | skip
  rename_i elem
  simp only
  cases s <;> first | exact r_stuck _ _ | skip
  rename_i base sLen sCap
  obtain ⟨base', rfl, hb⟩ := hs.none_or rfl
  simp only
  refine rb_sizeOf fun size => ?_
  have hz := hz sT h0 elem hd
  have new : ∀ (z : Bool) (n : Nat) {f f' : Array Value → Sem Value}, (∀ c c', VRs G FS B c.toList c'.toList → SemR (G := G) (FS := FS) P (VQ G FS) B (f c) (f' c')) →
      SemR (G := G) (FS := FS) P (VQ G FS) B
        ((if (!z) = true then Builtin.firstCells size n x else if n * size = 0 then pure #[] else do pure (Builtin.zeroCells (← zeroValue elem).cells n)) >>= f)
        ((if (!z) = true then Builtin.firstCells size n x' else if n * size = 0 then pure #[] else do pure (Builtin.zeroCells (← zeroValue elem).cells n)) >>= f') := by
    intro z n f f' h
    cases z
    · exact rb_firstCells hx h
    · by_cases hn : n * size = 0
      · simp only [hn, if_true]
        exact h _ _ .nil
      · rw [if_neg (by decide), if_neg hn, if_neg (by decide)]
        simp only [bind_assoc]
        exact rb_zeroValue (f := fun v => f (Builtin.zeroCells v.cells n)) (f' := fun v => f' (Builtin.zeroCells v.cells n)) hz fun v hv => h _ _ (zeroCells_rel hv.cells n)
  cases h1 : ts[1]? with
  | none =>
    simp only
    refine rb_pure ?_
    simp only [Bool.false_eq_true, if_false, false_or]
    refine rb_lenOf hx fun n => ?_
    split
    · refine new false n fun c c' hc => ?_
      rcases hb with ⟨q1, q2⟩ | ⟨y, y', q1, q2, hy⟩ <;> subst q1 <;> subst q2
      · exact r_pure (VR.sliceNil _ _)
      · refine rb_storeCells ?_ 0 (hy.add _) hc
        exact r_pure (VR.slice _ _ hy)
    · refine rb_typeInfo fun i hi => ?_
      split
      · exact deadb (dead_runtimePanic _)
      · refine rb_typeInfo fun i hi => ?_
        split
        · first
          | exact deadb (dead_runtimePanic _)
          | refine deadb ?_
            rw [if_pos rfl]
            exact dead_runtimePanic _
          | refine deadb (dead_then (m_mayShare _ _ _ _ _) fun _ => ?_)
            split
            · exact dead_then (m_mark _) fun _ => dead_unsupported _
            · exact dead_unsupported _
        · refine r_choose fun k => ?_
          refine rb_typeInfo fun i hi => ?_
          refine rb_askRoom ?_
          refine rb_firstCells hs fun o o' ho => ?_
          refine new false n fun c c' hc => ?_
          refine rb_zeroValue hz fun v hv => ?_
          refine r_bind (r_newRow _ ?_) fun _ _ _ _ h => r_pure (VR.slice _ _ h)
          simp only [Array.toList_append]
          exact (ho.append hc).append (zeroCells_rel hv.cells _)
  | some xT =>
    simp only
    refine rb_underlying fun d hd => ?_
    refine rb_any fun z => ?_
    cases z
    · simp only [Bool.false_eq_true, if_false, false_or]
      refine rb_lenOf hx fun n => ?_
      split
      · refine new false n fun c c' hc => ?_
        rcases hb with ⟨q1, q2⟩ | ⟨y, y', q1, q2, hy⟩ <;> subst q1 <;> subst q2
        · exact r_pure (VR.sliceNil _ _)
        · refine rb_storeCells ?_ 0 (hy.add _) hc
          exact r_pure (VR.slice _ _ hy)
      · refine rb_typeInfo fun i hi => ?_
        split
        · exact deadb (dead_runtimePanic _)
        · refine rb_typeInfo fun i hi => ?_
          split
          · first
            | exact deadb (dead_runtimePanic _)
            | refine deadb ?_
              rw [if_pos rfl]
              exact dead_runtimePanic _
            | refine deadb (dead_then (m_mayShare _ _ _ _ _) fun _ => ?_)
              split
              · exact dead_then (m_mark _) fun _ => dead_unsupported _
              · exact dead_unsupported _
          · refine r_choose fun k => ?_
            refine rb_typeInfo fun i hi => ?_
            refine rb_askRoom ?_
            refine rb_firstCells hs fun o o' ho => ?_
            refine new false n fun c c' hc => ?_
            refine rb_zeroValue hz fun v hv => ?_
            refine r_bind (r_newRow _ ?_) fun _ _ _ _ h => r_pure (VR.slice _ _ h)
            simp only [Array.toList_append]
            exact (ho.append hc).append (zeroCells_rel hv.cells _)
    · rw [if_pos rfl, if_pos rfl]
      refine rb_asInt hx fun m => ?_
      by_cases hm : IntKind.i64.wrap m < 0
      · rw [if_pos hm]
        exact deadb (dead_runtimePanic _)
      · rw [if_neg hm, if_neg hm]
        refine rb_typeInfo fun i hi => ?_
        by_cases hi : IntKind.i64.wrap m * (i.bytes : Int) > 2 ^ 48
        · rw [if_pos hi]
          exact .dead (dead_then (m_choose _) fun _ => dead_bind (dead_runtimePanic _))
        · rw [if_neg hi, if_neg hi]
          refine rb_pure ?_
          split
          · refine new true ((IntKind.i64.wrap m).toNat) fun c c' hc => ?_
            rcases hb with ⟨q1, q2⟩ | ⟨y, y', q1, q2, hy⟩ <;> subst q1 <;> subst q2
            · exact r_pure (VR.sliceNil _ _)
            · refine rb_storeCells ?_ 0 (hy.add _) hc
              exact r_pure (VR.slice _ _ hy)
          · refine rb_typeInfo fun i hi => ?_
            split
            · exact deadb (dead_runtimePanic _)
            · refine rb_typeInfo fun i hi => ?_
              split
              · first
                | exact deadb (dead_runtimePanic _)
                | refine deadb ?_
                  rw [if_pos rfl]
                  exact dead_runtimePanic _
                | refine deadb (dead_then (m_mayShare _ _ _ _ _) fun _ => ?_)
                  split
                  · exact dead_then (m_mark _) fun _ => dead_unsupported _
                  · exact dead_unsupported _
              · refine r_choose fun k => ?_
                refine rb_typeInfo fun i hi => ?_
                refine rb_askRoom ?_
                refine rb_firstCells hs fun o o' ho => ?_
                refine new true ((IntKind.i64.wrap m).toNat) fun c c' hc => ?_
                refine rb_zeroValue hz fun v hv => ?_
                refine r_bind (r_newRow _ ?_) fun _ _ _ _ h => r_pure (VR.slice _ _ h)
                simp only [Array.toList_append]
                exact (ho.append hc).append (zeroCells_rel hv.cells _)
end
end Go.Proofs.Ytgeoffpcmkofkaa
/- Operations are matched: arithmetic, comparisons, conversions. -/
namespace Go.Proofs.Ytgeoffpcmkofkaa
open Go

section
variable {G : Nat} {FS : FuncId → Prop} {P : Program} {α α' β β' : Type} {Q : BR → α → α' → Prop} {Q' : BR → β → β' → Prop} {B : BR}
theorem rb_program {f : Program → Sem β} {f' : Program → Sem β'} (h : SemR (G := G) (FS := FS) P Q' B (f P) (f' P)) : SemR (G := G) (FS := FS) P Q' B (program >>= f) (program >>= f') := .program h
theorem rb_shape {r r' : Nat} (hb : B r r') {f : Option (TypeId × Nat) → Sem β} {g : Option (TypeId × Nat) → Sem β'} (h : ∀ s, SemR (G := G) (FS := FS) P Q' B (f s) (g s)) : SemR (G := G) (FS := FS) P Q' B (shape r >>= f) (shape r' >>= g) := .shape hb h
theorem rb_numberAt {r r' : Nat} (hb : B r r') {f : Option (Addr × Bool) → Sem β} {f' : Option (Addr × Bool) → Sem β'} (h0 : SemR (G := G) (FS := FS) P Q' B (f none) (f' none)) (h : ∀ a a' l, AR G B a a' → SemR (G := G) (FS := FS) P Q' B (f (some (a, l))) (f' (some (a', l)))) : SemR (G := G) (FS := FS) P Q' B (numberAt r >>= f) (numberAt r' >>= f') := by
  unfold numberAt
  simp only [bind_assoc]
  refine .shape hb fun s => ?_
  cases s with
  | some s => exact h0
  | none => exact .getNum hb fun a a' l ha => h a a' l ha
theorem rb_viewAt {r r' : Nat} (hb : B r r') {f : Option (Addr × TypeId) → Sem β} {f' : Option (Addr × TypeId) → Sem β'} (h0 : SemR (G := G) (FS := FS) P Q' B (f none) (f' none)) : SemR (G := G) (FS := FS) P Q' B (viewAt r >>= f) (viewAt r' >>= f') := by
  unfold viewAt
  simp only [bind_assoc]
  refine .shape hb fun s => ?_
  cases s with
  | some s => exact h0
  | none => exact .getNum hb fun a a' l ha => h0
theorem rb_behindNumber {n n' : Addr} (hn : AR G B n n') {f : Addr × Bool → Sem β} {f' : Addr × Bool → Sem β'} (h : ∀ a a' l, AR G B a a' → SemR (G := G) (FS := FS) P Q' B (f (a, l)) (f' (a', l))) : SemR (G := G) (FS := FS) P Q' B (behindNumber n >>= f) (behindNumber n' >>= f') := by
  unfold behindNumber
  simp only [bind_assoc]
  exact rb_numberAt hn.block (h _ _ _ hn) fun a a' l ha => h _ _ _ ha
theorem r_asNumber {a a' : Addr} (ha : AR G B a a') (l : Bool) : SemR (G := G) (FS := FS) P (VQ G FS) B (asNumber a l) (asNumber a' l) := .newNum ha fun _ _ hr => .pure (.ptr ⟨.inr ⟨rfl, rfl⟩, rfl, rfl, hr⟩)
theorem rb_byteOf {a a' : Addr} (ha : AR G B a a') {f : Nat → Sem β} {f' : Nat → Sem β'} (h : ∀ n, SemR (G := G) (FS := FS) P Q' B (f n) (f' n)) : SemR (G := G) (FS := FS) P Q' B (byteOf a >>= f) (byteOf a' >>= f') := by
  unfold byteOf
  rw [ha.spot]
  cases hs : a.spot with
  | some s => exact h _
  | none =>
    simp only [bind_assoc]
    refine .program ?_
    unfold noView
    simp only [bind_assoc, Sem.bind]
    refine rb_viewAt ha.block ?_
    simp only [Option.isSome_none, Bool.false_eq_true, if_false, pure_bind]
    refine .shape ha.block fun s => ?_
    cases s with
    | none => exact r_stuck _ _
    | some s =>
      obtain ⟨e, c⟩ := s
      simp only [Sem.bind]
      rw [ha.off]
      by_cases h0 : P.cellsOf e = 0
      · simp only [h0, if_true]
        exact h _
      · simp only [h0, if_false]
        cases hc : byteOfCell P P.depth e (a.off % P.cellsOf e) with
        | none => exact deadb (dead_stuck _)
        | some b => exact h _
theorem r_unsafeAdd {a a' : Addr} (ha : AR G B a a') {y y' : Value} (hy : VR G FS B y y') (t : TypeId) : SemR (G := G) (FS := FS) P (fun B v v' => ∃ b b', v = .pointer (some b) ∧ v' = .pointer (some b') ∧ AR G B b b') B (Builtin.unsafeAdd_ #[] t #[.pointer (some a), y]) (Builtin.unsafeAdd_ #[] t #[.pointer (some a'), y']) := by
  unfold Builtin.unsafeAdd_
  refine rb_asInt hy fun n => ?_
  by_cases h0 : n = 0
  · simp only [h0, if_true]
    refine rb_viewAt ha.block ?_
    exact r_pure ⟨_, _, rfl, rfl, ha⟩
  · simp only [h0, if_false]
    by_cases h1 : n < 0
    · simp only [h1, if_true]
      exact .dead (dead_bind (dead_unsupported _))
    · simp only [h1, if_false]
      refine .shape ha.block fun s => ?_
      cases s with
      | none => exact r_unsupported _ _
      | some s =>
        obtain ⟨e, c⟩ := s
        refine .program ?_
        simp only [Sem.bind]
        rw [ha.off]
        cases hc : cellAtBytes P P.depth e (c / P.cellsOf e) a.off n with
        | none => exact r_unsupported _ _
        | some off => exact r_pure ⟨_, _, rfl, rfl, ⟨ha.block, rfl, ha.spot, ha.low⟩⟩
theorem r_movedNumber (t : TypeId) {a a' : Addr} (ha : AR G B a a') {y y' : Value} (hy : VR G FS B y y') : SemR (G := G) (FS := FS) P (VQ G FS) B (movedNumber t (.pointer (some a)) y) (movedNumber t (.pointer (some a')) y') := by
  unfold movedNumber
  refine rb_underlying fun d hd => ?_
  simp only
  split
  · exact deadb (dead_unsupported _)
  · refine rb_behindNumber ha fun b b' l hb => ?_
    simp only
    refine r_bind (r_unsafeAdd hb hy t) fun B' hB v v' hv => ?_
    obtain ⟨c, c', rfl, rfl, hc⟩ := hv
    exact r_asNumber hc l
theorem r_addrMod (k : IntKind) {a a' : Addr} (ha : AR G B a a') (n : Int) : SemR (G := G) (FS := FS) P (VQ G FS) B (Op.addrMod k a n) (Op.addrMod k a' n) := by
  unfold Op.addrMod
  refine .shape ha.block fun s => ?_
  cases s with
  | none => exact r_unsupported _ _
  | some s =>
    obtain ⟨e, c⟩ := s
    simp only [Sem.bind]
    refine rb_typeInfo fun i hi => ?_
    split
    · exact deadb (dead_unsupported _)
    · exact rb_byteOf ha fun n => r_pure (.int _ _)

/-- Values that hold memory, other than an address itself. -/
inductive Deep : Value → Prop
  | slice (a : Addr) (l c : Nat) : Deep (.slice (some a) l c)
  | iface (t : TypeId) (v : Value) : Deep (.iface t v)
  | agg (c : Array Value) : Deep (.agg c)
  | tuple (c : Array Value) : Deep (.tuple c)
theorem VR.kinds {v v' : Value} (h : VR G FS B v v') : (v' = v ∧ VR G FS B v v ∧ ¬Deep v ∧ ∀ a, v ≠ .pointer (some a)) ∨ (∃ a a', v = .pointer (some a) ∧ v' = .pointer (some a') ∧ AR G B a a') ∨ Deep v := by
  cases h with
  | ptr ha => exact .inr (.inl ⟨_, _, rfl, rfl, ha⟩)
  | slice l c _ => exact .inr (.inr (.slice _ _ _))
  | iface t _ => exact .inr (.inr (.iface _ _))
  | agg _ => exact .inr (.inr (.agg _))
  | tuple _ => exact .inr (.inr (.tuple _))
  | bool b => exact .inl ⟨rfl, .bool b, nofun, nofun⟩
  | int k n => exact .inl ⟨rfl, .int k n, nofun, nofun⟩
  | float k n => exact .inl ⟨rfl, .float k n, nofun, nofun⟩
  | string s => exact .inl ⟨rfl, .string s, nofun, nofun⟩
  | ptrNil => exact .inl ⟨rfl, .ptrNil, nofun, nofun⟩
  | sliceNil l c => exact .inl ⟨rfl, .sliceNil l c, nofun, nofun⟩
  | func f k => exact .inl ⟨rfl, .func f k, nofun, nofun⟩
  | nilFunc => exact .inl ⟨rfl, .nilFunc, nofun, nofun⟩
  | nilIface => exact .inl ⟨rfl, .nilIface, nofun, nofun⟩
  | mapNil => exact .inl ⟨rfl, .mapNil, nofun, nofun⟩
  | chanNil => exact .inl ⟨rfl, .chanNil, nofun, nofun⟩

theorem r_shift (op : BinOp) (k : IntKind) (x : Int) (yk : IntKind) (y : Int) : SemR (G := G) (FS := FS) P (VQ G FS) B (Op.shift op k x yk y) (Op.shift op k x yk y) := by
  unfold Op.shift
  split
  · exact r_runtimePanic _ _
  · cases op <;> first | exact r_pure (.int _ _) | exact r_stuck _ _
theorem r_intArith (op : BinOp) (k : IntKind) (x y : Int) : SemR (G := G) (FS := FS) P (VQ G FS) B (Op.intArith op k x y) (Op.intArith op k x y) := by
  cases op <;> first | exact r_pure (.int _ _) | exact r_stuck _ _
theorem r_intBits (op : BinOp) (k : IntKind) (x y : Int) : SemR (G := G) (FS := FS) P (VQ G FS) B (Op.intBits op k x y) (Op.intBits op k x y) := by
  cases op <;> first | exact r_pure (.int _ _) | exact r_stuck _ _
theorem r_intCmp (op : BinOp) (x y : Int) : SemR (G := G) (FS := FS) P (VQ G FS) B (Op.intCmp op x y) (Op.intCmp op x y) := by
  cases op <;> first | exact r_pure (.bool _) | exact r_stuck _ _
theorem r_intDiv (op : BinOp) (k : IntKind) (x y : Int) : SemR (G := G) (FS := FS) P (VQ G FS) B (Op.intDiv op k x y) (Op.intDiv op k x y) := by
  unfold Op.intDiv
  split
  · exact r_runtimePanic _ _
  · cases op <;> first | exact r_pure (.int _ _) | exact r_stuck _ _
theorem r_nan (k : FloatKind) (q : Question) (r : Option Nat) : SemR (G := G) (FS := FS) P (VQ G FS) B (match r with | some r => pure (.float k r) | none => do pure (.float k (← choose q))) (match r with | some r => pure (.float k r) | none => do pure (.float k (← choose q))) := by
  cases r with
  | some r => exact r_pure (.float _ _)
  | none => exact .choose fun n => .pure (.float _ _)
theorem r_floatArith (op : BinOp) (k : FloatKind) (x y : Nat) : SemR (G := G) (FS := FS) P (VQ G FS) B (Op.floatArith op k x y) (Op.floatArith op k x y) := by
  cases op <;> first | exact r_nan k _ _ | exact r_stuckBind _ _ _
theorem r_floatCmp (op : BinOp) (k : FloatKind) (x y : Nat) : SemR (G := G) (FS := FS) P (VQ G FS) B (Op.floatCmp op k x y) (Op.floatCmp op k x y) := by
  cases op <;> first | exact r_pure (.bool _) | exact r_stuck _ _
theorem r_stringOp (op : BinOp) (x y : ByteArray) : SemR (G := G) (FS := FS) P (VQ G FS) B (Op.stringOp op x y) (Op.stringOp op x y) := by
  cases op <;> first | exact r_pure (.bool _) | exact r_stuck _ _ | skip
  unfold Op.stringOp
  simp only
  split
  · exact r_unsupported _ _
  · exact r_pure (.string _)
theorem dead_unsafeAdd (t : TypeId) (y : Value) : Dead P (Builtin.unsafeAdd_ #[] t #[.pointer none, y]) := by
  unfold Builtin.unsafeAdd_
  refine dead_then (m_asInt _) fun n => ?_
  by_cases h0 : n = 0
  · simp only [h0, if_true]; exact dead_unsupported _
  · simp only [h0, if_false]
    by_cases h1 : n < 0
    · simp only [h1, if_true]; exact dead_bind (dead_unsupported _)
    · simp only [h1, if_false]; exact dead_unsupported _
theorem dead_movedNumber (t : TypeId) (y : Value) : Dead P (movedNumber t (.pointer none) y) := by
  unfold movedNumber
  refine dead_then (m_underlying _) fun d => ?_
  simp only
  split <;> first | exact dead_bind (dead_unsupported _) | exact dead_unsafeAdd _ _ | (rw [if_pos rfl]; exact dead_bind (dead_unsupported _)) | (rw [if_neg (by decide)]; exact dead_unsafeAdd _ _)
theorem r_movedPointer (t : TypeId) {a a' : Addr} (ha : AR G B a a') {y y' : Value} (hy : VR G FS B y y') : SemR (G := G) (FS := FS) P (VQ G FS) B (movedPointer t (.pointer (some a)) y) (movedPointer t (.pointer (some a')) y') := by
  unfold movedPointer
  refine rb_numberAt ha.block ?_ fun b b' l hb => deadb (dead_unsupported _)
  refine (r_unsafeAdd ha hy t).mono fun B v v' h => ?_
  obtain ⟨c, c', rfl, rfl, hc⟩ := h
  exact .ptr hc
theorem dead_twoPlaces (hG : P.globals.size ≤ G) {a : Addr} (ha : G ≤ a.block) (b : Addr) : Dead P (Op.twoPlaces a b) := by
  have : a.block ≥ P.globals.size := Nat.le_trans hG ha
  have key : ∀ w, (Op.twoPlaces a b).run P w = .halt (.unsupported .addressObserved) w := by
    intro w
    unfold Op.twoPlaces
    simp only [program, bind, Sem.bind, Sem.run, this, decide_true, Bool.or_true, if_true, unsupported]
  exact ⟨fun w x w' h => (by rw [key] at h; cases h), fun w x w' h => (by rw [key] at h; cases h; trivial)⟩
end
end Go.Proofs.Ytgeoffpcmkofkaa
/- Operations are matched: binOp. -/
namespace Go.Proofs.Ytgeoffpcmkofkaa
open Go

section
variable {G : Nat} {FS : FuncId → Prop} {P : Program} {α α' β β' : Type} {Q : BR → α → α' → Prop} {Q' : BR → β → β' → Prop} {B : BR}
theorem dead_deep {op : BinOp} (h1 : op ≠ .eql) (h2 : op ≠ .neq) (t : TypeId) {x y : Value} (h : Deep x ∨ Deep y) : Dead P (binOp op t x y) := by
  unfold binOp
  split <;> first | exact dead_stuck _ | exact dead_unsupported _ | (exfalso; rcases h with h | h <;> cases h; done) | exact absurd rfl h1 | exact absurd rfl h2
theorem dead_pp (hG : P.globals.size ≤ G) {op : BinOp} (h1 : op ≠ .eql) (h2 : op ≠ .neq) (t : TypeId) {a b a' b' : Addr} (ha : AR G B a a') (hb : AR G B b b') : SemR (G := G) (FS := FS) P (VQ G FS) B (binOp op t (.pointer (some a)) (.pointer (some b))) (binOp op t (.pointer (some a')) (.pointer (some b'))) := by
  cases op <;> first | exact absurd rfl h1 | exact absurd rfl h2 | exact r_unsupported _ _ | skip
  all_goals
    refine rb_behindNumber ha fun c c' l hc => ?_
    refine rb_behindNumber hb fun d d' l' hd => ?_
    exact .dead (dead_bind (dead_twoPlaces hG hc.low _))
theorem r_pi {op : BinOp} (h1 : op ≠ .eql) (h2 : op ≠ .neq) (t : TypeId) {a a' : Addr} (ha : AR G B a a') (k : IntKind) (n : Int) : SemR (G := G) (FS := FS) P (VQ G FS) B (binOp op t (.pointer (some a)) (.int k n)) (binOp op t (.pointer (some a')) (.int k n)) := by
  cases op <;> first | exact absurd rfl h1 | exact absurd rfl h2 | exact r_unsupported _ _ | exact r_movedNumber t ha (.int _ _) | exact rb_behindNumber ha fun c c' l hc => r_addrMod _ hc _ | skip
  refine rb_underlying fun d hd => ?_
  split
  · exact r_movedPointer t ha (.int _ _)
  · exact r_movedNumber t ha (.int _ _)
theorem r_ip {op : BinOp} (h1 : op ≠ .eql) (h2 : op ≠ .neq) (t : TypeId) {a a' : Addr} (ha : AR G B a a') (k : IntKind) (n : Int) : SemR (G := G) (FS := FS) P (VQ G FS) B (binOp op t (.int k n) (.pointer (some a))) (binOp op t (.int k n) (.pointer (some a'))) := by
  cases op <;> first | exact absurd rfl h1 | exact absurd rfl h2 | exact r_unsupported _ _ | exact r_movedNumber t ha (.int _ _) | exact rb_behindNumber ha fun c c' l hc => r_addrMod _ hc _
theorem dead_px {op : BinOp} (h1 : op ≠ .eql) (h2 : op ≠ .neq) (t : TypeId) (a : Addr) {y : Value} (hi : ∀ k n, y ≠ .int k n) (hp : ∀ b, y ≠ .pointer (some b)) : Dead P (binOp op t (.pointer (some a)) y) := by
  generalize hx : Value.pointer (some a) = x
  unfold binOp
  split <;> first | exact dead_stuck _ | exact dead_unsupported _ | exact absurd rfl h1 | exact absurd rfl h2 | exact absurd rfl (hi _ _) | exact absurd rfl (hp _) | cases hx
theorem dead_xp {op : BinOp} (h1 : op ≠ .eql) (h2 : op ≠ .neq) (t : TypeId) (a : Addr) {y : Value} (hi : ∀ k n, y ≠ .int k n) (hp : ∀ b, y ≠ .pointer (some b)) : Dead P (binOp op t y (.pointer (some a))) := by
  generalize hx : Value.pointer (some a) = x
  unfold binOp
  split <;> first | exact dead_stuck _ | exact dead_unsupported _ | exact absurd rfl h1 | exact absurd rfl h2 | exact absurd rfl (hi _ _) | exact absurd rfl (hp _) | cases hx
theorem dead_movedPointer (t : TypeId) (y : Value) : Dead P (movedPointer t (.pointer none) y) := by
  unfold movedPointer
  simp only
  exact dead_unsafeAdd _ _
theorem r_flat {op : BinOp} (h1 : op ≠ .eql) (h2 : op ≠ .neq) (t : TypeId) {x y : Value} (hx : VR G FS B x x) (hy : VR G FS B y y) (px : ∀ b, x ≠ .pointer (some b)) (py : ∀ b, y ≠ .pointer (some b)) : SemR (G := G) (FS := FS) P (VQ G FS) B (binOp op t x y) (binOp op t x y) := by
  unfold binOp
  split <;> first | exact r_stuck _ _ | exact r_unsupported _ _ | exact absurd rfl h1 | exact absurd rfl h2 | exact r_shift _ _ _ _ _ | exact r_stringOp _ _ _ | exact absurd rfl (px _) | exact absurd rfl (py _) | skip
  · split
    · exact r_stuck _ _
    · split <;> first | exact r_intArith _ _ _ _ | exact r_intDiv _ _ _ _ | exact r_intBits _ _ _ _ | exact r_intCmp _ _ _
  · split
    · exact r_stuck _ _
    · split <;> first | exact r_floatArith _ _ _ _ | exact r_floatCmp _ _ _ _
  · cases hx
  · cases hx with
    | ptr _ => exact absurd rfl (px _)
    | ptrNil =>
      refine rb_underlying fun d hd => ?_
      split <;> first | exact .dead (dead_movedPointer _ _) | exact .dead (dead_movedNumber _ _) | (rw [if_pos rfl]; exact .dead (dead_movedPointer _ _)) | (rw [if_neg (by decide)]; exact .dead (dead_movedNumber _ _))
  · cases hy with
    | ptr _ => exact absurd rfl (py _)
    | ptrNil => exact .dead (dead_movedNumber _ _)
  · cases hx with
    | ptr _ => exact absurd rfl (px _)
    | ptrNil => exact .dead (dead_movedNumber _ _)
theorem r_binOp (hG : P.globals.size ≤ G) {op : BinOp} (h1 : op ≠ .eql) (h2 : op ≠ .neq) (t : TypeId) {x x' y y' : Value} (hx : VR G FS B x x') (hy : VR G FS B y y') : SemR (G := G) (FS := FS) P (VQ G FS) B (binOp op t x y) (binOp op t x' y') := by
  rcases hx.kinds with ⟨rfl, vx, _, px⟩ | ⟨a, a', rfl, rfl, ha⟩ | dx
  · rcases hy.kinds with ⟨rfl, vy, _, py⟩ | ⟨b, b', rfl, rfl, hb⟩ | dy
    · exact r_flat h1 h2 t vx vy px py
    · by_cases hi : ∀ k n, x' ≠ .int k n
      · exact .dead (dead_xp h1 h2 t b hi px)
      · simp only [ne_eq, Classical.not_forall, Classical.not_not] at hi
        obtain ⟨k, n, rfl⟩ := hi
        exact r_ip h1 h2 t hb k n
    · exact .dead (dead_deep h1 h2 t (.inr dy))
  · rcases hy.kinds with ⟨rfl, vy, _, py⟩ | ⟨b, b', rfl, rfl, hb⟩ | dy
    · by_cases hi : ∀ k n, y' ≠ .int k n
      · exact .dead (dead_px h1 h2 t a hi py)
      · simp only [ne_eq, Classical.not_forall, Classical.not_not] at hi
        obtain ⟨k, n, rfl⟩ := hi
        exact r_pi h1 h2 t ha k n
    · exact dead_pp hG h1 h2 t ha hb
    · exact .dead (dead_deep h1 h2 t (.inr dy))
  · exact .dead (dead_deep h1 h2 t (.inl dx))

/-! ### Equality -/
theorem r_eqFloat {t : TypeId} {k : FloatKind} (ht : P.underlying t = some (.float k)) (d : Nat) {x x' y y' : Value} (hx : VR G FS B x x') (hy : VR G FS B y y') : SemR (G := G) (FS := FS) P EqQ B (Op.equalIn (d + 1) t x y) (Op.equalIn (d + 1) t x' y') := by
  unfold Op.equalIn
  refine rb_underlying fun e he => ?_
  obtain rfl : e = .float k := by rw [ht] at he; injection he with he; exact he.symm
  cases hx <;> first | exact r_stuck _ _ | skip
  cases hy <;> first | exact r_stuck _ _ | skip
  simp only
  split
  · exact r_pure rfl
  · exact r_stuck _ _
theorem r_eqSlice {t e : TypeId} (ht : P.underlying t = some (.slice e)) (d : Nat) {x x' y y' : Value} (hx : VR G FS B x x') (hy : VR G FS B y y') : SemR (G := G) (FS := FS) P EqQ B (Op.equalIn (d + 1) t x y) (Op.equalIn (d + 1) t x' y') := by
  unfold Op.equalIn
  refine rb_underlying fun f he => ?_
  obtain rfl : f = .slice e := by rw [ht] at he; injection he with he; exact he.symm
  cases hx <;> first | exact r_stuck _ _ | skip
  all_goals cases hy <;> first | exact r_stuck _ _ | exact r_pure rfl
theorem r_eqInt (hG : P.globals.size ≤ G) {t : TypeId} {k : IntKind} (ht : P.underlying t = some (.int k)) (hc : ∀ i u, P.info? t = some i → i.desc ≠ .named "sync.copyChecker" u) (d : Nat) {x x' y y' : Value} (hx : VR G FS B x x') (hy : VR G FS B y y') : SemR (G := G) (FS := FS) P EqQ B (Op.equalIn (d + 1) t x y) (Op.equalIn (d + 1) t x' y') := by
  unfold Op.equalIn
  refine rb_underlying fun f he => ?_
  obtain rfl : f = .int k := by rw [ht] at he; injection he with he; exact he.symm
  cases hx <;> first | exact r_stuck _ _ | skip
  all_goals cases hy <;> first | exact r_stuck _ _ | exact r_unsupported _ _ | exact r_pure rfl | skip
  · simp only
    split
    · exact r_pure rfl
    · exact r_stuck _ _
  · rename_i n _ _ _
    cases n with
    | ofNat m => cases m with
      | zero => exact r_pure rfl
      | succ m => exact r_unsupported _ _
    | negSucc m => exact r_unsupported _ _
  · rename_i n
    cases n with
    | ofNat m => cases m with
      | zero => exact r_pure rfl
      | succ m => exact r_unsupported _ _
    | negSucc m => exact r_unsupported _ _
  · rename_i ha _ _ hb
    simp only
    refine rb_behindNumber ha fun c c' l hc' => ?_
    refine rb_behindNumber hb fun e e' l' he' => ?_
    simp only
    refine rb_program ?_
    refine .dead ?_
    have h1 : ¬c.block < P.globals.size := by have := hc'.low; omega
    rw [if_neg (by simp [h1])]
    have hi' : ∀ w i w₁, (typeInfo t).run P w = .ok i w₁ → P.info? t = some i := by
      intro w i w₁ hi
      simp only [typeInfo, program, bind, Sem.bind, Sem.run] at hi
      cases h : P.info? t with
      | none => rw [h] at hi; simp [stuck] at hi
      | some j => rw [h] at hi; simp at hi; rw [hi.1]
    refine ⟨fun w v w' hr => ?_, m_bind (m_typeInfo t) fun i => ?_⟩
    · obtain ⟨i, w₁, hi, hr⟩ := run_bind hr
      split at hr
      · rename_i u hu
        exact absurd hu (hc i u (hi' _ _ _ hi))
      · simp [unsupported] at hr
    · split
      · split
        · exact m_pure _
        · exact m_unsupported _
      · exact m_unsupported _
end
end Go.Proofs.Ytgeoffpcmkofkaa
/- Operations are matched: equality as an operation, conversions, what is left. -/
namespace Go.Proofs.Ytgeoffpcmkofkaa
open Go

section
variable {G : Nat} {FS : FuncId → Prop} {P : Program} {α α' β β' : Type} {Q : BR → α → α' → Prop} {Q' : BR → β → β' → Prop} {B : BR}
/-- Numbers. -/
inductive EqS (P : Program) (t : TypeId) : Prop
  | int (k : IntKind) : P.underlying t = some (.int k) → (∀ i u, P.info? t = some i → i.desc ≠ .named "sync.copyChecker" u) → EqS P t
  | float (k : FloatKind) : P.underlying t = some (.float k) → EqS P t
theorem r_eqScal (hG : P.globals.size ≤ G) {t : TypeId} (h : EqS P t) (d : Nat) {x x' y y' : Value} (hx : VR G FS B x x') (hy : VR G FS B y y') : SemR (G := G) (FS := FS) P EqQ B (Op.equalIn (d + 1) t x y) (Op.equalIn (d + 1) t x' y') := by
  cases h with
  | int k h1 h2 => exact r_eqInt hG h1 h2 _ hx hy
  | float k h1 => exact r_eqFloat h1 _ hx hy
/-- Types whose values compare alike up to the numbers of blocks. -/
inductive EqT (P : Program) (t : TypeId) : Prop
  | int (k : IntKind) : P.underlying t = some (.int k) → (∀ i u, P.info? t = some i → i.desc ≠ .named "sync.copyChecker" u) → EqT P t
  | float (k : FloatKind) : P.underlying t = some (.float k) → EqT P t
  | slice (e : TypeId) : P.underlying t = some (.slice e) → EqT P t
  | two (f g : Field) : P.underlying t = some (.struct #[f, g]) → EqS P f.type → EqS P g.type → EqT P t
theorem r_eqTwo (hG : P.globals.size ≤ G) {t : TypeId} {f g : Field} (ht : P.underlying t = some (.struct #[f, g])) (hf : EqS P f.type) (hg : EqS P g.type) (d : Nat) {x x' y y' : Value} (hx : VR G FS B x x') (hy : VR G FS B y y') : SemR (G := G) (FS := FS) P EqQ B (Op.equalIn (d + 1 + 1) t x y) (Op.equalIn (d + 1 + 1) t x' y') := by
  unfold Op.equalIn
  refine rb_underlying fun e he => ?_
  obtain rfl : e = .struct #[f, g] := by rw [ht] at he; injection he with he; exact he.symm
  cases hx <;> first | exact r_stuck _ _ | skip
  cases hy <;> first | exact r_stuck _ _ | skip
  rename_i hx _ _ hy
  simp only
  refine rb_program ?_
  split
  · exact deadb (dead_unsupported _)
  · simp only [List.forIn_toArray, List.forIn_cons, List.forIn_nil]
    refine r_bind (Q := EqQ) (r_bind (Q := EqQ) ?_ fun B1 h1 a a' ha => ?_) fun B1 h1 a a' ha => ?_
    · split
      · refine r_bind (r_part _ hx _) fun B1 h1 v v' hv => ?_
        refine r_bind (r_part _ (hy.mono h1) _) fun B2 h2 u u' hu => ?_
        refine r_bind (r_eqScal hG hf _ (hv.mono h2) hu) fun B3 _ b b' hb => ?_
        obtain rfl : b' = b := hb
        cases b' <;> exact r_pure rfl
      · exact r_pure rfl
    · obtain rfl : a' = a := ha
      cases a' with
      | done b => exact r_pure rfl
      | yield b =>
        simp only
        refine r_bind (Q := EqQ) ?_ fun B2 h2 a a' ha => ?_
        · split
          · refine r_bind (r_part _ (hx.mono h1) _) fun B2 h2 v v' hv => ?_
            refine r_bind (r_part _ ((hy.mono h1).mono h2) _) fun B3 h3 u u' hu => ?_
            refine r_bind (r_eqScal hG hg _ (hv.mono h3) hu) fun B3 _ b b' hb => ?_
            obtain rfl : b' = b := hb
            cases b' <;> exact r_pure rfl
          · exact r_pure rfl
        · obtain rfl : a' = a := ha
          cases a' <;> exact r_pure rfl
    · obtain rfl : a' = a := ha
      split <;> exact r_pure rfl
theorem r_equal (hG : P.globals.size ≤ G) {t : TypeId} (ht : EqT P t) {x x' y y' : Value} (hx : VR G FS B x x') (hy : VR G FS B y y') : SemR (G := G) (FS := FS) P EqQ B (Op.equal t x y) (Op.equal t x' y') := by
  show SemR P EqQ B (Op.equalIn (9998 + 1 + 1) t x y) (Op.equalIn (9998 + 1 + 1) t x' y')
  cases ht with
  | int k h1 h2 => exact r_eqInt hG h1 h2 _ hx hy
  | float k h1 => exact r_eqFloat h1 _ hx hy
  | slice e h1 => exact r_eqSlice h1 _ hx hy
  | two f g h1 h2 h3 => exact r_eqTwo hG h1 h2 h3 _ hx hy
theorem r_binEq (hG : P.globals.size ≤ G) {op : BinOp} (ho : op = .eql ∨ op = .neq) {t : TypeId} (ht : EqT P t) {x x' y y' : Value} (hx : VR G FS B x x') (hy : VR G FS B y y') : SemR (G := G) (FS := FS) P (VQ G FS) B (binOp op t x y) (binOp op t x' y') := by
  have key : SemR (G := G) (FS := FS) P (VQ G FS) B (do pure (.bool (← Op.equal t x y))) (do pure (.bool (← Op.equal t x' y'))) := r_bind (r_equal hG ht hx hy) fun _ _ b b' hb => by obtain rfl : b' = b := hb; exact r_pure (.bool _)
  have key' : SemR (G := G) (FS := FS) P (VQ G FS) B (do pure (.bool (!(← Op.equal t x y)))) (do pure (.bool (!(← Op.equal t x' y')))) := r_bind (r_equal hG ht hx hy) fun _ _ b b' hb => by obtain rfl : b' = b := hb; exact r_pure (.bool _)
  rcases ho with rfl | rfl
  · cases hx <;> first | exact key | (cases hy <;> first | exact key | exact r_stringOp _ _ _ | skip)
    · unfold binOp
      simp only
      split
      · exact r_stuck _ _
      · exact r_intCmp _ _ _
    · unfold binOp
      simp only
      split
      · exact r_stuck _ _
      · exact r_floatCmp _ _ _ _
    · exact r_stringOp .eql _ _
  · cases hx <;> first | exact key' | (cases hy <;> first | exact key' | exact r_stringOp _ _ _ | skip)
    · unfold binOp
      simp only
      split
      · exact r_stuck _ _
      · exact r_intCmp _ _ _
    · unfold binOp
      simp only
      split
      · exact r_stuck _ _
      · exact r_floatCmp _ _ _ _
    · exact r_stringOp .neq _ _
theorem r_guardIn {t : TypeId} (ht : EqT P t) : SemR (G := G) (FS := FS) P (fun _ b b' => b = false ∧ b' = false) B (Op.eqGuardIn Op.maxDepth t .nilIface .nilIface) (Op.eqGuardIn Op.maxDepth t .nilIface .nilIface) := by
  show SemR P _ B (Op.eqGuardIn (9999 + 1) t .nilIface .nilIface) (Op.eqGuardIn (9999 + 1) t .nilIface .nilIface)
  unfold Op.eqGuardIn
  refine rb_underlying fun d hd => ?_
  cases ht with
  | int k h1 _ => rw [h1] at hd; injection hd with hd; subst hd; exact r_pure ⟨rfl, rfl⟩
  | float k h1 => rw [h1] at hd; injection hd with hd; subst hd; exact r_pure ⟨rfl, rfl⟩
  | slice e h1 => rw [h1] at hd; injection hd with hd; subst hd; exact r_pure ⟨rfl, rfl⟩
  | two f g h1 _ _ => rw [h1] at hd; injection hd with hd; subst hd; exact r_pure ⟨rfl, rfl⟩
theorem r_noGuard {op : BinOp} (h1 : op ≠ .eql) (h2 : op ≠ .neq) (t : TypeId) (o o' : Operand) (x x' y y' : Value) : SemR (G := G) (FS := FS) P EqQ B (eqGuard op t o o' x y) (eqGuard op t o o' x' y') := by
  cases op <;> first | exact absurd rfl h1 | exact absurd rfl h2 | exact r_pure (Q := EqQ) rfl
theorem r_eqGuard {op : BinOp} (ho : op = .eql ∨ op = .neq) {t : TypeId} (ht : EqT P t) (hg : P.eqGuardType P.depth t = false) (o o' : Operand) {x x' y y' : Value} (hx : VR G FS B x x') (hy : VR G FS B y y') : SemR (G := G) (FS := FS) P EqQ B (eqGuard op t o o' x y) (eqGuard op t o o' x' y') := by
  rcases ho with rfl | rfl
  all_goals
    cases hx <;> first | exact r_pure (Q := EqQ) rfl | (cases hy <;> first | exact r_pure (Q := EqQ) rfl | skip)
    · cases o <;> cases o' <;> first | exact r_pure (Q := EqQ) rfl | skip
      all_goals
        refine r_bind (r_guardIn ht) fun _ _ b b' hb => ?_
        rw [hb.1, hb.2]
        exact r_pure (Q := EqQ) rfl
    · refine rb_program (rb_program ?_)
      rw [hg]
      exact r_pure (Q := EqQ) rfl

theorem r_unary (op : UnOp) {x x' : Value} (hx : VR G FS B x x') : SemR (G := G) (FS := FS) P (VQ G FS) B (Op.unary op x) (Op.unary op x') := by
  cases op <;> cases hx <;> first | exact r_stuck _ _ | exact r_unsupported _ _ | exact r_pure (.int _ _) | exact r_pure (.float _ _) | exact r_pure (.bool _)
theorem r_floatToInt (s : FloatKind) (b : Nat) (k : IntKind) : SemR (G := G) (FS := FS) P (VQ G FS) B (Conv.floatToInt s b k) (Conv.floatToInt s b k) := by
  have any : ∀ (q : Question), SemR (G := G) (FS := FS) P (VQ G FS) B (do pure (.int k (k.wrap (← choose q)))) (do pure (.int k (k.wrap (← choose q)))) := fun q => .choose fun n => .pure (.int _ _)
  unfold Conv.floatToInt
  simp only
  split
  · split
    · exact r_pure (.int _ _)
    · exact any _
  · exact any _
theorem r_floatToFloat (s : FloatKind) (b : Nat) (k : FloatKind) : SemR (G := G) (FS := FS) P (VQ G FS) B (Conv.floatToFloat s b k) (Conv.floatToFloat s b k) := by
  have any : ∀ (q : Question), SemR (G := G) (FS := FS) P (VQ G FS) B (do pure (.float k (← choose q))) (do pure (.float k (← choose q))) := fun q => .choose fun n => .pure (.float _ _)
  unfold Conv.floatToFloat
  split
  · exact r_pure (.float _ _)
  · split
    · exact any _
    · exact r_pure (.float _ _)
    · simp only
      split
      · exact any _
      · exact r_pure (.float _ _)
/-- Conversions between numbers. -/
theorem r_convert {s d : TypeId} {ds dd : TypeDesc} (hs : P.underlying s = some ds) (hd : P.underlying d = some dd) (ks : (∃ k, ds = .int k) ∨ ∃ k, ds = .float k) (kd : (∃ k, dd = .int k) ∨ ∃ k, dd = .float k) {x x' : Value} (hx : VR G FS B x x') : SemR (G := G) (FS := FS) P (VQ G FS) B (convert s d x) (convert s d x') := by
  unfold convert
  refine rb_underlying fun e he => ?_
  obtain rfl : e = ds := by rw [hs] at he; injection he with he; exact he.symm
  refine rb_underlying fun e' he' => ?_
  obtain rfl : e' = dd := by rw [hd] at he'; injection he' with he'; exact he'.symm
  rcases ks with ⟨k, rfl⟩ | ⟨k, rfl⟩ <;> rcases kd with ⟨l, rfl⟩ | ⟨l, rfl⟩
  all_goals cases hx <;> first | exact r_unsupported _ _ | exact r_pure (.int _ _) | exact r_pure (.float _ _) | exact r_floatToInt _ _ _ | exact r_floatToFloat _ _ _
theorem r_makeInterface (t : TypeId) {x x' : Value} (hx : VR G FS B x x') : SemR (G := G) (FS := FS) P (VQ G FS) B (Instr.makeInterface t x) (Instr.makeInterface t x') := by
  unfold Instr.makeInterface
  refine rb_underlying fun d _ => ?_
  cases d <;> first | exact r_stuck _ _ | exact r_pure (.iface _ hx)
theorem r_index (t : TypeId) {x x' i i' : Value} (hx : VR G FS B x x') (hi : VR G FS B i i') : SemR (G := G) (FS := FS) P (VQ G FS) B (Instr.index t x i) (Instr.index t x' i') := by
  unfold Instr.index
  refine rb_asIntOf hi fun n => ?_
  obtain ⟨k, n⟩ := n
  refine rb_underlying fun d _ => ?_
  cases hx <;> first | (cases d <;> exact r_stuck _ _) | skip
  · cases d <;> first | exact r_stuck _ _ | skip
    simp only
    split
    · exact r_pure (.int _ _)
    · exact r_boundsPanic _ _ _ _ _
  · cases d <;> first | exact r_stuck _ _ | skip
    rename_i hc _ _ _
    simp only
    split
    · exact rb_sizeOf fun n => r_part _ hc _
    · exact r_boundsPanic _ _ _ _ _
theorem r_len (ts : Array TypeId) (t : TypeId) {vas vas' : Array Value} (ha : VRs G FS B vas.toList vas'.toList) : SemR (G := G) (FS := FS) P (VQ G FS) B (Builtin.len_ ts t vas) (Builtin.len_ ts t vas') := by
  unfold Builtin.len_
  cases h0 : ts[0]? with
  | none => exact r_stuck _ _
  | some sT =>
  cases h1 : vas[0]? with
  | none => exact r_stuck _ _
  | some x =>
  obtain ⟨x', e1, hx⟩ := VR.get ha h1
  rw [e1]
  simp only
  refine rb_underlying fun d _ => ?_
  cases d <;> first | exact r_stuck _ _ | exact r_pure (.int _ _) | skip
  case pointer arr =>
    simp only
    refine rb_underlying fun d _ => ?_
    cases d <;> first | exact r_stuck _ _ | exact r_pure (.int _ _)
  all_goals cases hx <;> first | exact r_stuck _ _ | exact r_pure (.int _ _)
theorem r_cap (ts : Array TypeId) (t : TypeId) {vas vas' : Array Value} (ha : VRs G FS B vas.toList vas'.toList) : SemR (G := G) (FS := FS) P (VQ G FS) B (Builtin.cap_ ts t vas) (Builtin.cap_ ts t vas') := by
  unfold Builtin.cap_
  cases h0 : ts[0]? with
  | none => exact r_stuck _ _
  | some sT =>
  cases h1 : vas[0]? with
  | none => exact r_stuck _ _
  | some x =>
  obtain ⟨x', e1, hx⟩ := VR.get ha h1
  rw [e1]
  simp only
  refine rb_underlying fun d _ => ?_
  cases d <;> first | exact r_stuck _ _ | exact r_pure (.int _ _) | skip
  case pointer arr =>
    simp only
    refine rb_underlying fun d _ => ?_
    cases d <;> first | exact r_stuck _ _ | exact r_pure (.int _ _)
  all_goals cases hx <;> first | exact r_stuck _ _ | exact r_pure (.int _ _)
theorem r_clear {ts : Array TypeId} (hz : ∀ t, ts[0]? = some t → SZ G FS P t) (t : TypeId) {vas vas' : Array Value} (ha : VRs G FS B vas.toList vas'.toList) : SemR (G := G) (FS := FS) P (VQ G FS) B (Builtin.clear_ ts t vas) (Builtin.clear_ ts t vas') := by
  unfold Builtin.clear_
  cases h0 : ts[0]? with
  | none => exact r_stuck _ _
  | some sT =>
  cases h1 : vas[0]? with
  | none => exact r_stuck _ _
  | some x =>
  obtain ⟨x', e1, hx⟩ := VR.get ha h1
  rw [e1]
  simp only
  refine rb_underlying fun d hd => ?_
  cases hx <;> first | exact r_pure (.tuple .nil) | (cases d <;> exact r_stuckBind _ _ _) | skip
  rename_i l c hx
  cases l with
  | zero => exact r_pure (.tuple .nil)
  | succ l =>
    cases d <;> first | exact r_stuckBind _ _ _ | skip
    simp only
    refine rb_zeroValue (hz sT h0 _ hd) fun v hv => ?_
    refine rb_storeCells ?_ 0 hx (zeroCells_rel hv.cells _)
    exact r_pure (VR.tuple VRs.nil)
end
end Go.Proofs.Ytgeoffpcmkofkaa
/- One operation is matched. -/
namespace Go.Proofs.Ytgeoffpcmkofkaa
open Go

section
variable (G : Nat) (FS : FuncId → Prop) (P : Program)
inductive NextR (B : BR) : Next → Next → Prop
  | value {v v' : Value} : VR G FS B v v' → NextR B (.value v) (.value v')
  | skip : NextR B .skip .skip
  | enter (f : FuncId) {vas vas' : Array Value} : FS f → VRs G FS B vas.toList vas'.toList → NextR B (.enter f vas) (.enter f vas')
structure OpenOK : Prop where
  glob : P.globals.size ≤ G
  funcs : ∀ f, FS f → ∀ fn, P.funcs[f]? = some fn → (fn.name == "runtime.NumGoroutine") = false ∧ (fn.body.isNone = false ∨ (fn.body.isNone = true ∧ Extern.findNext fn = none ∧ ∃ e, Extern.find fn = some e ∧ ∀ B vas vas', VRs G FS B vas.toList vas'.toList → SemR (G := G) (FS := FS) P (VQ G FS) B (e vas) (e vas')))
def OperOK : Operand → Prop
  | .tmp _ => True
  | .const v => ∀ B, VR G FS B v v
  | .global _ => False
  | .func f => FS f
def OptOK (o : Option Operand) : Prop := ∀ x, o = some x → OperOK G FS x
def NumT (t : TypeId) : Prop := ∃ d, P.underlying t = some d ∧ ((∃ k, d = .int k) ∨ ∃ k, d = .float k)
def OpTame : Op → Prop
  | .move x | .assign x | .box _ x | .load _ x | .nilCheck x | .unOp _ _ x | .makeInterface _ x | .extract x _ | .panic x => OperOK G FS x
  | .pick c a b => OperOK G FS c ∧ OperOK G FS a ∧ OperOK G FS b
  | .alloc e => ZT G FS P e
  | .buildSlice t _ ps => SZ G FS P t ∧ ∀ p ∈ ps.toList, OperOK G FS p.2
  | .makeSlice t a x => SZ G FS P t ∧ OperOK G FS a ∧ OperOK G FS x
  | .store _ a x | .indexAddr _ a x | .index _ a x => OperOK G FS a ∧ OperOK G FS x
  | .binOp op t x y _ => OperOK G FS x ∧ OperOK G FS y ∧ ((op ≠ .eql ∧ op ≠ .neq) ∨ ((op = .eql ∨ op = .neq) ∧ EqT P t ∧ P.eqGuardType P.depth t = false))
  | .convert s d x => OperOK G FS x ∧ NumT P s ∧ NumT P d
  | .slice t x lo hi mx => OperOK G FS x ∧ OptOK G FS lo ∧ OptOK G FS hi ∧ mx = none ∧ ∃ e, P.underlying t = some (.slice e)
  | .fieldAddr s x f => OperOK G FS x ∧ ∀ fields fl, P.underlying s = some (.struct fields) → fields[f]? = some fl → ∃ i, P.info? fl.type = some i ∧ i.size ≠ 0
  | .call c => (∀ o ∈ c.args.toList, OperOK G FS o) ∧ match c.callee with
    | .value f => OperOK G FS f
    | .builtin b => (b = .append ∧ ∀ t, c.argTypes[0]? = some t → SZ G FS P t) ∨ b = .cap ∨ b = .len ∨ (b = .clear ∧ ∀ t, c.argTypes[0]? = some t → SZ G FS P t)
    | .invoke .. => False
  | _ => False
end

section
variable {G : Nat} {FS : FuncId → Prop} {P : Program} {B : BR}
abbrev NQ (G : Nat) (FS : FuncId → Prop) : BR → Next → Next → Prop := fun B v v' => NextR G FS B v v'
theorem r_v {s s' : Sem Value} (h : SemR (G := G) (FS := FS) P (VQ G FS) B s s') : SemR (G := G) (FS := FS) P (NQ G FS) B (do pure (.value (← s))) (do pure (.value (← s'))) := r_bind h fun _ _ _ _ h => r_pure (.value h)
theorem r_u {s s' : Sem Unit} (h : SemR (G := G) (FS := FS) P EqQ B s s') : SemR (G := G) (FS := FS) P (NQ G FS) B (do s; pure .skip) (do s'; pure .skip) := r_bind h fun _ _ _ _ _ => r_pure .skip
theorem r_callFunc (H : OpenOK G FS P) {f : FuncId} (hf : FS f) {vas vas' : Array Value} (ha : VRs G FS B vas.toList vas'.toList) : SemR (G := G) (FS := FS) P (NQ G FS) B (callFunc f vas) (callFunc f vas') := by
  unfold callFunc
  refine rb_program ?_
  cases hfn : P.funcs[f]? with
  | none => exact r_stuck _ _
  | some fn =>
    obtain ⟨h1, h2⟩ := H.funcs f hf fn hfn
    simp only [h1, Bool.false_eq_true, if_false]
    rcases h2 with h2 | ⟨h2, h3, e, h4, h5⟩
    · simp only [h2, Bool.false_eq_true, if_false]
      exact r_pure (.enter f hf ha)
    · simp only [h2, if_true, h3, h4]
      exact r_bind (r_mark (.inr ⟨f, rfl⟩)) fun B1 b1 _ _ _ => r_v (h5 B1 _ _ (ha.mono b1))
theorem r_nilCheck {x x' : Value} (hx : VR G FS B x x') (ρ ρ' : Operand → Value) (o : Oper) (y : Operand) (ho : o.op = .nilCheck y) (h1 : ρ y = x) (h2 : ρ' y = x') : SemR (G := G) (FS := FS) P (NQ G FS) B (execOp ρ o) (execOp ρ' o) := by
  unfold execOp
  simp only [ho, h1, h2]
  cases hx <;> first | exact r_runtimePanic _ _ | (refine r_pure (.value ?_); constructor; assumption) | (refine r_pure (.value ?_); constructor)
theorem m_panicnil : MildT P Instr.panicnil := by
  refine m_bind (m_sys _) fun r => ?_
  split
  · exact m_bind m_program fun _ => m_pure _
  · exact m_stuck _
theorem dead_panic (v : Value) : Dead P (Instr.panic v) := by
  unfold Instr.panic
  split
  · exact dead_goPanic _
  · refine dead_then m_panicnil fun i => ?_
    split
    · exact dead_goPanic _
    · exact dead_runtimePanic _
  · exact dead_stuck _
theorem rho_list {ρ ρ' : Operand → Value} : ∀ (l : List Operand), (∀ o ∈ l, VR G FS B (ρ o) (ρ' o)) → VRs G FS B (l.map ρ) (l.map ρ')
  | [], _ => .nil
  | o :: l, h => .cons (h o (by simp)) (rho_list l fun x hx => h x (by simp [hx]))
theorem rho_pairs {ρ ρ' : Operand → Value} : ∀ (l : List (Nat × Operand)), (∀ o ∈ l, VR G FS B (ρ o.2) (ρ' o.2)) → PRs G FS B (l.map fun (i, x) => (i, ρ x)) (l.map fun (i, x) => (i, ρ' x))
  | [], _ => .nil
  | o :: l, h => .cons (h o (by simp)) (rho_pairs l fun x hx => h x (by simp [hx]))
theorem rho_opt {ρ ρ' : Operand → Value} (o : Option Operand) (h : ∀ x, o = some x → VR G FS B (ρ x) (ρ' x)) : OV G FS B (o.map ρ) (o.map ρ') := by
  cases o with
  | none => exact trivial
  | some x => exact h x rfl
theorem r_execOp (H : OpenOK G FS P) {ρ ρ' : Operand → Value} (hρ : ∀ x, OperOK G FS x → VR G FS B (ρ x) (ρ' x)) {o : Oper} (ho : OpTame G FS P o.op) : SemR (G := G) (FS := FS) P (NQ G FS) B (execOp ρ o) (execOp ρ' o) := by
  cases h : o.op <;> rw [h] at ho <;> (try exact ho.elim)
  case nilCheck x => exact r_nilCheck (hρ x ho) ρ ρ' o x h rfl rfl
  all_goals (unfold execOp; simp only [h])
  case move x => exact r_pure (.value (hρ x ho))
  case assign x => exact r_pure (.value (hρ x ho))
  case pick c a b =>
    refine r_bind (r_asBool (hρ c ho.1)) fun B1 h1 b b' hb => ?_
    obtain rfl : b' = b := hb
    cases b'
    · exact r_pure (.value ((hρ _ ho.2.2).mono h1))
    · exact r_pure (.value ((hρ _ ho.2.1).mono h1))
  case alloc e => exact r_v (r_alloc ho)
  case box e x => exact r_v (r_box e (hρ x ho))
  case buildSlice t l ps =>
    refine r_v (r_buildSlice ho.1 l ?_)
    simp only [Array.toList_map]
    exact rho_pairs _ fun p hp => hρ _ (ho.2 p hp)
  case load t a => exact r_v (r_loadAt t (hρ a ho))
  case store t a x => exact r_u (r_storeAt t (hρ a ho.1) (hρ x ho.2))
  case binOp op t x y u =>
    obtain ⟨hx, hy, hh⟩ := ho
    refine r_v ?_
    rcases hh with ⟨h1, h2⟩ | ⟨h1, h2, h3⟩
    · exact r_bind (r_noGuard h1 h2 t x y _ _ _ _) fun B1 b1 _ _ _ => r_binOp H.glob h1 h2 t ((hρ x hx).mono b1) ((hρ y hy).mono b1)
    · exact r_bind (r_eqGuard h1 h2 h3 x y (hρ x hx) (hρ y hy)) fun B1 b1 _ _ _ => r_binEq H.glob h1 h2 ((hρ x hx).mono b1) ((hρ y hy).mono b1)
  case unOp op t x => exact r_v (r_unary op (hρ x ho))
  case convert s d x =>
    obtain ⟨hx, ⟨ds, h1, h2⟩, ⟨dd, h3, h4⟩⟩ := ho
    exact r_v (r_convert h1 h3 h2 h4 (hρ x hx))
  case makeInterface t x => exact r_v (r_makeInterface t (hρ x ho))
  case makeSlice t a x => exact r_v (r_makeSlice ho.1 (hρ a ho.2.1) (hρ x ho.2.2))
  case slice t x lo hi mx =>
    obtain ⟨hx, hl, hh, rfl, e, he⟩ := ho
    exact r_v (r_sliceAt t he (hρ x hx) (rho_opt lo fun y hy => hρ y (hl y hy)) (rho_opt hi fun y hy => hρ y (hh y hy)))
  case fieldAddr s x f => exact r_v (r_fieldAt s (hρ x ho.1) f ho.2)
  case indexAddr t x i => exact r_v (r_indexAt t (hρ x ho.1) (hρ i ho.2))
  case index t x i => exact r_v (r_index t (hρ x ho.1) (hρ i ho.2))
  case extract x i => exact r_v (r_extract (hρ x ho) i)
  case panic x => exact .dead (dead_bind (dead_panic _))
  case call c =>
    have hargs : VRs G FS B (c.args.map ρ).toList (c.args.map ρ').toList := by
      simp only [Array.toList_map]
      exact rho_list _ fun p hp => hρ _ (ho.1 p hp)
    unfold resolve
    have ho2 := ho.2
    cases hc : c.callee with
    | invoke r n => rw [hc] at ho2; exact ho2.elim
    | builtin b =>
      rw [hc] at ho2
      simp only
      refine rb_pure ?_
      rcases ho2 with ⟨rfl, hz⟩ | rfl | rfl | ⟨rfl, hz⟩
      · exact r_v (r_append hz _ hargs)
      · exact r_v (r_cap _ _ hargs)
      · exact r_v (r_len _ _ hargs)
      · exact r_v (r_clear hz _ hargs)
    | value f =>
      rw [hc] at ho2
      simp only
      have hf := hρ f ho2
      revert hf
      generalize ρ f = v
      generalize ρ' f = v'
      intro hf
      cases hf <;> first | exact r_stuckBind _ _ _ | skip
      case nilFunc => exact r_runtimePanic .nilDeref _
      rename_i g hg
      refine rb_pure ?_
      refine r_callFunc H hg ?_
      simpa using hargs
end
end Go.Proofs.Ytgeoffpcmkofkaa
