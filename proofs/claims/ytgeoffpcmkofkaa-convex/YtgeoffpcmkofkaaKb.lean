/- A run of the lone piece is matched by one of the other. -/
import Derived.Test.YtgeoffpcmkofkaaKa
import Derived.Below
namespace Go.Proofs.Ytgeoffpcmkofkaa
open Go

section
variable {G : Nat} {FS : FuncId → Prop} {Sh : Nat → Prop} {B : BR} {wl w : World}
theorem heap_set_same {w : World} {a : Addr} {v : Value} {c : Array Value} {e : TypeId} {fr : Nat × Nat} (h : w.heap[a.block]? = some (.cells c e fr)) (hs : a.spot = none) : (w.setCell a v).heap[a.block]? = some (.cells (c.setIfInBounds a.off v) e fr) := by
  obtain ⟨hlt, hk⟩ := Array.getElem?_eq_some_iff.1 h
  show (w.heap.modify a.block _)[a.block]? = _
  rw [Array.getElem?_eq_getElem (by rw [Array.size_modify]; exact hlt), Array.getElem_modify_self, hk]
  simp [hs]
theorem heap_set_other {w : World} {a : Addr} {v : Value} {r : Nat} (h : r ≠ a.block) : (w.setCell a v).heap[r]? = w.heap[r]? := by
  exact Go.RowKit.Below.heap_setCell w a v r h
theorem heap_set_size (w : World) (a : Addr) (v : Value) : (w.setCell a v).heap.size = w.heap.size := by simp [World.setCell]

theorem WR.not_shared (h : WR G FS Sh B wl w) {a a' : Addr} (ha : AR G B a a') {v : Value} (hv : wl.cell? a = some v) (hf : wl.frozen? a = false) : ¬Sh a.block := by
  intro hs
  obtain ⟨c, e, fr, k1, k2, k3⟩ := cell_block hv
  obtain ⟨c', h2, h3, h4, _⟩ := h.cells ha.block k1
  have := h4 hs
  subst this
  have hlt : a.off < c.size := (Array.getElem?_eq_some_iff.1 k3).1
  simp [World.frozen?, k1, hlt] at hf
theorem WR.frozen (h : WR G FS Sh B wl w) {a a' : Addr} (ha : AR G B a a') : w.frozen? a' = false := by
  obtain ⟨o, o', h1, h2, h3⟩ := h.blk _ _ ha.block
  cases h3 <;> simp [World.frozen?, h2]
theorem WR.set (h : WR G FS Sh B wl w) {a a' : Addr} (ha : AR G B a a') {v v' u : Value} (hu : wl.cell? a = some u) (hv : VR G FS B v v') : WR G FS Sh B (wl.setCell a v) (w.setCell a' v') := by
  obtain ⟨c1, e1, fr1, k1, k2, k3⟩ := cell_block hu
  refine ⟨fun r r' hb => ?_, h.fn, h.inj, fun r hs => by rw [heap_set_size]; exact h.low r hs, by rw [heap_set_size]; exact h.glob, h.tape⟩
  by_cases hr : r = a.block
  · subst hr
    have hr' : r' = a'.block := h.fn _ _ _ hb ha.block
    subst hr'
    obtain ⟨c', h2, h3, h4, h5⟩ := h.cells hb k1
    refine ⟨_, _, heap_set_same k1 k2, heap_set_same h2 (by rw [ha.spot, k2]), .cells ?_ (fun hs => by rw [Array.size_setIfInBounds]; exact h4 hs) h5⟩
    rw [Array.toList_setIfInBounds, Array.toList_setIfInBounds, ha.off]
    exact h3.set _ hv
  · have hr' : r' ≠ a'.block := fun e => hr (h.inj _ _ _ (e ▸ hb) ha.block)
    obtain ⟨o, o', h1, h2, h3⟩ := h.blk r r' hb
    exact ⟨o, o', (heap_set_other hr).trans h1, (heap_set_other hr').trans h2, h3⟩
theorem did_set {w : World} {a a' : Addr} (ha : AR G B a a') (hs : ¬Sh a.block) (v' : Value) : Did Sh B B w (w.setCell a' v') := by
  refine ⟨rfl, rfl, rfl, by rw [heap_set_size]; exact Nat.le_refl _, fun r' hr k => heap_set_other fun e => hs ?_, Sub.refl _, fun _ _ hb => .inl hb⟩
  subst e
  exact k _ ha.block
theorem WR.lt (h : WR G FS Sh B wl w) {r r' : Nat} (hb : B r r') : r < wl.heap.size ∧ r' < w.heap.size := by
  obtain ⟨o, o', h1, h2, _⟩ := h.blk _ _ hb
  exact ⟨(Array.getElem?_eq_some_iff.1 h1).1, (Array.getElem?_eq_some_iff.1 h2).1⟩
theorem WR.new (h : WR G FS Sh B wl w) {o o' : Obj} (hc : ¬Sh wl.heap.size → ObR G FS Sh B wl.heap.size o o') : WR G FS Sh (ext B wl.heap.size w.heap.size) { wl with heap := wl.heap.push o } { w with heap := w.heap.push o' } := by
  have lt : ∀ {r r'}, B r r' → r < wl.heap.size ∧ r' < w.heap.size := fun hb => h.lt hb
  refine ⟨fun r r' hb => ?_, fun r r' q' h1 h2 => ?_, fun r q r' h1 h2 => ?_, fun r hs => by have := h.low r hs; simp; omega, by have := h.glob; simp; omega, h.tape⟩
  · rcases hb with hb | ⟨rfl, rfl⟩
    · obtain ⟨o1, o1', h1, h2, h3⟩ := h.blk r r' hb
      have := lt hb
      refine ⟨o1, o1', ?_, ?_, h3.mono (Sub.ext _ _ _)⟩
      · show (wl.heap.push _)[r]? = _
        rw [Array.getElem?_push_lt this.1, ← Array.getElem?_eq_getElem this.1]; exact h1
      · show (w.heap.push _)[r']? = _
        rw [Array.getElem?_push_lt this.2, ← Array.getElem?_eq_getElem this.2]; exact h2
    · exact ⟨o, o', by simp, by simp, (hc fun hs => absurd (h.low _ hs) (Nat.lt_irrefl _)).mono (Sub.ext _ _ _)⟩
  · rcases h1 with h1 | ⟨h1, h1'⟩ <;> rcases h2 with h2 | ⟨h2, h2'⟩
    · exact h.fn _ _ _ h1 h2
    · have := (lt h1).1; omega
    · have := (lt h2).1; omega
    · rw [h1', h2']
  · rcases h1 with h1 | ⟨h1, h1'⟩ <;> rcases h2 with h2 | ⟨h2, h2'⟩
    · exact h.inj _ _ _ h1 h2
    · have := (lt h1).2; omega
    · have := (lt h2).2; omega
    · rw [h1, h2]
theorem did_new (h : WR G FS Sh B wl w) (o : Obj) : Did Sh B (ext B wl.heap.size w.heap.size) w { w with heap := w.heap.push o } := by
  refine ⟨rfl, rfl, rfl, by simp, fun r' hr _ => ?_, Sub.ext _ _ _, fun r r' hb => ?_⟩
  · show (w.heap.push o)[r']? = _
    rw [Array.getElem?_push_lt hr, ← Array.getElem?_eq_getElem hr]
  · rcases hb with hb | ⟨rfl, rfl⟩
    · exact .inl hb
    · exact .inr ⟨Nat.le_refl _, by simp, fun hs => absurd (h.low _ hs) (Nat.lt_irrefl _)⟩
theorem WR.shape (h : WR G FS Sh B wl w) {r r' : Nat} (hb : B r r') : w.shape? r' = wl.shape? r := by
  obtain ⟨o, o', h1, h2, h3⟩ := h.blk r r' hb
  cases h3 with
  | cells k1 _ _ =>
    simp only [World.shape?, h1, h2]
    have := k1.length
    simp only [Array.length_toList] at this
    rw [this]
  | number _ _ => simp only [World.shape?, h1, h2]
theorem WR.draw (h : WR G FS Sh B wl w) : WR G FS Sh B { wl with drawn := wl.drawn + 1 } { w with drawn := w.drawn + 1 } :=
  ⟨h.blk, h.fn, h.inj, h.low, h.glob, fun i q => by have := h.tape (1 + i) q; simpa [Nat.add_assoc] using this⟩
end

section
variable {G : Nat} {FS : FuncId → Prop} {Sh : Nat → Prop} {P : Program} {α α' : Type} {Q : BR → α → α' → Prop}
/-- What the other run comes to. -/
def Comes' (G : Nat) (FS : FuncId → Prop) (Sh : Nat → Prop) (P : Program) (Q : BR → α → α' → Prop) (B : BR) (s' : Sem α') (w : World) (es : Array Event) (a : α) (wl' : World) : Prop :=
  ∃ B' a' w' es', s'.runT P w es = (.ok a' w', es') ∧ Q B' a a' ∧ WR G FS Sh B' wl' w' ∧ Did Sh B B' w w' ∧ ∀ e ∈ es', e ∈ es ∨ EvOK Sh B' e

theorem SemR.run {B : BR} {s : Sem α} {s' : Sem α'} (h : SemR (G := G) (FS := FS) P Q B s s') : ∀ {wl w : World} {a : α} {wl' : World} (es : Array Event), WR G FS Sh B wl w → s.run P wl = .ok a wl' → Comes' G FS Sh P Q B s' w es a wl' := by
  induction h with
  | pure hq =>
    intro wl w a wl' es hw hr
    simp only [Sem.run] at hr
    cases hr
    exact ⟨_, _, w, es, rfl, hq, hw, Did.refl _ _, fun e he => .inl he⟩
  | @load B a a' k k' ha _ ih =>
    intro wl w x wl' es hw hr
    simp only [Sem.run] at hr
    cases hc : wl.cell? a with
    | none =>
      rw [hc] at hr
      simp only at hr
      have := (hw.far (P := P) ha (Mode.plain == .atomic)).1
      split at hr
      · rename_i hf; exact absurd hf (this _)
      · cases hr
    | some v =>
      rw [hc] at hr
      obtain ⟨v', hv', hvr⟩ := hw.cell ha hc
      obtain ⟨B', a2, w', es', h1, h2, h3, h4, h5⟩ := ih v v' hvr (es.push ⟨.cell a', false, false⟩) hw hr
      refine ⟨B', a2, w', es', ?_, h2, h3, h4, fun e he => ?_⟩
      · simp only [Sem.runT, hv']
        exact h1
      · rcases h5 e he with q | q
        · rcases Array.mem_push.1 q with q | q
          · exact .inl q
          · exact .inr (.inl ⟨a', q, _, h4.sub _ _ ha.block⟩)
        · exact .inr q
  | @store B a a' v v' k k' ha hv _ ih =>
    intro wl w x wl' es hw hr
    have key : ∀ (hag : ∀ cs, v ≠ .agg cs) (htu : ∀ cs, v ≠ .tuple cs), Comes' G FS Sh P Q B (.store .plain a' v' k') w es x wl' := by
      intro hag htu
      have e1 : (Sem.store .plain a v k).run P wl = match wl.cell? a with
          | some _ => if wl.frozen? a then .halt (.unsupported (.unsafePointer "a write to bytes that a string shares")) wl else k.run P (wl.setCell a v)
          | none => match wl.farStore P a v (Mode.plain == .atomic) with
            | .ok (w, _) => k.run P w
            | .error h => .halt h wl := by
        cases v <;> first | rfl | exact absurd rfl (hag _) | exact absurd rfl (htu _)
      have e2 : (Sem.store .plain a' v' k').runT P w es = match w.cell? a' with
          | some _ =>
            if w.frozen? a' then (.halt (.unsupported (.unsafePointer "a write to bytes that a string shares")) w, es)
            else k'.runT P (w.setCell a' v') (es.push ⟨.cell a', true, Mode.plain == .atomic⟩)
          | none => match w.farStore P a' v' (Mode.plain == .atomic) with
            | .ok (w, touched) => k'.runT P w (es ++ touched.toArray.map (⟨.cell ·, true, Mode.plain == .atomic⟩))
            | .error h => (.halt h w, es) := by
        cases hv <;> first | rfl | exact absurd rfl (hag _) | exact absurd rfl (htu _)
      rw [e1] at hr
      cases hc : wl.cell? a with
      | none =>
        rw [hc] at hr
        simp only at hr
        have := (hw.far (P := P) ha (Mode.plain == .atomic)).2 v
        split at hr
        · rename_i hf; exact absurd hf (this _)
        · cases hr
      | some u =>
        rw [hc] at hr
        simp only at hr
        by_cases hf : wl.frozen? a = true
        · rw [if_pos hf] at hr; cases hr
        · rw [if_neg hf] at hr
          obtain ⟨u', hu', _⟩ := hw.cell ha hc
          have hns := hw.not_shared ha hc (by simpa using hf)
          obtain ⟨B', a2, w', es', h1, h2, h3, h4, h5⟩ := ih (es.push ⟨.cell a', true, false⟩) (hw.set ha hc hv) hr
          refine ⟨B', a2, w', es', ?_, h2, h3, (did_set ha hns v').trans h4, fun e he => ?_⟩
          · rw [e2, hu']
            simp only [hw.frozen ha]
            exact h1
          · rcases h5 e he with q | q
            · rcases Array.mem_push.1 q with q | q
              · exact .inl q
              · exact .inr (.inr (.inl ⟨a', q, _, h4.sub _ _ ha.block, hns⟩))
            · exact .inr q
    cases v with
    | agg cs => simp [Sem.run] at hr
    | tuple cs => simp [Sem.run] at hr
    | _ => exact key (fun _ h => by cases h) (fun _ h => by cases h)
  | @getNum B r r' k k' hb _ ih =>
    intro wl w x wl' es hw hr
    obtain ⟨o, o', g1, g2, g3⟩ := hw.blk r r' hb
    simp only [Sem.run, g1] at hr
    cases g3 with
    | cells _ _ _ => simp at hr
    | @number a a' l ha hns =>
      simp only at hr
      obtain ⟨B', a2, w', es', h1, h2, h3, h4, h5⟩ := ih a a' l ha (es.push ⟨.obj r', false, false⟩) hw hr
      refine ⟨B', a2, w', es', ?_, h2, h3, h4, fun e he => ?_⟩
      · simp only [Sem.runT, g2]
        exact h1
      · rcases h5 e he with q | q
        · rcases Array.mem_push.1 q with q | q
          · exact .inl q
          · exact .inr (.inr (.inr (.inr ⟨r', q, r, h4.sub _ _ hb, hns⟩)))
        · exact .inr q
  | @newNum B a a' l k k' ha _ ih =>
    intro wl w x wl' es hw hr
    simp only [Sem.run] at hr
    obtain ⟨B', a2, w', es', h1, h2, h3, h4, h5⟩ := ih wl.heap.size w.heap.size hw.glob es (hw.new fun hs => .number ha hs) hr
    refine ⟨B', a2, w', es', ?_, h2, h3, (did_new hw _).trans h4, h5⟩
    simp only [Sem.runT]
    exact h1
  | @new B c c' e k k' hc _ ih =>
    intro wl w x wl' es hw hr
    simp only [Sem.run] at hr
    obtain ⟨B', a2, w', es', h1, h2, h3, h4, h5⟩ := ih wl.heap.size w.heap.size hw.glob es (hw.new fun hs => .cells hc (fun k => absurd k hs) fun _ => rfl) hr
    refine ⟨B', a2, w', es', ?_, h2, h3, (did_new hw _).trans h4, h5⟩
    simp only [Sem.runT]
    exact h1
  | @shape B r r' k k' hb _ ih =>
    intro wl w x wl' es hw hr
    simp only [Sem.run] at hr
    obtain ⟨B', a2, w', es', h1, h2, h3, h4, h5⟩ := ih _ es hw hr
    refine ⟨B', a2, w', es', ?_, h2, h3, h4, h5⟩
    simp only [Sem.runT, hw.shape hb]
    exact h1
  | @choose B q k k' _ ih =>
    intro wl w x wl' es hw hr
    simp only [Sem.run] at hr
    by_cases hq : q.forced = true
    · rw [if_pos hq] at hr
      obtain ⟨B', a2, w', es', h1, h2, h3, h4, h5⟩ := ih _ es hw hr
      refine ⟨B', a2, w', es', ?_, h2, h3, h4, h5⟩
      simp only [Sem.runT, if_pos hq]
      exact h1
    · rw [if_neg hq] at hr
      have ht := hw.tape 0 q
      simp only [Nat.add_zero] at ht
      rw [ht] at hr
      obtain ⟨B', a2, w', es', h1, h2, h3, h4, h5⟩ := ih _ es hw.draw hr
      refine ⟨B', a2, w', es', ?_, h2, h3, ⟨h4.os, h4.tape, h4.output, h4.size, h4.kept, h4.sub, h4.new⟩, h5⟩
      simp only [Sem.runT, if_neg hq]
      exact h1
  | program _ ih =>
    intro wl w x wl' es hw hr
    simp only [Sem.run] at hr
    obtain ⟨B', a2, w', es', h1, h2, h3, h4, h5⟩ := ih es hw hr
    exact ⟨B', a2, w', es', by simp only [Sem.runT]; exact h1, h2, h3, h4, h5⟩
  | @mark B m k k' hm _ ih =>
    intro wl w x wl' es hw hr
    simp only [Sem.run] at hr
    obtain ⟨B', a2, w', es', h1, h2, h3, h4, h5⟩ := ih (es.push ⟨.mark m, false, true⟩) hw hr
    refine ⟨B', a2, w', es', by simp only [Sem.runT]; exact h1, h2, h3, h4, fun e he => ?_⟩
    rcases h5 e he with q | q
    · rcases Array.mem_push.1 q with q | q
      · exact .inl q
      · exact .inr (.inr (.inr (.inl ⟨m, q, hm⟩)))
    · exact .inr q
  | dead hd =>
    intro wl w x wl' es _ hr
    exact absurd hr (hd.1 _ _ _)
end
end Go.Proofs.Ytgeoffpcmkofkaa
