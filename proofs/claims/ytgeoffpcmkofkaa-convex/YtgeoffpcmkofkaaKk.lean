/- A lone run reads of its tape no more than what it draws. -/
import Derived.Test.YtgeoffpcmkofkaaKj
namespace Go.Proofs.Ytgeoffpcmkofkaa
open Go

/-- The same world, another tape. -/
def on (w : World) (T : Nat → Question → Nat) : World := { w with tape := T }
section
variable {G : Nat} {FS : FuncId → Prop} {Sh : Nat → Prop} {P : Program} {α α' : Type} {Q : BR → α → α' → Prop}
structure RunOn (P : Program) (s : Sem α) (wl : World) (a : α) (wl' : World) : Prop where
  mono : wl.drawn ≤ wl'.drawn
  same : wl'.tape = wl.tape
  run : ∀ T, (∀ i q, wl.drawn ≤ i → i < wl'.drawn → T i q = wl.tape i q) → s.run P (on wl T) = .ok a (on wl' T)
theorem SemR.run_on {B : BR} {s : Sem α} {s' : Sem α'} (h : SemR (G := G) (FS := FS) P Q B s s') : ∀ {wl w : World} {a : α} {wl' : World}, WR G FS Sh B wl w → s.run P wl = .ok a wl' → RunOn P s wl a wl' := by
  induction h with
  | pure hq =>
    intro wl w a wl' hw hr
    simp only [Sem.run] at hr
    cases hr
    exact ⟨Nat.le_refl _, rfl, fun _ _ => rfl⟩
  | @load B a a' k k' ha _ ih =>
    intro wl w x wl' hw hr
    simp only [Sem.run] at hr
    cases hc : wl.cell? a with
    | none =>
      rw [hc] at hr
      simp only at hr
      have := (hw.far (P := P) ha (Mode.plain == .atomic)).1
      split at hr
      · rename_i hf; exact absurd hf (this _)
      · cases hr
    | some v =>
      rw [hc] at hr
      obtain ⟨v', hv', hvr⟩ := hw.cell ha hc
      have g := ih v v' hvr hw hr
      refine ⟨g.mono, g.same, fun T hT => ?_⟩
      have e : (on wl T).cell? a = some v := hc
      simp only [Sem.run, e]
      exact g.run T hT
  | @store B a a' v v' k k' ha hv _ ih =>
    intro wl w x wl' hw hr
    have key : ∀ (hag : ∀ cs, v ≠ .agg cs) (htu : ∀ cs, v ≠ .tuple cs), RunOn P (.store .plain a v k) wl x wl' := by
      intro hag htu
      have e1 : ∀ wl : World, (Sem.store .plain a v k).run P wl = match wl.cell? a with
          | some _ => if wl.frozen? a then .halt (.unsupported (.unsafePointer "a write to bytes that a string shares")) wl else k.run P (wl.setCell a v)
          | none => match wl.farStore P a v (Mode.plain == .atomic) with
            | .ok (w, _) => k.run P w
            | .error h => .halt h wl := by
        intro wl
        cases v <;> first | rfl | exact absurd rfl (hag _) | exact absurd rfl (htu _)
      rw [e1] at hr
      cases hc : wl.cell? a with
      | none =>
        rw [hc] at hr
        simp only at hr
        have := (hw.far (P := P) ha (Mode.plain == .atomic)).2 v
        split at hr
        · rename_i hf; exact absurd hf (this _)
        · cases hr
      | some u =>
        rw [hc] at hr
        simp only at hr
        by_cases hf : wl.frozen? a = true
        · rw [if_pos hf] at hr; cases hr
        · rw [if_neg hf] at hr
          have g := ih (hw.set ha hc hv) hr
          refine ⟨g.mono, g.same, fun T hT => ?_⟩
          rw [e1 (on wl T)]
          have hc' : (on wl T).cell? a = some u := hc
          rw [hc']
          simp only
          have hf' : ¬(on wl T).frozen? a = true := hf
          rw [if_neg hf']
          exact g.run T hT
    cases v with
    | agg cs => simp [Sem.run] at hr
    | tuple cs => simp [Sem.run] at hr
    | _ => exact key (fun _ h => by cases h) (fun _ h => by cases h)
  | @getNum B r r' k k' hb _ ih =>
    intro wl w x wl' hw hr
    obtain ⟨o, o', g1, g2, g3⟩ := hw.blk r r' hb
    simp only [Sem.run, g1] at hr
    cases g3 with
    | cells _ _ _ => simp at hr
    | @number a a' l ha hns =>
      simp only at hr
      have g := ih a a' l ha hw hr
      refine ⟨g.mono, g.same, fun T hT => ?_⟩
      have e : (on wl T).heap[r]? = some (.number a l) := g1
      simp only [Sem.run, e]
      exact g.run T hT
  | @newNum B a a' l k k' ha _ ih =>
    intro wl w x wl' hw hr
    simp only [Sem.run] at hr
    have g := ih wl.heap.size w.heap.size hw.glob (hw.new fun hs => .number ha hs) hr
    exact ⟨g.mono, g.same, fun T hT => g.run T hT⟩
  | @new B c c' e k k' hc _ ih =>
    intro wl w x wl' hw hr
    simp only [Sem.run] at hr
    have g := ih wl.heap.size w.heap.size hw.glob (hw.new fun hs => .cells hc (fun k => absurd k hs) fun _ => rfl) hr
    exact ⟨g.mono, g.same, fun T hT => g.run T hT⟩
  | @shape B r r' k k' hb _ ih =>
    intro wl w x wl' hw hr
    simp only [Sem.run] at hr
    have g := ih _ hw hr
    exact ⟨g.mono, g.same, fun T hT => g.run T hT⟩
  | @choose B q k k' _ ih =>
    intro wl w x wl' hw hr
    simp only [Sem.run] at hr
    by_cases hq : q.forced = true
    · rw [if_pos hq] at hr
      have g := ih _ hw hr
      refine ⟨g.mono, g.same, fun T hT => ?_⟩
      simp only [Sem.run, if_pos hq]
      exact g.run T hT
    · rw [if_neg hq] at hr
      have g := ih _ hw.draw hr
      have hm : wl.drawn + 1 ≤ wl'.drawn := g.mono
      refine ⟨by omega, g.same, fun T hT => ?_⟩
      simp only [Sem.run, if_neg hq]
      have e : (on wl T).tape (on wl T).drawn q = wl.tape wl.drawn q := hT wl.drawn q (Nat.le_refl _) (by omega)
      rw [e]
      exact g.run T fun i q h1 h2 => hT i q (by have : wl.drawn + 1 ≤ i := h1; omega) h2
  | program _ ih =>
    intro wl w x wl' hw hr
    simp only [Sem.run] at hr
    have g := ih hw hr
    exact ⟨g.mono, g.same, fun T hT => g.run T hT⟩
  | @mark B m k k' hm _ ih =>
    intro wl w x wl' hw hr
    simp only [Sem.run] at hr
    have g := ih hw hr
    exact ⟨g.mono, g.same, fun T hT => g.run T hT⟩
  | dead hd =>
    intro wl w x wl' hw hr
    exact absurd hr (hd.1 _ _ _)
theorem farLoad_mild {w : World} {a : Addr} {b : Bool} {h : Halt} (hr : w.farLoad P a b = .error h) : MildH h := by
  unfold World.farLoad at hr
  split at hr
  · split at hr
    · cases hr
    · injection hr with hr; subst hr; trivial
  · injection hr with hr
    subst hr
    unfold World.noCell
    split <;> trivial
theorem farStore_mild {w : World} {a : Addr} {v : Value} {b : Bool} {h : Halt} (hr : w.farStore P a v b = .error h) : MildH h := by
  unfold World.farStore at hr
  split at hr
  · split at hr
    · cases hr
    · injection hr with hr; subst hr; trivial
  · injection hr with hr
    subst hr
    unfold World.noCell
    split <;> trivial
theorem SemR.halts {B : BR} {s : Sem α} {s' : Sem α'} (h : SemR (G := G) (FS := FS) P Q B s s') : ∀ {wl w : World} {x : Halt} {wl' : World}, WR G FS Sh B wl w → s.run P wl = .halt x wl' → MildH x := by
  induction h with
  | pure hq => intro wl w x wl' hw hr; cases hr
  | @load B a a' k k' ha _ ih =>
    intro wl w x wl' hw hr
    simp only [Sem.run] at hr
    cases hc : wl.cell? a with
    | none =>
      rw [hc] at hr
      simp only at hr
      have := (hw.far (P := P) ha (Mode.plain == .atomic)).1
      split at hr
      · rename_i hf; exact absurd hf (this _)
      · rename_i hf
        injection hr with hr _
        subst hr
        exact farLoad_mild hf
    | some v =>
      rw [hc] at hr
      obtain ⟨v', hv', hvr⟩ := hw.cell ha hc
      exact ih v v' hvr hw hr
  | @store B a a' v v' k k' ha hv _ ih =>
    intro wl w x wl' hw hr
    have key : ∀ (hag : ∀ cs, v ≠ .agg cs) (htu : ∀ cs, v ≠ .tuple cs), MildH x := by
      intro hag htu
      have e1 : ∀ wl : World, (Sem.store .plain a v k).run P wl = match wl.cell? a with
          | some _ => if wl.frozen? a then .halt (.unsupported (.unsafePointer "a write to bytes that a string shares")) wl else k.run P (wl.setCell a v)
          | none => match wl.farStore P a v (Mode.plain == .atomic) with
            | .ok (w, _) => k.run P w
            | .error h => .halt h wl := by
        intro wl
        cases v <;> first | rfl | exact absurd rfl (hag _) | exact absurd rfl (htu _)
      rw [e1] at hr
      cases hc : wl.cell? a with
      | none =>
        rw [hc] at hr
        simp only at hr
        have := (hw.far (P := P) ha (Mode.plain == .atomic)).2 v
        split at hr
        · rename_i hf; exact absurd hf (this _)
        · rename_i hf
          injection hr with hr _
          subst hr
          exact farStore_mild hf
      | some u =>
        rw [hc] at hr
        simp only at hr
        by_cases hf : wl.frozen? a = true
        · rw [if_pos hf] at hr
          injection hr with hr _
          subst hr
          trivial
        · rw [if_neg hf] at hr
          exact ih (hw.set ha hc hv) hr
    cases v with
    | agg cs => simp [Sem.run] at hr; rw [← hr.1]; trivial
    | tuple cs => simp [Sem.run] at hr; rw [← hr.1]; trivial
    | _ => exact key (fun _ h => by cases h) (fun _ h => by cases h)
  | @getNum B r r' k k' hb _ ih =>
    intro wl w x wl' hw hr
    obtain ⟨o, o', g1, g2, g3⟩ := hw.blk r r' hb
    simp only [Sem.run, g1] at hr
    cases g3 with
    | cells _ _ _ => simp only at hr; injection hr with hr _; subst hr; trivial
    | @number a a' l ha hns => exact ih a a' l ha hw hr
  | @newNum B a a' l k k' ha _ ih =>
    intro wl w x wl' hw hr
    exact ih wl.heap.size w.heap.size hw.glob (hw.new fun hs => .number ha hs) hr
  | @new B c c' e k k' hc _ ih =>
    intro wl w x wl' hw hr
    exact ih wl.heap.size w.heap.size hw.glob (hw.new fun hs => .cells hc (fun k => absurd k hs) fun _ => rfl) hr
  | @shape B r r' k k' hb _ ih =>
    intro wl w x wl' hw hr
    exact ih _ hw hr
  | @choose B q k k' _ ih =>
    intro wl w x wl' hw hr
    simp only [Sem.run] at hr
    by_cases hq : q.forced = true
    · rw [if_pos hq] at hr
      exact ih _ hw hr
    · rw [if_neg hq] at hr
      exact ih _ hw.draw hr
  | program _ ih => intro wl w x wl' hw hr; exact ih hw hr
  | @mark B m k k' hm _ ih => intro wl w x wl' hw hr; exact ih hw hr
  | dead hd => intro wl w x wl' hw hr; exact hd.2 _ _ _ hr
end
end Go.Proofs.Ytgeoffpcmkofkaa
