/- Kj; Kk; Kl; Km; Kn; Ko: texts laid into one. -/
import Derived.Test.YtgeoffpcmkofkaaQai
/- One operation is matched. -/
namespace Go.Proofs.Ytgeoffpcmkofkaa
open Go

section
variable (G : Nat) (FS : FuncId → Prop) (P : Program)
inductive NextR (B : BR) : Next → Next → Prop
  | value {v v' : Value} : VR G FS B v v' → NextR B (.value v) (.value v')
  | skip : NextR B .skip .skip
  | enter (f : FuncId) {vas vas' : Array Value} : FS f → VRs G FS B vas.toList vas'.toList → NextR B (.enter f vas) (.enter f vas')
structure OpenOK : Prop where
  glob : P.globals.size ≤ G
  funcs : ∀ f, FS f → ∀ fn, P.funcs[f]? = some fn → (fn.name == "runtime.NumGoroutine") = false ∧ (fn.body.isNone = false ∨ (fn.body.isNone = true ∧ Extern.findNext fn = none ∧ ∃ e, Extern.find fn = some e ∧ ∀ B vas vas', VRs G FS B vas.toList vas'.toList → SemR (G := G) (FS := FS) P (VQ G FS) B (e vas) (e vas')))
def OperOK : Operand → Prop
  | .tmp _ => True
  | .const v => ∀ B, VR G FS B v v
  | .global _ => False
  | .func f => FS f
def OptOK (o : Option Operand) : Prop := ∀ x, o = some x → OperOK G FS x
def NumT (t : TypeId) : Prop := ∃ d, P.underlying t = some d ∧ ((∃ k, d = .int k) ∨ ∃ k, d = .float k)
def OpTame : Op → Prop
  | .move x | .assign x | .box _ x | .load _ x | .nilCheck x | .unOp _ _ x | .makeInterface _ x | .extract x _ | .panic x => OperOK G FS x
  | .pick c a b => OperOK G FS c ∧ OperOK G FS a ∧ OperOK G FS b
  | .alloc e => ZT G FS P e
  | .buildSlice t _ ps => SZ G FS P t ∧ ∀ p ∈ ps.toList, OperOK G FS p.2
  | .makeSlice t a x => SZ G FS P t ∧ OperOK G FS a ∧ OperOK G FS x
  | .store _ a x | .indexAddr _ a x | .index _ a x => OperOK G FS a ∧ OperOK G FS x
  | .binOp op t x y _ => OperOK G FS x ∧ OperOK G FS y ∧ ((op ≠ .eql ∧ op ≠ .neq) ∨ ((op = .eql ∨ op = .neq) ∧ EqT P t ∧ P.eqGuardType P.depth t = false))
  | .convert s d x => OperOK G FS x ∧ NumT P s ∧ NumT P d
  | .slice t x lo hi mx => OperOK G FS x ∧ OptOK G FS lo ∧ OptOK G FS hi ∧ mx = none ∧ ∃ e, P.underlying t = some (.slice e)
  | .fieldAddr s x f => OperOK G FS x ∧ ∀ fields fl, P.underlying s = some (.struct fields) → fields[f]? = some fl → ∃ i, P.info? fl.type = some i ∧ i.size ≠ 0
  | .call c => (∀ o ∈ c.args.toList, OperOK G FS o) ∧ match c.callee with
    | .value f => OperOK G FS f
    | .builtin b => (b = .append ∧ ∀ t, c.argTypes[0]? = some t → SZ G FS P t) ∨ b = .cap ∨ b = .len ∨ (b = .clear ∧ ∀ t, c.argTypes[0]? = some t → SZ G FS P t)
    | .invoke .. => False
  | _ => False
end

section
variable {G : Nat} {FS : FuncId → Prop} {P : Program} {B : BR}
abbrev NQ (G : Nat) (FS : FuncId → Prop) : BR → Next → Next → Prop := fun B v v' => NextR G FS B v v'
theorem r_v {s s' : Sem Value} (h : SemR (G := G) (FS := FS) P (VQ G FS) B s s') : SemR (G := G) (FS := FS) P (NQ G FS) B (do pure (.value (← s))) (do pure (.value (← s'))) := r_bind h fun _ _ _ _ h => r_pure (.value h)
theorem r_u {s s' : Sem Unit} (h : SemR (G := G) (FS := FS) P EqQ B s s') : SemR (G := G) (FS := FS) P (NQ G FS) B (do s; pure .skip) (do s'; pure .skip) := r_bind h fun _ _ _ _ _ => r_pure .skip
theorem r_callFunc (H : OpenOK G FS P) {f : FuncId} (hf : FS f) {vas vas' : Array Value} (ha : VRs G FS B vas.toList vas'.toList) : SemR (G := G) (FS := FS) P (NQ G FS) B (callFunc f vas) (callFunc f vas') := by
  unfold callFunc
  refine rb_program ?_
  cases hfn : P.funcs[f]? with
  | none => exact r_stuck _ _
  | some fn =>
    obtain ⟨h1, h2⟩ := H.funcs f hf fn hfn
    simp only [h1, Bool.false_eq_true, if_false]
    rcases h2 with h2 | ⟨h2, h3, e, h4, h5⟩
    · simp only [h2, Bool.false_eq_true, if_false]
      exact r_pure (.enter f hf ha)
    · simp only [h2, if_true, h3, h4]
      exact r_bind (r_mark (.inr ⟨f, rfl⟩)) fun B1 b1 _ _ _ => r_v (h5 B1 _ _ (ha.mono b1))
theorem r_nilCheck {x x' : Value} (hx : VR G FS B x x') (ρ ρ' : Operand → Value) (o : Oper) (y : Operand) (ho : o.op = .nilCheck y) (h1 : ρ y = x) (h2 : ρ' y = x') : SemR (G := G) (FS := FS) P (NQ G FS) B (execOp ρ o) (execOp ρ' o) := by
  unfold execOp
  simp only [ho, h1, h2]
  cases hx <;> first | exact r_runtimePanic _ _ | (refine r_pure (.value ?_); constructor; assumption) | (refine r_pure (.value ?_); constructor)
theorem m_panicnil : MildT P Instr.panicnil := by
  refine m_bind (m_sys _) fun r => ?_
  split
  · exact m_bind m_program fun _ => m_pure _
  · exact m_stuck _
theorem dead_panic (v : Value) : Dead P (Instr.panic v) := by
  unfold Instr.panic
  split
  · exact dead_goPanic _
  · refine dead_then m_panicnil fun i => ?_
    split
    · exact dead_goPanic _
    · exact dead_runtimePanic _
  · exact dead_stuck _
theorem rho_list {ρ ρ' : Operand → Value} : ∀ (l : List Operand), (∀ o ∈ l, VR G FS B (ρ o) (ρ' o)) → VRs G FS B (l.map ρ) (l.map ρ')
  | [], _ => .nil
  | o :: l, h => .cons (h o (by simp)) (rho_list l fun x hx => h x (by simp [hx]))
theorem rho_pairs {ρ ρ' : Operand → Value} : ∀ (l : List (Nat × Operand)), (∀ o ∈ l, VR G FS B (ρ o.2) (ρ' o.2)) → PRs G FS B (l.map fun (i, x) => (i, ρ x)) (l.map fun (i, x) => (i, ρ' x))
  | [], _ => .nil
  | o :: l, h => .cons (h o (by simp)) (rho_pairs l fun x hx => h x (by simp [hx]))
theorem rho_opt {ρ ρ' : Operand → Value} (o : Option Operand) (h : ∀ x, o = some x → VR G FS B (ρ x) (ρ' x)) : OV G FS B (o.map ρ) (o.map ρ') := by
  cases o with
  | none => exact trivial
  | some x => exact h x rfl
theorem r_execOp (H : OpenOK G FS P) {ρ ρ' : Operand → Value} (hρ : ∀ x, OperOK G FS x → VR G FS B (ρ x) (ρ' x)) {o : Oper} (ho : OpTame G FS P o.op) : SemR (G := G) (FS := FS) P (NQ G FS) B (execOp ρ o) (execOp ρ' o) := by
  cases h : o.op <;> rw [h] at ho <;> (try exact ho.elim)
  case nilCheck x => exact r_nilCheck (hρ x ho) ρ ρ' o x h rfl rfl
  all_goals (unfold execOp; simp only [h])
  case move x => exact r_pure (.value (hρ x ho))
  case assign x => exact r_pure (.value (hρ x ho))
  case pick c a b =>
    refine r_bind (r_asBool (hρ c ho.1)) fun B1 h1 b b' hb => ?_
    obtain rfl : b' = b := hb
    cases b'
    · exact r_pure (.value ((hρ _ ho.2.2).mono h1))
    · exact r_pure (.value ((hρ _ ho.2.1).mono h1))
  case alloc e => exact r_v (r_alloc ho)
  case box e x => exact r_v (r_box e (hρ x ho))
  case buildSlice t l ps =>
    refine r_v (r_buildSlice ho.1 l ?_)
    simp only [Array.toList_map]
    exact rho_pairs _ fun p hp => hρ _ (ho.2 p hp)
  case load t a => exact r_v (r_loadAt t (hρ a ho))
  case store t a x => exact r_u (r_storeAt t (hρ a ho.1) (hρ x ho.2))
  case binOp op t x y u =>
    obtain ⟨hx, hy, hh⟩ := ho
    refine r_v ?_
    rcases hh with ⟨h1, h2⟩ | ⟨h1, h2, h3⟩
    · exact r_bind (r_noGuard h1 h2 t x y _ _ _ _) fun B1 b1 _ _ _ => r_binOp H.glob h1 h2 t ((hρ x hx).mono b1) ((hρ y hy).mono b1)
    · exact r_bind (r_eqGuard h1 h2 h3 x y (hρ x hx) (hρ y hy)) fun B1 b1 _ _ _ => r_binEq H.glob h1 h2 ((hρ x hx).mono b1) ((hρ y hy).mono b1)
  case unOp op t x => exact r_v (r_unary op (hρ x ho))
  case convert s d x =>
    obtain ⟨hx, ⟨ds, h1, h2⟩, ⟨dd, h3, h4⟩⟩ := ho
    exact r_v (r_convert h1 h3 h2 h4 (hρ x hx))
  case makeInterface t x => exact r_v (r_makeInterface t (hρ x ho))
  case makeSlice t a x => exact r_v (r_makeSlice ho.1 (hρ a ho.2.1) (hρ x ho.2.2))
  case slice t x lo hi mx =>
    obtain ⟨hx, hl, hh, rfl, e, he⟩ := ho
    exact r_v (r_sliceAt t he (hρ x hx) (rho_opt lo fun y hy => hρ y (hl y hy)) (rho_opt hi fun y hy => hρ y (hh y hy)))
  case fieldAddr s x f => exact r_v (r_fieldAt s (hρ x ho.1) f ho.2)
  case indexAddr t x i => exact r_v (r_indexAt t (hρ x ho.1) (hρ i ho.2))
  case index t x i => exact r_v (r_index t (hρ x ho.1) (hρ i ho.2))
  case extract x i => exact r_v (r_extract (hρ x ho) i)
  case panic x => exact .dead (dead_bind (dead_panic _))
  case call c =>
    have hargs : VRs G FS B (c.args.map ρ).toList (c.args.map ρ').toList := by
      simp only [Array.toList_map]
      exact rho_list _ fun p hp => hρ _ (ho.1 p hp)
    unfold resolve
    have ho2 := ho.2
    cases hc : c.callee with
    | invoke r n => rw [hc] at ho2; exact ho2.elim
    | builtin b =>
      rw [hc] at ho2
      simp only
      refine rb_pure ?_
      rcases ho2 with ⟨rfl, hz⟩ | rfl | rfl | ⟨rfl, hz⟩
      · exact r_v (r_append hz _ hargs)
      · exact r_v (r_cap _ _ hargs)
      · exact r_v (r_len _ _ hargs)
      · exact r_v (r_clear hz _ hargs)
    | value f =>
      rw [hc] at ho2
      simp only
      have hf := hρ f ho2
      revert hf
      generalize ρ f = v
      generalize ρ' f = v'
      intro hf
      cases hf <;> first | exact r_stuckBind _ _ _ | skip
      case nilFunc => exact r_runtimePanic .nilDeref _
      rename_i g hg
      refine rb_pure ?_
      refine r_callFunc H hg ?_
      simpa using hargs
end
end Go.Proofs.Ytgeoffpcmkofkaa
/- A lone run reads of its tape no more than what it draws. -/
namespace Go.Proofs.Ytgeoffpcmkofkaa
open Go

/-- The same world, another tape. -/
def on (w : World) (T : Nat → Question → Nat) : World := { w with tape := T }
section
variable {G : Nat} {FS : FuncId → Prop} {Sh : Nat → Prop} {P : Program} {α α' : Type} {Q : BR → α → α' → Prop}
structure RunOn (P : Program) (s : Sem α) (wl : World) (a : α) (wl' : World) : Prop where
  mono : wl.drawn ≤ wl'.drawn
  same : wl'.tape = wl.tape
  run : ∀ T, (∀ i q, wl.drawn ≤ i → i < wl'.drawn → T i q = wl.tape i q) → s.run P (on wl T) = .ok a (on wl' T)
theorem SemR.run_on {B : BR} {s : Sem α} {s' : Sem α'} (h : SemR (G := G) (FS := FS) P Q B s s') : ∀ {wl w : World} {a : α} {wl' : World}, WR G FS Sh B wl w → s.run P wl = .ok a wl' → RunOn P s wl a wl' := by
  induction h with
  | pure hq =>
    intro wl w a wl' hw hr
    simp only [Sem.run] at hr
    cases hr
    exact ⟨Nat.le_refl _, rfl, fun _ _ => rfl⟩
  | @load B a a' k k' ha _ ih =>
    intro wl w x wl' hw hr
    simp only [Sem.run] at hr
    cases hc : wl.cell? a with
    | none =>
      rw [hc] at hr
      simp only at hr
      have := (hw.far (P := P) ha (Mode.plain == .atomic)).1
      split at hr
      · rename_i hf; exact absurd hf (this _)
      · cases hr
    | some v =>
      rw [hc] at hr
      obtain ⟨v', hv', hvr⟩ := hw.cell ha hc
      have g := ih v v' hvr hw hr
      refine ⟨g.mono, g.same, fun T hT => ?_⟩
      have e : (on wl T).cell? a = some v := hc
      simp only [Sem.run, e]
      exact g.run T hT
  | @store B a a' v v' k k' ha hv _ ih =>
    intro wl w x wl' hw hr
    have key : ∀ (hag : ∀ cs, v ≠ .agg cs) (htu : ∀ cs, v ≠ .tuple cs), RunOn P (.store .plain a v k) wl x wl' := by
      intro hag htu
      have e1 : ∀ wl : World, (Sem.store .plain a v k).run P wl = match wl.cell? a with
          | some _ => if wl.frozen? a then .halt (.unsupported (.unsafePointer "a write to bytes that a string shares")) wl else k.run P (wl.setCell a v)
          | none => match wl.farStore P a v (Mode.plain == .atomic) with
            | .ok (w, _) => k.run P w
            | .error h => .halt h wl := by
        intro wl
        cases v <;> first | rfl | exact absurd rfl (hag _) | exact absurd rfl (htu _)
      rw [e1] at hr
      cases hc : wl.cell? a with
      | none =>
        rw [hc] at hr
        simp only at hr
        have := (hw.far (P := P) ha (Mode.plain == .atomic)).2 v
        split at hr
        · rename_i hf; exact absurd hf (this _)
        · cases hr
      | some u =>
        rw [hc] at hr
        simp only at hr
        by_cases hf : wl.frozen? a = true
        · rw [if_pos hf] at hr; cases hr
        · rw [if_neg hf] at hr
          have g := ih (hw.set ha hc hv) hr
          refine ⟨g.mono, g.same, fun T hT => ?_⟩
          rw [e1 (on wl T)]
          have hc' : (on wl T).cell? a = some u := hc
          rw [hc']
          simp only
          have hf' : ¬(on wl T).frozen? a = true := hf
          rw [if_neg hf']
          exact g.run T hT
    cases v with
    | agg cs => simp [Sem.run] at hr
    | tuple cs => simp [Sem.run] at hr
    | _ => exact key (fun _ h => by cases h) (fun _ h => by cases h)
  | @getNum B r r' k k' hb _ ih =>
    intro wl w x wl' hw hr
    obtain ⟨o, o', g1, g2, g3⟩ := hw.blk r r' hb
    simp only [Sem.run, g1] at hr
    cases g3 with
    | cells _ _ _ => simp at hr
    | @number a a' l ha hns =>
      simp only at hr
      have g := ih a a' l ha hw hr
      refine ⟨g.mono, g.same, fun T hT => ?_⟩
      have e : (on wl T).heap[r]? = some (.number a l) := g1
      simp only [Sem.run, e]
      exact g.run T hT
  | @newNum B a a' l k k' ha _ ih =>
    intro wl w x wl' hw hr
    simp only [Sem.run] at hr
    have g := ih wl.heap.size w.heap.size hw.glob (hw.new fun hs => .number ha hs) hr
    exact ⟨g.mono, g.same, fun T hT => g.run T hT⟩
  | @new B c c' e k k' hc _ ih =>
    intro wl w x wl' hw hr
    simp only [Sem.run] at hr
    have g := ih wl.heap.size w.heap.size hw.glob (hw.new fun hs => .cells hc (fun k => absurd k hs) fun _ => rfl) hr
    exact ⟨g.mono, g.same, fun T hT => g.run T hT⟩
  | @shape B r r' k k' hb _ ih =>
    intro wl w x wl' hw hr
    simp only [Sem.run] at hr
    have g := ih _ hw hr
    exact ⟨g.mono, g.same, fun T hT => g.run T hT⟩
  | @choose B q k k' _ ih =>
    intro wl w x wl' hw hr
    simp only [Sem.run] at hr
    by_cases hq : q.forced = true
    · rw [if_pos hq] at hr
      have g := ih _ hw hr
      refine ⟨g.mono, g.same, fun T hT => ?_⟩
      simp only [Sem.run, if_pos hq]
      exact g.run T hT
    · rw [if_neg hq] at hr
      have g := ih _ hw.draw hr
      have hm : wl.drawn + 1 ≤ wl'.drawn := g.mono
      refine ⟨by omega, g.same, fun T hT => ?_⟩
      simp only [Sem.run, if_neg hq]
      have e : (on wl T).tape (on wl T).drawn q = wl.tape wl.drawn q := hT wl.drawn q (Nat.le_refl _) (by omega)
      rw [e]
      exact g.run T fun i q h1 h2 => hT i q (by have : wl.drawn + 1 ≤ i := h1; omega) h2
  | program _ ih =>
    intro wl w x wl' hw hr
    simp only [Sem.run] at hr
    have g := ih hw hr
    exact ⟨g.mono, g.same, fun T hT => g.run T hT⟩
  | @mark B m k k' hm _ ih =>
    intro wl w x wl' hw hr
    simp only [Sem.run] at hr
    have g := ih hw hr
    exact ⟨g.mono, g.same, fun T hT => g.run T hT⟩
  | dead hd =>
    intro wl w x wl' hw hr
    exact absurd hr (hd.1 _ _ _)
theorem farLoad_mild {w : World} {a : Addr} {b : Bool} {h : Halt} (hr : w.farLoad P a b = .error h) : MildH h := by
  unfold World.farLoad at hr
  split at hr
  · split at hr
    · cases hr
    · injection hr with hr; subst hr; trivial
  · injection hr with hr
    subst hr
    unfold World.noCell
    split <;> trivial
theorem farStore_mild {w : World} {a : Addr} {v : Value} {b : Bool} {h : Halt} (hr : w.farStore P a v b = .error h) : MildH h := by
  unfold World.farStore at hr
  split at hr
  · split at hr
    · cases hr
    · injection hr with hr; subst hr; trivial
  · injection hr with hr
    subst hr
    unfold World.noCell
    split <;> trivial
theorem SemR.halts {B : BR} {s : Sem α} {s' : Sem α'} (h : SemR (G := G) (FS := FS) P Q B s s') : ∀ {wl w : World} {x : Halt} {wl' : World}, WR G FS Sh B wl w → s.run P wl = .halt x wl' → MildH x := by
  induction h with
  | pure hq => intro wl w x wl' hw hr; cases hr
  | @load B a a' k k' ha _ ih =>
    intro wl w x wl' hw hr
    simp only [Sem.run] at hr
    cases hc : wl.cell? a with
    | none =>
      rw [hc] at hr
      simp only at hr
      have := (hw.far (P := P) ha (Mode.plain == .atomic)).1
      split at hr
      · rename_i hf; exact absurd hf (this _)
      · rename_i hf
        injection hr with hr _
        subst hr
        exact farLoad_mild hf
    | some v =>
      rw [hc] at hr
      obtain ⟨v', hv', hvr⟩ := hw.cell ha hc
      exact ih v v' hvr hw hr
  | @store B a a' v v' k k' ha hv _ ih =>
    intro wl w x wl' hw hr
    have key : ∀ (hag : ∀ cs, v ≠ .agg cs) (htu : ∀ cs, v ≠ .tuple cs), MildH x := by
      intro hag htu
      have e1 : ∀ wl : World, (Sem.store .plain a v k).run P wl = match wl.cell? a with
          | some _ => if wl.frozen? a then .halt (.unsupported (.unsafePointer "a write to bytes that a string shares")) wl else k.run P (wl.setCell a v)
          | none => match wl.farStore P a v (Mode.plain == .atomic) with
            | .ok (w, _) => k.run P w
            | .error h => .halt h wl := by
        intro wl
        cases v <;> first | rfl | exact absurd rfl (hag _) | exact absurd rfl (htu _)
      rw [e1] at hr
      cases hc : wl.cell? a with
      | none =>
        rw [hc] at hr
        simp only at hr
        have := (hw.far (P := P) ha (Mode.plain == .atomic)).2 v
        split at hr
        · rename_i hf; exact absurd hf (this _)
        · rename_i hf
          injection hr with hr _
          subst hr
          exact farStore_mild hf
      | some u =>
        rw [hc] at hr
        simp only at hr
        by_cases hf : wl.frozen? a = true
        · rw [if_pos hf] at hr
          injection hr with hr _
          subst hr
          trivial
        · rw [if_neg hf] at hr
          exact ih (hw.set ha hc hv) hr
    cases v with
    | agg cs => simp [Sem.run] at hr; rw [← hr.1]; trivial
    | tuple cs => simp [Sem.run] at hr; rw [← hr.1]; trivial
    | _ => exact key (fun _ h => by cases h) (fun _ h => by cases h)
  | @getNum B r r' k k' hb _ ih =>
    intro wl w x wl' hw hr
    obtain ⟨o, o', g1, g2, g3⟩ := hw.blk r r' hb
    simp only [Sem.run, g1] at hr
    cases g3 with
    | cells _ _ _ => simp only at hr; injection hr with hr _; subst hr; trivial
    | @number a a' l ha hns => exact ih a a' l ha hw hr
  | @newNum B a a' l k k' ha _ ih =>
    intro wl w x wl' hw hr
    exact ih wl.heap.size w.heap.size hw.glob (hw.new fun hs => .number ha hs) hr
  | @new B c c' e k k' hc _ ih =>
    intro wl w x wl' hw hr
    exact ih wl.heap.size w.heap.size hw.glob (hw.new fun hs => .cells hc (fun k => absurd k hs) fun _ => rfl) hr
  | @shape B r r' k k' hb _ ih =>
    intro wl w x wl' hw hr
    exact ih _ hw hr
  | @choose B q k k' _ ih =>
    intro wl w x wl' hw hr
    simp only [Sem.run] at hr
    by_cases hq : q.forced = true
    · rw [if_pos hq] at hr
      exact ih _ hw hr
    · rw [if_neg hq] at hr
      exact ih _ hw.draw hr
  | program _ ih => intro wl w x wl' hw hr; exact ih hw hr
  | @mark B m k k' hm _ ih => intro wl w x wl' hw hr; exact ih hw hr
  | dead hd => intro wl w x wl' hw hr; exact hd.2 _ _ _ hr
end
end Go.Proofs.Ytgeoffpcmkofkaa
/- Steps of a frame whose operations are all tame. -/
namespace Go.Proofs.Ytgeoffpcmkofkaa
open Go

section
variable (G : Nat) (FS : FuncId → Prop) (P : Program)
/-- Code that this calculus bears. -/
def CodeT : Code → Prop
  | .region _ ops _ => ∀ o ∈ ops.toList, OpTame G FS P o.op
  | .seq a b => CodeT a ∧ CodeT b
  | .cond c a b => OperOK G FS c ∧ CodeT a ∧ CodeT b
  | .block _ b | .loop b | .scope b => CodeT b
  | .rangeFunc .. => False
  | _ => True
def ItemT : Item → Prop
  | .code c => CodeT G FS P c
  | .inLoop b | .inScope b => CodeT G FS P b
  | .inBlock _ => True
  | .inRegion ops _ => ∀ o ∈ ops.toList, OpTame G FS P o.op
  | _ => False
/-- All functions of the set: their bodies and their results. -/
structure BodiesOK : Prop where
  body : ∀ f, FS f → ∀ fn, P.funcs[f]? = some fn → ∀ c, fn.body = some c → CodeT G FS P c
  res : ∀ f, FS f → ∀ fn, P.funcs[f]? = some fn → ∀ r ∈ fn.results.toList, ∃ t, r = .tmp t
  loud : ∀ f, FS f → ∀ fn, P.funcs[f]? = some fn → fn.norace = false
  there : ∀ f, FS f → ∃ fn, P.funcs[f]? = some fn
structure FT (fr : Frame) : Prop where
  fn : FS fr.fn
  todo : ∀ i ∈ fr.todo, ItemT G FS P i
  defers : fr.defers = []
  kind : fr.kind = .normal
  round : fr.roundOf = none
/-- Two frames that differ in the numbers of blocks alone. -/
structure FR (B : BR) (fr fr' : Frame) : Prop where
  ft : FT G FS P fr
  tmps : VRs G FS B fr.tmps.toList fr'.tmps.toList
  eq : fr' = { fr with tmps := fr'.tmps }
inductive FRs (B : BR) : List Frame → List Frame → Prop
  | nil : FRs B [] []
  | cons {fr fr' : Frame} {l l' : List Frame} : FR G FS P B fr fr' → fr.mode = .run → (∃ ops i rest k, fr.todo = .inRegion ops (i :: rest) :: k) → FRs B l l' → FRs B (fr :: l) (fr' :: l')
end

/-- A step that leaves memory alone. -/
def ctl (fr : Frame) : Option Frame :=
  match fr.todo with
  | [] => some { fr with mode := .returning }
  | .code .ret :: _ => some { fr with mode := .returning }
  | .code .skip :: k => some { fr with todo := k }
  | .code (.label _) :: k => some { fr with todo := k }
  | .inBlock _ :: k => some { fr with todo := k }
  | .inScope _ :: k => some { fr with todo := k }
  | .code (.seq a b) :: k => some { fr with todo := .code a :: .code b :: k }
  | .code (.cond c a b) :: k => match fr.eval c with
    | .bool true => some { fr with todo := .code a :: k }
    | .bool false => some { fr with todo := .code b :: k }
    | _ => none
  | .code (.block id b) :: k => some { fr with todo := .code b :: .inBlock id :: k }
  | .code (.loop b) :: k => some { fr with todo := .code b :: .inLoop b :: k }
  | .inLoop b :: k => some { fr with todo := .code b :: .inLoop b :: k }
  | .code (.scope b) :: k => some { fr with todo := .code b :: .inScope b :: k }
  | .code (.exit id) :: k => (exitTo id k).map fun k => { fr with todo := k }
  | .code (.goto l) :: k => (gotoIn l k).map fun k => { fr with todo := k }
  | .code (.region _ ops false) :: k => some { fr with todo := .inRegion ops (List.range ops.size) :: k }
  | .inRegion _ [] :: k => some { fr with todo := k }
  | .inRegion ops (i :: _) :: _ => if ((ops[i]?).map (Region.wanted · (yielded ops fr.tmps))).getD false then none else some (fr.finish undef)
  | _ => none
/-- What follows an operation. -/
def after (P : Program) (fr : Frame) (cs : List Frame) : Next → Option (Frame × List Frame)
  | .value v => some (fr.finish v, cs)
  | .skip => some (fr.finish undef, cs)
  | .enter f args => some (Frame.enter P f args .normal, fr :: cs)
  | _ => none
inductive Step1 (P : Program) : Frame → List Frame → World → Frame → List Frame → World → Array Event → Prop
  | ctl {fr fr1 : Frame} {cs : List Frame} {w : World} : fr.mode = .run → ctl fr = some fr1 → Step1 P fr cs w fr1 cs w #[]
  | draw {fr : Frame} {cs : List Frame} {w w1 : World} {id : Nat} {ops : Array Oper} {k : List Item} {t : Nat} : fr.mode = .run → fr.todo = .code (.region id ops true) :: k → (choose (.order fr.fn id)).run P w = .ok t w1 → Step1 P fr cs w { fr with todo := .inRegion ops (Region.schedule (P.follows .mixedOrders) ops t) :: k } cs w1 #[]
  | oper {fr fr1 : Frame} {cs cs1 : List Frame} {w w1 : World} {ops : Array Oper} {i : Nat} {rest : List Nat} {k : List Item} {o : Oper} {n : Next} {es : Array Event} : fr.mode = .run → fr.todo = .inRegion ops (i :: rest) :: k → ops[i]? = some o → Region.wanted o (yielded ops fr.tmps) = true → (execOp fr.eval o).runT P w #[] = (.ok n w1, es) → after P fr cs n = some (fr1, cs1) → Step1 P fr cs w fr1 cs1 w1 (seen P fr.fn es)
  | ret {fr c : Frame} {cs : List Frame} {w : World} {fn : Func} {v : Value} : fr.mode = .returning → P.funcs[fr.fn]? = some fn → (results fn fr.tmps).runT P w #[] = (.ok v w, #[]) → Step1 P fr (c :: cs) w (c.finish v) cs w #[]
end Go.Proofs.Ytgeoffpcmkofkaa
/- The machine takes these steps, and no others. -/
namespace Go.Proofs.Ytgeoffpcmkofkaa
open Go

section
variable {G : Nat} {FS : FuncId → Prop} {Sh : Nat → Prop} {P : Program} {main : Bool} {cs : List Frame} {w : World} {st : GoStatus} {off : Option (Array CommCase × CommShape)}
theorem step_ctl {fr fr1 : Frame} (hm : fr.mode = .run) (hr : fr.roundOf = none) (h : ctl fr = some fr1) : stepG P main { frame := fr, callers := cs, status := st, dying := none, offers := off } w = .go { frame := fr1, callers := cs, status := .running, dying := none } w #[] := by
  unfold ctl at h
  unfold stepG
  simp only [hm]
  unfold stepG.exec
  split at h
  all_goals rename_i ht
  all_goals simp only [ht]
  all_goals (first | (injection h with h; subst h; rfl) | (injection h with h; subst h; simp only [hr]; done) | cases h | skip)
  · simp [hr, ht]
  · simp [hr, ht]
  · split at h
    · rename_i he; injection h with h; subst h; simp [he]
    · rename_i he; injection h with h; subst h; simp [he]
    · cases h
  · rename_i id k
    cases he : exitTo id k with
    | none => rw [he] at h; cases h
    | some k' => rw [he] at h; injection h with h; subst h; rfl
  · rename_i id k
    cases he : gotoIn id k with
    | none => rw [he] at h; cases h
    | some k' => rw [he] at h; injection h with h; subst h; rfl
  · split at h
    · cases h
    · rename_i hn
      rw [if_neg hn]
      injection h with h
      subst h
      rfl
theorem step_draw {fr : Frame} {w1 : World} {id : Nat} {ops : Array Oper} {k : List Item} {t : Nat} (hm : fr.mode = .run) (ht : fr.todo = .code (.region id ops true) :: k) (h : (choose (.order fr.fn id)).run P w = .ok t w1) : stepG P main { frame := fr, callers := cs, status := st, dying := none, offers := off } w = .go { frame := { fr with todo := .inRegion ops (Region.schedule (P.follows .mixedOrders) ops t) :: k }, callers := cs, status := .running, dying := none } w1 #[] := by
  unfold stepG
  simp only [hm]
  unfold stepG.exec
  simp only [ht, h]
  simp [hm]
theorem step_oper {fr fr1 : Frame} {cs1 : List Frame} {w1 : World} {ops : Array Oper} {i : Nat} {rest : List Nat} {k : List Item} {o : Oper} {n : Next} {es : Array Event} (hm : fr.mode = .run) (hr : fr.roundOf = none) (hk : fr.kind = .normal) (ht : fr.todo = .inRegion ops (i :: rest) :: k) (ho : ops[i]? = some o) (hw : Region.wanted o (yielded ops fr.tmps) = true) (h : (execOp fr.eval o).runT P w #[] = (.ok n w1, es)) (ha : after P fr cs n = some (fr1, cs1)) : stepG P main { frame := fr, callers := cs, status := st, dying := none, offers := off } w = .go { frame := fr1, callers := cs1, status := .running, dying := none } w1 (seen P fr.fn es) := by
  unfold stepG
  simp only [hm]
  unfold stepG.exec
  simp only [ht]
  rw [if_pos (by simp [ho, hw])]
  unfold stepG.oper
  have hop : fr.oper? = some o := by simp [Frame.oper?, ht, ho]
  simp only [hop, hr]
  unfold stepG.apply
  simp only [if_true, h, hk, ht]
  cases n <;> simp only [after, reduceCtorEq] at ha <;> (injection ha with ha; injection ha with h1 h2; subst h1 h2; simp [GStep.after])
theorem step_ret {fr c : Frame} {fn : Func} {v : Value} (hm : fr.mode = .returning) (hd : fr.defers = []) (hk : fr.kind = .normal) (hf : P.funcs[fr.fn]? = some fn) (h : (results fn fr.tmps).runT P w #[] = (.ok v w, #[])) : stepG P main { frame := fr, callers := c :: cs, status := st, dying := none, offers := off } w = .go { frame := c.finish v, callers := cs, status := .running, dying := none } w #[] := by
  unfold stepG
  simp only [hm]
  unfold unwind
  simp only [hd, hm, hf, h]
  simp [doReturn, hk, GStep.after, seen]
theorem Step1.goes {fr fr1 : Frame} {cs1 : List Frame} {w1 : World} {es : Array Event} (hf : FT G FS P fr) (h : Step1 P fr cs w fr1 cs1 w1 es) : stepG P main { frame := fr, callers := cs, status := st, dying := none, offers := off } w = .go { frame := fr1, callers := cs1, status := .running, dying := none } w1 es := by
  cases h with
  | ctl h1 h2 => exact step_ctl h1 hf.round h2
  | draw h1 h2 h3 => exact step_draw h1 h2 h3
  | oper h1 h2 h3 h4 h5 h6 => exact step_oper h1 hf.round hf.kind h2 h3 h4 h5 h6
  | ret h1 h2 h3 => exact step_ret h1 hf.defers hf.kind h2 h3
/-- Where a running frame stands. -/
theorem stands {fr : Frame} (hf : FT G FS P fr) (hm : fr.mode = .run) :
    (∃ fr1, ctl fr = some fr1) ∨ (∃ id ops k, fr.todo = .code (.region id ops true) :: k ∧ ∀ o ∈ ops.toList, OpTame G FS P o.op) ∨
    (∃ ops i rest k o, fr.todo = .inRegion ops (i :: rest) :: k ∧ ops[i]? = some o ∧ Region.wanted o (yielded ops fr.tmps) = true ∧ OpTame G FS P o.op) ∨
    (∀ cs w, ∃ o w1, stepG P main { frame := fr, callers := cs, status := .running, dying := none } w = .ended o w1 #[]) := by
  have hx : ∀ cs w, stepG P main { frame := fr, callers := cs, status := .running, dying := none } w = stepG.exec P main true fr cs none w := by
    intro cs w
    unfold stepG
    simp only [hm]
  have hi := hf.todo
  have hr := hf.round
  cases ht : fr.todo with
  | nil => exact .inl ⟨_, by simp only [ctl, ht]; rfl⟩
  | cons it k =>
    have h0 := hi it (by rw [ht]; simp)
    cases it with
    | inBlock id => exact .inl ⟨_, by simp only [ctl, ht]; rfl⟩
    | inLoop b => exact .inl ⟨_, by simp only [ctl, ht]; rfl⟩
    | inScope b => exact .inl ⟨_, by simp only [ctl, ht]; rfl⟩
    | inRangeFunc l => exact h0.elim
    | endRangeFunc l => exact h0.elim
    | beginRound => exact h0.elim
    | call => exact h0.elim
    | extern => exact h0.elim
    | inRegion ops todo =>
      cases todo with
      | nil => exact .inl ⟨_, by simp only [ctl, ht]; rfl⟩
      | cons i rest =>
        by_cases hw : ((ops[i]?).map (Region.wanted · (yielded ops fr.tmps))).getD false = true
        · cases ho : ops[i]? with
          | none => rw [ho] at hw; simp at hw
          | some o =>
            rw [ho] at hw
            refine .inr (.inr (.inl ⟨ops, i, rest, k, o, rfl, ho, by simpa using hw, h0 o ?_⟩))
            have := Array.mem_of_getElem? ho
            simpa using this
        · exact .inl ⟨_, by simp only [ctl, ht, if_neg hw]; rfl⟩
    | code c =>
      cases c with
      | skip => exact .inl ⟨_, by simp only [ctl, ht]; rfl⟩
      | ret => exact .inl ⟨_, by simp only [ctl, ht]; rfl⟩
      | label l => exact .inl ⟨_, by simp only [ctl, ht]; rfl⟩
      | seq a b => exact .inl ⟨_, by simp only [ctl, ht]; rfl⟩
      | block id b => exact .inl ⟨_, by simp only [ctl, ht]; rfl⟩
      | loop b => exact .inl ⟨_, by simp only [ctl, ht]; rfl⟩
      | scope b => exact .inl ⟨_, by simp only [ctl, ht]; rfl⟩
      | rangeFunc => exact h0.elim
      | refuse why =>
        refine .inr (.inr (.inr fun cs w => ?_))
        rw [hx]
        unfold stepG.exec
        simp only [ht]
        exact ⟨_, _, rfl⟩
      | region id ops draw =>
        cases draw with
        | false => exact .inl ⟨_, by simp only [ctl, ht]; rfl⟩
        | true => exact .inr (.inl ⟨id, ops, k, rfl, h0⟩)
      | cond c a b =>
        by_cases hb : ∃ b, fr.eval c = .bool b
        · obtain ⟨v, hv⟩ := hb
          cases v <;> exact .inl ⟨_, by simp only [ctl, ht, hv]; rfl⟩
        · refine .inr (.inr (.inr fun cs w => ?_))
          rw [hx]
          unfold stepG.exec
          simp only [ht]
          split
          · rename_i v hv; exact absurd ⟨v, hv⟩ hb
          · exact ⟨_, _, rfl⟩
      | exit id =>
        cases he : exitTo id k with
        | some k' => exact .inl ⟨_, by simp only [ctl, ht, he]; rfl⟩
        | none =>
          refine .inr (.inr (.inr fun cs w => ?_))
          rw [hx]
          unfold stepG.exec
          simp only [ht, he, hr]
          exact ⟨_, _, rfl⟩
      | goto l =>
        cases he : gotoIn l k with
        | some k' => exact .inl ⟨_, by simp only [ctl, ht, he]; rfl⟩
        | none =>
          refine .inr (.inr (.inr fun cs w => ?_))
          rw [hx]
          unfold stepG.exec
          simp only [ht, he, hr]
          exact ⟨_, _, rfl⟩
end
end Go.Proofs.Ytgeoffpcmkofkaa
/- A step of the lone run is matched by a step of the other. -/
namespace Go.Proofs.Ytgeoffpcmkofkaa
open Go

section
variable {G : Nat} {FS : FuncId → Prop} {Sh : Nat → Prop} {P : Program} {B : BR}
theorem exitTo_sub {id : Nat} : ∀ {k k' : List Item}, exitTo id k = some k' → ∀ i ∈ k', i ∈ k
  | [], k', h => by simp [exitTo] at h
  | it :: k, k', h => by
    intro i hi
    cases it with
    | inBlock id' =>
      simp only [exitTo] at h
      split at h
      · injection h with h; subst h; exact List.mem_cons_of_mem _ hi
      · exact List.mem_cons_of_mem _ (exitTo_sub h i hi)
    | _ => exact List.mem_cons_of_mem _ (exitTo_sub (by simpa only [exitTo] using h) i hi)
theorem findLabel_tame {l : Nat} : ∀ {c r : Code}, findLabel c l = some r → CodeT G FS P c → CodeT G FS P r
  | .seq a b, r, h, hc => by
    simp only [findLabel] at h
    split at h
    · rename_i r' hr
      injection h with h
      subst h
      exact ⟨findLabel_tame hr hc.1, hc.2⟩
    · exact findLabel_tame h hc.2
  | .label l', r, h, _ => by
    simp only [findLabel] at h
    split at h
    · injection h with h; subst h; trivial
    · cases h
  | .skip, _, h, _ | .region .., _, h, _ | .cond .., _, h, _ | .block .., _, h, _ | .loop .., _, h, _ | .rangeFunc .., _, h, _ | .exit .., _, h, _ | .scope .., _, h, _ | .goto .., _, h, _ | .ret, _, h, _ | .refuse .., _, h, _ => by simp [findLabel] at h
theorem gotoIn_tame {l : Nat} : ∀ {k k' : List Item}, gotoIn l k = some k' → (∀ i ∈ k, ItemT G FS P i) → ∀ i ∈ k', ItemT G FS P i
  | [], k', h, _ => by simp [gotoIn] at h
  | it :: k, k', h, hk => by
    have hk' : ∀ i ∈ k, ItemT G FS P i := fun i hi => hk i (List.mem_cons_of_mem _ hi)
    cases it with
    | inScope b =>
      simp only [gotoIn] at h
      split at h
      · rename_i r hr
        injection h with h
        subst h
        intro i hi
        have hb : CodeT G FS P b := hk (.inScope b) (by simp)
        rcases List.mem_cons.1 hi with rfl | hi
        · exact findLabel_tame hr hb
        · exact hk i hi
      · exact gotoIn_tame h hk'
    | _ => exact gotoIn_tame (by simpa only [gotoIn] using h) hk'
theorem VR.undef : VR G FS B undef undef := .tuple .nil
theorem VRs.getD {a a' : Array Value} (h : VRs G FS B a.toList a'.toList) (t : Nat) : VR G FS B (a.getD t undef) (a'.getD t undef) := by
  cases hv : a[t]? with
  | none =>
    have h' : a'[t]? = Option.none := by
      have := h.none (i := t) (by simpa using hv)
      simpa using this
    simp only [Array.getD_eq_getD_getElem?, hv, h', Option.getD_none]
    exact VR.undef
  | some v =>
    obtain ⟨v', h1, h2⟩ := VR.get h hv
    simp only [Array.getD_eq_getD_getElem?, hv, h1, Option.getD_some]
    exact h2
theorem FR.eval {fr fr' : Frame} (h : FR G FS P B fr fr') (x : Operand) (hx : OperOK G FS x) : VR G FS B (fr.eval x) (fr'.eval x) := by
  cases x with
  | tmp t => exact h.tmps.getD t
  | const v => exact hx B
  | global g => exact hx.elim
  | func f => exact .func f hx
theorem FR.yielded {fr fr' : Frame} (h : FR G FS P B fr fr') (ops : Array Oper) : yielded ops fr'.tmps = yielded ops fr.tmps := by
  funext j
  unfold Go.yielded
  cases hd : (ops[j]?).bind (·.dst) with
  | none => rfl
  | some d =>
    simp only [Option.bind_some]
    cases hv : fr.tmps[d]? with
    | none =>
      have h' : fr'.tmps[d]? = none := by
        have := h.tmps.none (i := d) (by simpa using hv)
        simpa using this
      rw [h']
    | some v =>
      obtain ⟨v', h1, h2⟩ := VR.get h.tmps hv
      rw [h1]
      cases h2 <;> rfl
theorem FR.mono {B' : BR} (hB : Sub B B') {fr fr' : Frame} (h : FR G FS P B fr fr') : FR G FS P B' fr fr' := ⟨h.ft, h.tmps.mono hB, h.eq⟩
theorem FRs.mono {B' : BR} (hB : Sub B B') : ∀ {l l' : List Frame}, FRs G FS P B l l' → FRs G FS P B' l l'
  | _, _, .nil => .nil
  | _, _, .cons h1 h2 h3 h4 => .cons (h1.mono hB) h2 h3 (h4.mono hB)
/-- Frames that go on with another list of things to do. -/
theorem FR.to {fr fr' : Frame} (h : FR G FS P B fr fr') {k : List Item} (hk : ∀ i ∈ k, ItemT G FS P i) : FR G FS P B { fr with todo := k } { fr' with todo := k } := by
  refine ⟨⟨h.ft.fn, hk, h.ft.defers, h.ft.kind, h.ft.round⟩, h.tmps, ?_⟩
  have := h.eq
  rw [this]
theorem FR.leaves {fr fr' : Frame} (h : FR G FS P B fr fr') : FR G FS P B { fr with mode := .returning } { fr' with mode := .returning } := by
  refine ⟨⟨h.ft.fn, h.ft.todo, h.ft.defers, h.ft.kind, h.ft.round⟩, h.tmps, ?_⟩
  have := h.eq
  rw [this]
theorem FR.todo {fr fr' : Frame} (h : FR G FS P B fr fr') : fr'.todo = fr.todo := by rw [h.eq]
theorem FR.fn {fr fr' : Frame} (h : FR G FS P B fr fr') : fr'.fn = fr.fn := by rw [h.eq]
theorem FR.mode {fr fr' : Frame} (h : FR G FS P B fr fr') : fr'.mode = fr.mode := by rw [h.eq]
theorem FR.finish {fr fr' : Frame} (h : FR G FS P B fr fr') {ops : Array Oper} {i : Nat} {rest : List Nat} {k : List Item} (ht : fr.todo = .inRegion ops (i :: rest) :: k) {v v' : Value} (hv : VR G FS B v v') : FR G FS P B (fr.finish v) (fr'.finish v') := by
  have ht' : fr'.todo = .inRegion ops (i :: rest) :: k := by rw [h.todo, ht]
  have hk : ∀ it ∈ (.inRegion ops rest :: k : List Item), ItemT G FS P it := by
    intro it hi
    rcases List.mem_cons.1 hi with rfl | hi
    · exact h.ft.todo (.inRegion ops (i :: rest)) (by rw [ht]; simp)
    · exact h.ft.todo it (by rw [ht]; exact List.mem_cons_of_mem _ hi)
  unfold Frame.finish
  rw [ht, ht']
  simp only
  cases hd : (ops[i]?).bind (·.dst) with
  | none => exact h.to hk
  | some d =>
    refine ⟨⟨h.ft.fn, hk, h.ft.defers, h.ft.kind, h.ft.round⟩, ?_, ?_⟩
    · simp only [Array.toList_setIfInBounds]
      exact h.tmps.set d hv
    · have := h.eq
      rw [this]
theorem FR.enter (HB : BodiesOK G FS P) {f : FuncId} (hf : FS f) {vas vas' : Array Value} (ha : VRs G FS B vas.toList vas'.toList) : FR G FS P B (Frame.enter P f vas .normal) (Frame.enter P f vas' .normal) := by
  refine ⟨⟨hf, fun i hi => ?_, rfl, rfl, rfl⟩, ?_, ?_⟩
  · simp only [Frame.enter, List.mem_singleton] at hi
    subst hi
    cases hfn : P.funcs[f]? with
    | none => simp [ItemT, CodeT]
    | some fn =>
      cases hb : fn.body with
      | none => simp [hb, ItemT, CodeT]
      | some c =>
        simp only [Option.bind_some, hb, Option.getD_some]
        exact HB.body f hf fn hfn c hb
  · simp only [Frame.enter, Array.toList_append, Array.toList_replicate, ha.size]
    exact ha.append (VRs.replicate VR.undef _)
  · rfl
theorem sim_ctl {fr fr' fr1 : Frame} (h : FR G FS P B fr fr') (hc : ctl fr = some fr1) : ∃ fr1', ctl fr' = some fr1' ∧ FR G FS P B fr1 fr1' := by
  have ht' := h.todo
  have hi := h.ft.todo
  unfold ctl at hc
  split at hc
  all_goals (first | (cases hc; done) | skip)
  all_goals (rename_i ht; unfold ctl; rw [ht', ht]; simp only)
  all_goals (rw [ht] at hi)
  all_goals (first | (injection hc with hc; subst hc) | skip)
  · refine ⟨_, rfl, ?_⟩
    have hl := h.leaves
    simp only [ht', ht] at hl ⊢
    exact hl
  · refine ⟨_, rfl, ?_⟩
    have hl := h.leaves
    simp only [ht', ht] at hl ⊢
    exact hl
  · exact ⟨_, rfl, h.to fun i k => hi i (List.mem_cons_of_mem _ k)⟩
  · exact ⟨_, rfl, h.to fun i k => hi i (List.mem_cons_of_mem _ k)⟩
  · exact ⟨_, rfl, h.to fun i k => hi i (List.mem_cons_of_mem _ k)⟩
  · exact ⟨_, rfl, h.to fun i k => hi i (List.mem_cons_of_mem _ k)⟩
  · rename_i a b k
    refine ⟨_, rfl, h.to fun i hk => ?_⟩
    have h0 : CodeT G FS P a ∧ CodeT G FS P b := hi (.code (.seq a b)) (by simp)
    rcases List.mem_cons.1 hk with rfl | hk
    · exact h0.1
    · rcases List.mem_cons.1 hk with rfl | hk
      · exact h0.2
      · exact hi i (List.mem_cons_of_mem _ hk)
  · rename_i c a b k
    have h0 : OperOK G FS c ∧ CodeT G FS P a ∧ CodeT G FS P b := hi (.code (.cond c a b)) (by simp)
    have hv := h.eval c h0.1
    split at hc
    · rename_i he
      rw [he] at hv
      injection hc with hc
      subst hc
      generalize hz : fr'.eval c = z at hv
      cases hv
      refine ⟨_, rfl, h.to fun i hk => ?_⟩
      rcases List.mem_cons.1 hk with rfl | hk
      · exact h0.2.1
      · exact hi i (List.mem_cons_of_mem _ hk)
    · rename_i he
      rw [he] at hv
      injection hc with hc
      subst hc
      generalize hz : fr'.eval c = z at hv
      cases hv
      refine ⟨_, rfl, h.to fun i hk => ?_⟩
      rcases List.mem_cons.1 hk with rfl | hk
      · exact h0.2.2
      · exact hi i (List.mem_cons_of_mem _ hk)
    · cases hc
  · rename_i id b k
    refine ⟨_, rfl, h.to fun i hk => ?_⟩
    have h0 : CodeT G FS P b := hi (.code (.block id b)) (by simp)
    rcases List.mem_cons.1 hk with rfl | hk
    · exact h0
    · rcases List.mem_cons.1 hk with rfl | hk
      · trivial
      · exact hi i (List.mem_cons_of_mem _ hk)
  · rename_i b k
    refine ⟨_, rfl, h.to fun i hk => ?_⟩
    have h0 : CodeT G FS P b := hi (.code (.loop b)) (by simp)
    rcases List.mem_cons.1 hk with rfl | hk
    · exact h0
    · rcases List.mem_cons.1 hk with rfl | hk
      · exact h0
      · exact hi i (List.mem_cons_of_mem _ hk)
  · rename_i b k
    refine ⟨_, rfl, h.to fun i hk => ?_⟩
    have h0 : CodeT G FS P b := hi (.inLoop b) (by simp)
    rcases List.mem_cons.1 hk with rfl | hk
    · exact h0
    · rcases List.mem_cons.1 hk with rfl | hk
      · exact h0
      · exact hi i (List.mem_cons_of_mem _ hk)
  · rename_i b k
    refine ⟨_, rfl, h.to fun i hk => ?_⟩
    have h0 : CodeT G FS P b := hi (.code (.scope b)) (by simp)
    rcases List.mem_cons.1 hk with rfl | hk
    · exact h0
    · rcases List.mem_cons.1 hk with rfl | hk
      · exact h0
      · exact hi i (List.mem_cons_of_mem _ hk)
  · rename_i id k
    cases he : exitTo id k with
    | none => rw [he] at hc; cases hc
    | some k' =>
      rw [he] at hc
      injection hc with hc
      subst hc
      exact ⟨_, rfl, h.to fun i hk => hi i (List.mem_cons_of_mem _ (exitTo_sub he i hk))⟩
  · rename_i id k
    cases he : gotoIn id k with
    | none => rw [he] at hc; cases hc
    | some k' =>
      rw [he] at hc
      injection hc with hc
      subst hc
      exact ⟨_, rfl, h.to fun i hk => gotoIn_tame he (fun i k => hi i (List.mem_cons_of_mem _ k)) i hk⟩
  · rename_i id ops k
    refine ⟨_, rfl, h.to fun i hk => ?_⟩
    rcases List.mem_cons.1 hk with rfl | hk
    · exact hi (.code (.region id ops false)) (by simp)
    · exact hi i (List.mem_cons_of_mem _ hk)
  · exact ⟨_, rfl, h.to fun i k => hi i (List.mem_cons_of_mem _ k)⟩
  · rename_i ops i rest k
    rw [h.yielded ops]
    split at hc
    · cases hc
    · rename_i hn
      rw [if_neg hn]
      injection hc with hc
      subst hc
      exact ⟨_, rfl, h.finish ht VR.undef⟩
theorem tmps_of : ∀ (l : List ResultVar), (∀ r ∈ l, ∃ t, r = .tmp t) → ∃ ts : List Nat, l = ts.map ResultVar.tmp
  | [], _ => ⟨[], rfl⟩
  | r :: l, h => by
    obtain ⟨t, rfl⟩ := h r (by simp)
    obtain ⟨ts, rfl⟩ := tmps_of l fun r hr => h r (by simp [hr])
    exact ⟨t :: ts, rfl⟩
def resOf (l : List Value) : Value := if h : l.toArray.size = 1 then l.toArray[0] else .tuple l.toArray
theorem mapM_tmps (tmps : Array Value) (ev : ResultVar → Sem Value) (hev : ∀ t, ev (.tmp t) = pure (tmps.getD t undef)) : ∀ (ts : List Nat), (ts.map ResultVar.tmp).mapM ev = (pure (ts.map fun t => tmps.getD t undef) : Sem (List Value))
  | [] => rfl
  | t :: ts => by
    rw [List.map_cons, List.mapM_cons, hev, mapM_tmps tmps ev hev ts]
    rfl
theorem results_tmps {fn : Func} {ts : List Nat} (h : fn.results.toList = ts.map ResultVar.tmp) (tmps : Array Value) : results fn tmps = pure (resOf (ts.map fun t => tmps.getD t undef)) := by
  unfold results
  rw [Array.mapM_eq_mapM_toList, h, mapM_tmps tmps _ (fun t => rfl) ts]
  rfl
theorem resOf_rel {a a' : Array Value} (h : VRs G FS B a.toList a'.toList) (ts : List Nat) : VR G FS B (resOf (ts.map fun t => a.getD t undef)) (resOf (ts.map fun t => a'.getD t undef)) := by
  have hl : ∀ ts : List Nat, VRs G FS B (ts.map fun t => a.getD t undef) (ts.map fun t => a'.getD t undef) := by
    intro ts
    induction ts with
    | nil => exact .nil
    | cons t ts ih => exact .cons (h.getD t) ih
  cases ts with
  | nil => exact .tuple .nil
  | cons t ts =>
    cases ts with
    | nil => exact h.getD t
    | cons u us =>
      have e : ∀ b : Array Value, resOf ((t :: u :: us).map fun t => b.getD t undef) = .tuple ((t :: u :: us).map fun t => b.getD t undef).toArray := by
        intro b
        unfold resOf
        rw [dif_neg (by simp)]
      rw [e, e]
      exact .tuple (hl _)

/-- The simulation: what a lone step comes to, the other's step comes to. -/
structure Match (G : Nat) (FS : FuncId → Prop) (Sh : Nat → Prop) (P : Program) (B : BR) (c : List Frame) (base : List Frame) (fr' : Frame) (cs' : List Frame) (w : World) (fr1 : Frame) (cs1 : List Frame) (wl1 : World) (B1 : BR) (fr1' : Frame) (l1 l1' : List Frame) (w1 : World) (es : Array Event) : Prop where
  cs1 : cs1 = l1 ++ c
  step : Step1 P fr' cs' w fr1' (l1' ++ base) w1 es
  fr : FR G FS P B1 fr1 fr1'
  frs : FRs G FS P B1 l1 l1'
  wr : WR G FS Sh B1 wl1 w1
  did : Did Sh B B1 w w1
  ev : ∀ e ∈ es, EvOK Sh B1 e
theorem seen_mem {fn : FuncId} {es : Array Event} {e : Event} (he : e ∈ seen P fn es) : e ∈ es := by
  unfold seen at he
  have key : ∀ (l : List Event) (q : Bool) (k : Array Event) (e : Event), e ∈ (l.foldl (fun (x : Bool × Array Event) e => match e.loc with | .mark (.extern f) => ((P.funcs[f]?).any (·.norace), x.2) | _ => (x.1, if x.1 && !e.sync then x.2 else x.2.push e)) (q, k)).2 → e ∈ k ∨ e ∈ l := by
    intro l
    induction l with
    | nil => intro q k e he; exact .inl he
    | cons a l ih =>
      intro q k e he
      simp only [List.foldl_cons] at he
      rcases ih _ _ e he with h | h
      · revert h
        split
        · intro h; exact .inl h
        · split
          · intro h; exact .inl h
          · intro h
            rcases Array.mem_push.1 h with h | h
            · exact .inl h
            · exact .inr (by simp [h])
      · exact .inr (List.mem_cons_of_mem _ h)
  simp only at he
  rw [← Array.foldl_toList] at he
  rcases key es.toList _ _ e he with h | h
  · simp at h
  · simpa using h
theorem Step1.sim (H : OpenOK G FS P) (HB : BodiesOK G FS P) {c base : List Frame} {fr fr' fr1 : Frame} {l l' cs1 : List Frame} {wl w wl1 : World} {es : Array Event} (hf : FR G FS P B fr fr') (hl : FRs G FS P B l l') (hw : WR G FS Sh B wl w) (hs : Step1 P fr (l ++ c) wl fr1 cs1 wl1 es) (hend : fr.mode = .returning → l ≠ []) :
    ∃ B1 fr1' l1 l1' w1 es', Match G FS Sh P B c base fr' (l' ++ base) w fr1 cs1 wl1 B1 fr1' l1 l1' w1 es' := by
  generalize hcs : l ++ c = cs at hs
  cases hs with
  | ctl hm hc =>
    obtain ⟨fr1', h1, h2⟩ := sim_ctl hf hc
    exact ⟨B, fr1', l, l', w, #[], hcs.symm, .ctl (by rw [hf.mode, hm]) h1, h2, hl, hw, Did.refl _ _, by simp⟩
  | draw hm ht hr =>
    rename_i id ops k t
    have hk : ∀ i ∈ (.inRegion ops (Region.schedule (P.follows .mixedOrders) ops t) :: k : List Item), ItemT G FS P i := by
      have hi := hf.ft.todo
      rw [ht] at hi
      intro i hk
      rcases List.mem_cons.1 hk with rfl | hk
      · exact hi (.code (.region id ops true)) (by simp)
      · exact hi i (List.mem_cons_of_mem _ hk)
    have hsem : SemR (G := G) (FS := FS) P EqQ B (choose (.order fr.fn id)) (choose (.order fr.fn id)) := .choose fun n => .pure rfl
    obtain ⟨B1, t', w1, es', h1, h2, h3, h4, h5⟩ := hsem.run #[] hw hr
    obtain rfl : t' = t := h2
    have h1' : (choose (.order fr'.fn id)).run P w = .ok t' w1 := by
      rw [hf.fn, ← Sem.runT_fst P _ w #[], h1]
    exact ⟨B1, _, l, l', w1, #[], hcs.symm, .draw (by rw [hf.mode, hm]) (by rw [hf.todo, ht]) h1', (hf.mono h4.sub).to hk, hl.mono h4.sub, h3, h4, by simp⟩
  | oper hm ht ho hwant hr ha =>
    rename_i ops i rest k o n es0
    have htame : OpTame G FS P o.op := by
      have := hf.ft.todo (.inRegion ops (i :: rest)) (by rw [ht]; simp)
      refine this o ?_
      have := Array.mem_of_getElem? ho
      simpa using this
    have hsem := r_execOp H (B := B) (ρ := fr.eval) (ρ' := fr'.eval) hf.eval htame
    have hr' : (execOp fr.eval o).run P wl = .ok n wl1 := by rw [← Sem.runT_fst P _ wl #[], hr]
    obtain ⟨B1, n', w1, es', h1, h2, h3, h4, h5⟩ := hsem.run #[] hw hr'
    have hev : ∀ e ∈ seen P fr'.fn es', EvOK Sh B1 e := by
      intro e he
      rcases h5 e (seen_mem he) with h | h
      · simp at h
      · exact h
    have hwant' : Region.wanted o (yielded ops fr'.tmps) = true := by rw [hf.yielded]; exact hwant
    cases h2 with
    | value hv =>
      simp only [after, Option.some.injEq, Prod.mk.injEq] at ha
      obtain ⟨rfl, rfl⟩ := ha
      exact ⟨B1, _, l, l', w1, _, hcs.symm, .oper (by rw [hf.mode, hm]) (by rw [hf.todo, ht]) ho hwant' h1 rfl, (hf.mono h4.sub).finish ht hv, hl.mono h4.sub, h3, h4, hev⟩
    | skip =>
      simp only [after, Option.some.injEq, Prod.mk.injEq] at ha
      obtain ⟨rfl, rfl⟩ := ha
      exact ⟨B1, _, l, l', w1, _, hcs.symm, .oper (by rw [hf.mode, hm]) (by rw [hf.todo, ht]) ho hwant' h1 rfl, (hf.mono h4.sub).finish ht VR.undef, hl.mono h4.sub, h3, h4, hev⟩
    | enter f hfs has =>
      simp only [after, Option.some.injEq, Prod.mk.injEq] at ha
      obtain ⟨rfl, rfl⟩ := ha
      exact ⟨B1, _, fr :: l, fr' :: l', w1, _, by rw [← hcs]; rfl, .oper (by rw [hf.mode, hm]) (by rw [hf.todo, ht]) ho hwant' h1 rfl, FR.enter HB hfs has, .cons (hf.mono h4.sub) hm ⟨ops, i, rest, k, ht⟩ (hl.mono h4.sub), h3, h4, hev⟩
  | ret hm hfn hr =>
    rename_i fn v
    have hne := hend hm
    cases hl with
    | nil => exact absurd rfl hne
    | @cons d d' l l' hd hdm hdt hl =>
      obtain ⟨ops, i, rest, k, hdt⟩ := hdt
      rw [List.cons_append] at hcs
      injection hcs with h1 h2
      subst h1 h2
      obtain ⟨ts, hts⟩ := tmps_of fn.results.toList (HB.res _ hf.ft.fn fn hfn)
      have e := results_tmps hts fr.tmps
      have e' := results_tmps hts fr'.tmps
      rw [e] at hr
      have hv : v = resOf (ts.map fun t => fr.tmps.getD t undef) := by
        have := congrArg Prod.fst hr
        simp only [pure, Sem.runT] at this
        injection this with this
        exact this.symm
      subst hv
      have hret : Step1 P fr' (d' :: (l' ++ base)) w (d'.finish (resOf (ts.map fun t => fr'.tmps.getD t undef))) (l' ++ base) w #[] := .ret (by rw [hf.mode, hm]) (by rw [hf.fn]; exact hfn) (by rw [e']; rfl)
      exact ⟨B, _, l, l', w, #[], rfl, hret, hd.finish hdt (resOf_rel hf.tmps ts), hl, hw, Did.refl _ _, by simp⟩
end
end Go.Proofs.Ytgeoffpcmkofkaa
/- A lone run that comes back takes none but these steps. -/
namespace Go.Proofs.Ytgeoffpcmkofkaa
open Go

/-- The caller under all: a panic ends the program there, and so does a return. -/
def shut (P : Program) : Frame := { fn := P.funcs.size, tmps := #[], todo := [.call { target := .nil, args := #[] } false "fmt's door, shut" #[]], defers := [], mode := .run, kind := .normal }
theorem shut_row : Extern.next "fmt's door, shut" = none := by decide +kernel
section
variable {G : Nat} {FS : FuncId → Prop} {Sh : Nat → Prop} {P : Program} {B : BR}
/-- The lone machine with this caller under all. -/
abbrev L (P : Program) (fr : Frame) (l : List Frame) (w : World) : Machine := lone fr (l ++ [shut P]) w
theorem step_go {fr fr1 : Frame} {cs cs1 : List Frame} {w w1 : World} {es : Array Event} (h : stepG P true { frame := fr, callers := cs, status := .running, dying := none } w = .go { frame := fr1, callers := cs1, status := .running, dying := none } w1 es) : step P (lone fr cs w) = .next (lone fr1 cs1 w1) := step_lone_go (by rw [h]; rfl)
theorem step_end {fr : Frame} {cs : List Frame} {w w1 : World} {o : Outcome} {es : Array Event} (h : stepG P true { frame := fr, callers := cs, status := .running, dying := none } w = .ended o w1 es) : step P (lone fr cs w) = .ended o w1 := step_lone_ended (by rw [h]; rfl)
/-- Frames that run a body and have nothing deferred. -/
def Bare (P : Program) (fr : Frame) : Prop := fr.defers = [] ∧ ∃ fn, P.funcs[fr.fn]? = some fn
theorem no_way_shut {ch : List PanicEntry} {w : World} : ∀ (n : Nat) (fr1 : Frame) (w1 : World), fr1.mode = .returning → runN P n (lone ((shut P).raise ch) [] w) ≠ .next (L P fr1 [] w1)
  | 0, fr1, w1, hm, h => by
    simp only [runN, L, lone, Stepped.next.injEq, Machine.mk.injEq] at h
    have := h.2.1
    simp at this
  | n + 1, fr1, w1, hm, h => by
    have : step P (lone ((shut P).raise ch) [] w) = .ended (.unsupported (.noEntry "a panic or Goexit out of a method that fmt calls behind a cut's door") (((shut P).raise ch).pos P)) w := by
      refine step_end (es := #[]) ?_
      unfold stepG
      simp only [Frame.raise, shut]
      unfold unwind
      simp [Frame.catches]
    simp only [runN, this] at h
    cases h
theorem no_way_back : ∀ (n : Nat) (l : List Frame) (fr : Frame) (ch : List PanicEntry) (w : World), (∀ x ∈ l, Bare P x ∧ x.mode = .run) → Bare P fr → fr.mode = .panicking ch → ∀ (fr1 : Frame) (w1 : World), fr1.mode = .returning → runN P n (L P fr l w) ≠ .next (L P fr1 [] w1)
  | 0, l, fr, ch, w, _, _, hp, fr1, w1, hm, h => by
    simp only [runN, L, lone, Stepped.next.injEq, Machine.mk.injEq] at h
    have := h.2.1
    simp at this
    rw [this.1] at hp
    rw [hp] at hm
    cases hm
  | n + 1, l, fr, ch, w, hl, hb, hp, fr1, w1, hm, h => by
    obtain ⟨hd, fn, hfn⟩ := hb
    cases l with
    | nil =>
      have : step P (L P fr [] w) = .next (lone ((shut P).raise ch) [] w) := by
        refine step_go (es := #[]) ?_
        unfold stepG
        simp only [hp]
        unfold unwind
        simp [hd, hp, Frame.catches, hfn]
      simp only [runN, this] at h
      exact no_way_shut n fr1 w1 hm h
    | cons x l =>
      have : step P (L P fr (x :: l) w) = .next (L P (x.raise ch) l w) := by
        refine step_go (es := #[]) ?_
        unfold stepG
        simp only [hp]
        unfold unwind
        simp [hd, hp, Frame.catches, hfn]
      simp only [runN, this] at h
      have hx := hl x (by simp)
      refine no_way_back n l (x.raise ch) ch w (fun y hy => hl y (by simp [hy])) ?_ ?_ fr1 w1 hm h
      · simp only [Frame.raise, hx.2]
        exact hx.1
      · simp only [Frame.raise, hx.2]
theorem finish_mode (fr : Frame) (v : Value) : (fr.finish v).mode = fr.mode := by
  unfold Frame.finish
  split <;> rfl
theorem Step1.mode {fr fr1 : Frame} {l l' cs1 : List Frame} {w w1 : World} {es : Array Event} (hl : FRs G FS P B l l') (hs : Step1 P fr (l ++ [shut P]) w fr1 cs1 w1 es) : fr1.mode = .run ∨ fr1.mode = .returning := by
  generalize hcs : l ++ [shut P] = cs at hs
  cases hs with
  | ctl hm hc =>
    unfold Ytgeoffpcmkofkaa.ctl at hc
    split at hc
    all_goals (first | (cases hc; done) | skip)
    all_goals (first | (injection hc with hc; subst hc; first | exact .inr rfl | exact .inl hm) | skip)
    · split at hc
      · injection hc with hc; subst hc; exact .inl hm
      · injection hc with hc; subst hc; exact .inl hm
      · cases hc
    · rename_i id k _
      cases he : exitTo id k with
      | none => rw [he] at hc; cases hc
      | some k' => rw [he] at hc; injection hc with hc; subst hc; exact .inl hm
    · rename_i id k _
      cases he : gotoIn id k with
      | none => rw [he] at hc; cases hc
      | some k' => rw [he] at hc; injection hc with hc; subst hc; exact .inl hm
    · split at hc
      · cases hc
      · injection hc with hc
        subst hc
        exact .inl (by rw [finish_mode]; exact hm)
  | draw hm ht hr => exact .inl hm
  | oper hm ht ho hwant hr ha =>
    rename_i n _
    cases n <;> simp only [after, reduceCtorEq] at ha <;> (injection ha with ha; injection ha with h1 h2; subst h1)
    · exact .inl (by rw [finish_mode]; exact hm)
    · exact .inl (by rw [finish_mode]; exact hm)
    · exact .inl rfl
  | ret hm hfn hr =>
    cases hl with
    | nil =>
      simp only [List.nil_append, List.cons.injEq] at hcs
      rw [← hcs.1]
      exact .inl rfl
    | cons h1 h2 _ _ =>
      rw [List.cons_append] at hcs
      injection hcs with h3 h4
      subst h3
      exact .inl (by rw [finish_mode]; exact h2)
/-- No variable of the program waits for its first value. -/
structure NoEarly (P : Program) : Prop where
  follows : P.follows .staticDataAhead = true
  none : ∀ g, P.stepOf g = Option.none
theorem lone_cases (H : OpenOK G FS P) (HB : BodiesOK G FS P) (HN : NoEarly P) {fr fr' : Frame} {l l' : List Frame} {wl w : World} (hf : FR G FS P B fr fr') (hl : FRs G FS P B l l') (hw : WR G FS Sh B wl w) (hm : fr.mode = .run ∨ fr.mode = .returning) (hend : fr.mode = .returning → l ≠ []) :
    (∃ fr1 cs1 wl1 es, Step1 P fr (l ++ [shut P]) wl fr1 cs1 wl1 es) ∨ (∃ ch wl1, step P (L P fr l wl) = .next (L P { fr with mode := .panicking ch } l wl1)) ∨ (∃ o wl1, step P (L P fr l wl) = .ended o wl1) := by
  rcases hm with hm | hm
  · rcases stands (main := true) hf.ft hm with ⟨fr1, h⟩ | ⟨id, ops, k, h, _⟩ | ⟨ops, i, rest, k, o, h1, h2, h3, h4⟩ | h
    · exact .inl ⟨_, _, _, _, .ctl hm h⟩
    · have hr : ∃ t w1, (choose (.order fr.fn id)).run P wl = .ok t w1 := by
        simp only [choose, Sem.run]
        split <;> exact ⟨_, _, rfl⟩
      obtain ⟨t, w1, hr⟩ := hr
      exact .inl ⟨_, _, _, _, .draw hm h hr⟩
    · have hsem := r_execOp H (B := B) (ρ := fr.eval) (ρ' := fr'.eval) hf.eval h4
      have hfst := Sem.runT_fst P (execOp fr.eval o) wl #[]
      cases hr : (execOp fr.eval o).runT P wl #[] with
      | mk r es =>
        rw [hr] at hfst
        simp only at hfst
        cases r with
        | ok n w1 =>
          obtain ⟨B1, n', w2, es', k1, k2, _⟩ := hsem.run #[] hw hfst.symm
          cases k2 with
          | value hv => exact .inl ⟨_, _, _, _, .oper hm h1 h2 h3 hr rfl⟩
          | skip => exact .inl ⟨_, _, _, _, .oper hm h1 h2 h3 hr rfl⟩
          | enter f hfs has => exact .inl ⟨_, _, _, _, .oper hm h1 h2 h3 hr rfl⟩
        | halt x w1 =>
          have hmild := hsem.halts hw hfst.symm
          have hop : fr.oper? = some o := by simp [Frame.oper?, h1, h2]
          have hg : stepG P true { frame := fr, callers := l ++ [shut P], status := .running, dying := none } wl = stepG.apply P true fr (l ++ [shut P]) none (execOp fr.eval o) wl := by
            unfold stepG
            simp only [hm]
            unfold stepG.exec
            simp only [h1]
            rw [if_pos (by simp [h2, h3])]
            unfold stepG.oper
            simp only [hop, hf.ft.round]
          cases x with
          | stuck why => exact .inr (.inr ⟨_, _, step_end (by rw [hg]; unfold stepG.apply; simp only [if_true, hr]; rfl)⟩)
          | panic v =>
            refine .inr (.inl ⟨[{ v, recovered := false }], w1, ?_⟩)
            refine step_go (es := seen P fr.fn es) ?_
            rw [hg]
            unfold stepG.apply
            simp only [if_true, hr, hf.ft.kind, GStep.after, Frame.raise, hm]
            simp
          | unsupported u =>
            cases u with
            | initOrder g =>
              refine .inr (.inr ⟨.unsupported (.initOrder g) (fr.pos P), w1, ?_⟩)
              refine step_end (es := seen P fr.fn #[]) ?_
              rw [hg]
              unfold stepG.apply
              simp only [if_true, hr, hf.ft.kind, early, HN.follows, HN.none, GStep.after]
              simp
            | _ => exact .inr (.inr ⟨_, _, step_end (by rw [hg]; unfold stepG.apply; simp only [if_true, hr]; rfl)⟩)
          | _ => exact hmild.elim
    · obtain ⟨o, w1, h⟩ := h (l ++ [shut P]) wl
      exact .inr (.inr ⟨o, w1, step_end h⟩)
  · obtain ⟨fn, hfn⟩ := HB.there _ hf.ft.fn
    obtain ⟨ts, hts⟩ := tmps_of fn.results.toList (HB.res _ hf.ft.fn fn hfn)
    have e := results_tmps hts fr.tmps
    cases l with
    | nil => exact absurd rfl (hend hm)
    | cons x l => exact .inl ⟨_, _, _, _, .ret hm hfn (by rw [e]; rfl)⟩
end
end Go.Proofs.Ytgeoffpcmkofkaa
