/- Frames of one alone, and their steps. -/
import Derived.Test.YtgeoffpcmkofkaaMd
namespace Go.Proofs.Ytgeoffpcmkofkaa
open Go Go.Conc

/-- The steps of one alone; results may lie in memory. -/
inductive StepP (P : Program) : Frame → List Frame → World → Frame → List Frame → World → Array Event → Prop
  | ctl {fr fr1 : Frame} {cs : List Frame} {w : World} : fr.mode = .run → Ytgeoffpcmkofkaa.ctl fr = some fr1 → StepP P fr cs w fr1 cs w #[]
  | draw {fr : Frame} {cs : List Frame} {w w1 : World} {id : Nat} {ops : Array Oper} {k : List Item} {t : Nat} : fr.mode = .run → fr.todo = .code (.region id ops true) :: k → (choose (.order fr.fn id)).run P w = .ok t w1 → StepP P fr cs w { fr with todo := .inRegion ops (Region.schedule (P.follows .mixedOrders) ops t) :: k } cs w1 #[]
  | oper {fr fr1 : Frame} {cs cs1 : List Frame} {w w1 : World} {ops : Array Oper} {i : Nat} {rest : List Nat} {k : List Item} {o : Oper} {n : Next} {es : Array Event} : fr.mode = .run → fr.todo = .inRegion ops (i :: rest) :: k → ops[i]? = some o → Region.wanted o (yielded ops fr.tmps) = true → (execOp fr.eval o).runT P w #[] = (.ok n w1, es) → after P fr cs n = some (fr1, cs1) → StepP P fr cs w fr1 cs1 w1 (seen P fr.fn es)
  | ret {fr c : Frame} {cs : List Frame} {w w1 : World} {fn : Func} {v : Value} {es : Array Event} : fr.mode = .returning → P.funcs[fr.fn]? = some fn → (results fn fr.tmps).runT P w #[] = (.ok v w1, es) → StepP P fr (c :: cs) w (c.finish v) cs w1 (seen P fr.fn es)
theorem step_retE {P : Program} {main : Bool} {cs : List Frame} {w w1 : World} {st : GoStatus} {off : Option (Array CommCase × CommShape)} {fr c : Frame} {fn : Func} {v : Value} {es : Array Event} (hm : fr.mode = .returning) (hd : fr.defers = []) (hk : fr.kind = .normal) (hf : P.funcs[fr.fn]? = some fn) (h : (results fn fr.tmps).runT P w #[] = (.ok v w1, es)) : stepG P main { frame := fr, callers := c :: cs, status := st, dying := none, offers := off } w = .go { frame := c.finish v, callers := cs, status := .running, dying := none } w1 (seen P fr.fn es) := by
  unfold stepG
  simp only [hm]
  unfold unwind
  simp only [hd, hm, hf, h]
  simp [doReturn, hk, GStep.after]
theorem pt_results {P : Program} (fn : Func) (tmps : Array Value) : PT P (results fn tmps) := by
  unfold results
  refine p_bnd (pt_mapM _ (fun r => ?_) _) fun _ => .pure trivial
  cases r with
  | tmp t => exact .pure trivial
  | cell a t => exact p_bnd (pt_asAddr _) fun _ => pt_loadVar _ _
section
variable (P : Program) (FS : FuncId → Prop)
def CodeP : Code → Prop
  | .region _ ops _ => ∀ o ∈ ops.toList, OpP P FS o.op
  | .seq a b => CodeP a ∧ CodeP b
  | .cond _ a b => CodeP a ∧ CodeP b
  | .block _ b | .loop b => CodeP b
  | .skip | .exit _ | .ret => True
  | _ => False
def ItemP : Item → Prop
  | .code c => CodeP P FS c
  | .inLoop b => CodeP P FS b
  | .inBlock _ => True
  | .inRegion ops _ => ∀ o ∈ ops.toList, OpP P FS o.op
  | _ => False
structure BodP : Prop where
  func : ∀ f, FS f → FuncP P f
  body : ∀ f, FS f → ∀ fn, P.funcs[f]? = some fn → ∀ c, fn.body = some c → CodeP P FS c
structure FP (fr : Frame) : Prop where
  fn : ∃ fn, P.funcs[fr.fn]? = some fn
  todo : ∀ i ∈ fr.todo, ItemP P FS i
  defers : fr.defers = []
  kind : fr.kind = .normal
  round : fr.roundOf = none
def FPs (l : List Frame) : Prop := ∀ x ∈ l, FP P FS x ∧ x.mode = .run ∧ ∃ ops i rest k, x.todo = .inRegion ops (i :: rest) :: k
end
section
variable {P : Program} {FS : FuncId → Prop} {main : Bool}
theorem FP.to {fr : Frame} (h : FP P FS fr) {k : List Item} (hk : ∀ i ∈ k, ItemP P FS i) : FP P FS { fr with todo := k } := ⟨h.fn, hk, h.defers, h.kind, h.round⟩
theorem FP.finish {fr : Frame} (h : FP P FS fr) {ops : Array Oper} {i : Nat} {rest : List Nat} {k : List Item} (ht : fr.todo = .inRegion ops (i :: rest) :: k) (v : Value) : FP P FS (fr.finish v) := by
  have h0 := h.todo _ (by rw [ht]; exact List.mem_cons_self)
  have hk : ∀ i ∈ k, ItemP P FS i := fun i hx => h.todo i (by rw [ht]; simp [hx])
  unfold Frame.finish
  simp only [ht]
  refine ⟨h.fn, fun j hj => ?_, h.defers, h.kind, h.round⟩
  rcases List.mem_cons.1 hj with rfl | hj
  · exact h0
  · exact hk j hj
theorem FP.ctl {fr fr1 : Frame} (h : FP P FS fr) (hc : Ytgeoffpcmkofkaa.ctl fr = some fr1) : FP P FS fr1 := by
  have hi := h.todo
  unfold Ytgeoffpcmkofkaa.ctl at hc
  have two : ∀ {x y : Item} {k : List Item}, ItemP P FS x → ItemP P FS y → (∀ i ∈ k, ItemP P FS i) → ∀ i ∈ x :: y :: k, ItemP P FS i := by
    intro x y k hx hy hk i hi
    rcases List.mem_cons.1 hi with rfl | hi
    · exact hx
    · rcases List.mem_cons.1 hi with rfl | hi
      · exact hy
      · exact hk i hi
  have one : ∀ {x : Item} {k : List Item}, ItemP P FS x → (∀ i ∈ k, ItemP P FS i) → ∀ i ∈ x :: k, ItemP P FS i := by
    intro x k hx hk i hi
    rcases List.mem_cons.1 hi with rfl | hi
    · exact hx
    · exact hk i hi
  cases ht : fr.todo with
  | nil =>
    rw [ht] at hc
    injection hc with hc
    subst hc
    exact ⟨h.fn, by rw [ht] at hi; exact hi, h.defers, h.kind, h.round⟩
  | cons it k =>
    have h0 := hi it (by rw [ht]; simp)
    have hk : ∀ i ∈ k, ItemP P FS i := fun i hx => hi i (by rw [ht]; simp [hx])
    rw [ht] at hc
    cases it with
    | inBlock id => injection hc with hc; subst hc; exact h.to hk
    | inLoop b => injection hc with hc; subst hc; exact h.to (two h0 h0 hk)
    | inScope b => exact h0.elim
    | inRangeFunc l => exact h0.elim
    | endRangeFunc l => exact h0.elim
    | beginRound => exact h0.elim
    | call => exact h0.elim
    | extern => exact h0.elim
    | inRegion ops todo =>
      cases todo with
      | nil => injection hc with hc; subst hc; exact h.to hk
      | cons i rest =>
        simp only at hc
        split at hc
        · cases hc
        · injection hc with hc
          subst hc
          exact h.finish ht undef
    | code c =>
      cases c with
      | skip => injection hc with hc; subst hc; exact h.to hk
      | ret => injection hc with hc; subst hc; exact ⟨h.fn, by rw [ht] at hi; exact hi, h.defers, h.kind, h.round⟩
      | label l => exact h0.elim
      | seq a b => injection hc with hc; subst hc; exact h.to (two h0.1 h0.2 hk)
      | block id b => injection hc with hc; subst hc; exact h.to (two h0 trivial hk)
      | loop b => injection hc with hc; subst hc; exact h.to (two h0 h0 hk)
      | scope b => exact h0.elim
      | rangeFunc => exact h0.elim
      | refuse why => exact h0.elim
      | goto l => exact h0.elim
      | region id ops draw =>
        cases draw with
        | false => injection hc with hc; subst hc; exact h.to (one h0 hk)
        | true => cases hc
      | cond c a b =>
        simp only at hc
        split at hc
        · injection hc with hc; subst hc; exact h.to (one h0.1 hk)
        · injection hc with hc; subst hc; exact h.to (one h0.2 hk)
        · cases hc
      | exit id =>
        simp only at hc
        cases he : exitTo id k with
        | none => rw [he] at hc; cases hc
        | some k' =>
          rw [he] at hc
          injection hc with hc
          subst hc
          exact h.to fun i hx => hk i (exitTo_sub he i hx)
/-- Where a running frame stands. -/
theorem standsP {fr : Frame} (hf : FP P FS fr) (hm : fr.mode = .run) :
    (∃ fr1, ctl fr = some fr1) ∨ (∃ id ops k, fr.todo = .code (.region id ops true) :: k ∧ ∀ o ∈ ops.toList, OpP P FS o.op) ∨
    (∃ ops i rest k o, fr.todo = .inRegion ops (i :: rest) :: k ∧ ops[i]? = some o ∧ Region.wanted o (yielded ops fr.tmps) = true ∧ OpP P FS o.op) ∨
    (∀ cs w, ∃ o w1, stepG P main { frame := fr, callers := cs, status := .running, dying := none } w = .ended o w1 #[]) := by
  have hx : ∀ cs w, stepG P main { frame := fr, callers := cs, status := .running, dying := none } w = stepG.exec P main true fr cs none w := by
    intro cs w
    unfold stepG
    simp only [hm]
  have hi := hf.todo
  have hr := hf.round
  cases ht : fr.todo with
  | nil => exact .inl ⟨_, by simp only [ctl, ht]; rfl⟩
  | cons it k =>
    have h0 := hi it (by rw [ht]; simp)
    cases it with
    | inBlock id => exact .inl ⟨_, by simp only [ctl, ht]; rfl⟩
    | inLoop b => exact .inl ⟨_, by simp only [ctl, ht]; rfl⟩
    | inScope b => exact h0.elim
    | inRangeFunc l => exact h0.elim
    | endRangeFunc l => exact h0.elim
    | beginRound => exact h0.elim
    | call => exact h0.elim
    | extern => exact h0.elim
    | inRegion ops todo =>
      cases todo with
      | nil => exact .inl ⟨_, by simp only [ctl, ht]; rfl⟩
      | cons i rest =>
        by_cases hw : ((ops[i]?).map (Region.wanted · (yielded ops fr.tmps))).getD false = true
        · cases ho : ops[i]? with
          | none => rw [ho] at hw; simp at hw
          | some o =>
            rw [ho] at hw
            refine .inr (.inr (.inl ⟨ops, i, rest, k, o, rfl, ho, by simpa using hw, h0 o ?_⟩))
            have := Array.mem_of_getElem? ho
            simpa using this
        · exact .inl ⟨_, by simp only [ctl, ht, if_neg hw]; rfl⟩
    | code c =>
      cases c with
      | skip => exact .inl ⟨_, by simp only [ctl, ht]; rfl⟩
      | ret => exact .inl ⟨_, by simp only [ctl, ht]; rfl⟩
      | label l => exact h0.elim
      | seq a b => exact .inl ⟨_, by simp only [ctl, ht]; rfl⟩
      | block id b => exact .inl ⟨_, by simp only [ctl, ht]; rfl⟩
      | loop b => exact .inl ⟨_, by simp only [ctl, ht]; rfl⟩
      | scope b => exact h0.elim
      | rangeFunc => exact h0.elim
      | refuse why => exact h0.elim
      | region id ops draw =>
        cases draw with
        | false => exact .inl ⟨_, by simp only [ctl, ht]; rfl⟩
        | true => exact .inr (.inl ⟨id, ops, k, rfl, h0⟩)
      | cond c a b =>
        by_cases hb : ∃ b, fr.eval c = .bool b
        · obtain ⟨v, hv⟩ := hb
          cases v <;> exact .inl ⟨_, by simp only [ctl, ht, hv]; rfl⟩
        · refine .inr (.inr (.inr fun cs w => ?_))
          rw [hx]
          unfold stepG.exec
          simp only [ht]
          split
          · rename_i v hv; exact absurd ⟨v, hv⟩ hb
          · exact ⟨_, _, rfl⟩
      | exit id =>
        cases he : exitTo id k with
        | some k' => exact .inl ⟨_, by simp only [ctl, ht, he]; rfl⟩
        | none =>
          refine .inr (.inr (.inr fun cs w => ?_))
          rw [hx]
          unfold stepG.exec
          simp only [ht, he, hr]
          exact ⟨_, _, rfl⟩
      | goto l => exact h0.elim

theorem ctl_mode {fr fr1 : Frame} (hm : fr.mode = .run) (hc : Ytgeoffpcmkofkaa.ctl fr = some fr1) : fr1.mode = .run ∨ fr1.mode = .returning := by
  unfold Ytgeoffpcmkofkaa.ctl at hc
  split at hc
  all_goals (first | (cases hc; done) | skip)
  all_goals (first | (injection hc with hc; subst hc; first | exact .inr rfl | exact .inl hm) | skip)
  · split at hc
    · injection hc with hc; subst hc; exact .inl hm
    · injection hc with hc; subst hc; exact .inl hm
    · cases hc
  · rename_i id k _
    cases he : exitTo id k with
    | none => rw [he] at hc; cases hc
    | some k' => rw [he] at hc; injection hc with hc; subst hc; exact .inl hm
  · rename_i id k _
    cases he : gotoIn id k with
    | none => rw [he] at hc; cases hc
    | some k' => rw [he] at hc; injection hc with hc; subst hc; exact .inl hm
  · split at hc
    · cases hc
    · injection hc with hc
      subst hc
      exact .inl (by rw [finish_mode]; exact hm)
theorem StepP.goes {fr fr1 : Frame} {cs cs1 : List Frame} {w w1 : World} {st : GoStatus} {off : Option (Array CommCase × CommShape)} {es : Array Event} (hf : FP P FS fr) (h : StepP P fr cs w fr1 cs1 w1 es) : stepG P main { frame := fr, callers := cs, status := st, dying := none, offers := off } w = .go { frame := fr1, callers := cs1, status := .running, dying := none } w1 es := by
  cases h with
  | ctl h1 h2 => exact step_ctl h1 hf.round h2
  | draw h1 h2 h3 => exact step_draw h1 h2 h3
  | oper h1 h2 h3 h4 h5 h6 => exact step_oper h1 hf.round hf.kind h2 h3 h4 h5 h6
  | ret h1 h2 h3 => exact step_retE h1 hf.defers hf.kind h2 h3
theorem StepP.same {fr a a' : Frame} {cs b b' : List Frame} {w c c' : World} {es es' : Array Event} (hf : FP P FS fr) (h : StepP P fr cs w a b c es) (h' : StepP P fr cs w a' b' c' es') : a' = a ∧ b' = b ∧ c' = c := by
  have e := h.goes (main := true) (st := .running) (off := none) hf
  have e' := h'.goes (main := true) (st := .running) (off := none) hf
  rw [e] at e'
  injection e' with e1 e2 _
  injection e1 with e3 e4
  exact ⟨e3.symm, e4.symm, e2.symm⟩
theorem FP.enter (HB : BodP P FS) {f : FuncId} (hf : FS f) {fn : Func} {c : Code} (h1 : P.funcs[f]? = some fn) (hb : fn.body = some c) (xs : Array Value) : FP P FS (Frame.enter P f xs .normal) := by
  unfold Frame.enter
  simp only [h1]
  refine ⟨⟨fn, h1⟩, fun i hi => ?_, rfl, rfl, rfl⟩
  simp [hb] at hi
  subst hi
  exact HB.body f hf fn h1 c hb
theorem eval_func (fr : Frame) (f : FuncId) : fr.eval (.func f) = .func (.func f) #[] #[] := rfl
/-- One step on: such frames again. -/
theorem FP.step (HB : BodP P FS) {fr fr1 : Frame} {l cs1 : List Frame} {w w1 : World} {es : Array Event} (hf : FP P FS fr) (hl : FPs P FS l) (hend : fr.mode = .returning → l ≠ []) (hs : StepP P fr (l ++ [shut P]) w fr1 cs1 w1 es) : ∃ l1, cs1 = l1 ++ [shut P] ∧ FP P FS fr1 ∧ FPs P FS l1 ∧ (fr1.mode = .run ∨ fr1.mode = .returning) := by
  generalize hcs : l ++ [shut P] = cs at hs
  cases hs with
  | ctl hm hc =>
    refine ⟨l, hcs.symm, hf.ctl hc, hl, ?_⟩
    exact ctl_mode hm hc
  | draw hm ht hr =>
    rename_i id ops k t
    refine ⟨l, hcs.symm, hf.to fun i hi => ?_, hl, .inl hm⟩
    have h0 := hf.todo (.code (.region id ops true)) (by rw [ht]; exact List.mem_cons_self)
    rcases List.mem_cons.1 hi with rfl | hi
    · exact h0
    · exact hf.todo i (by rw [ht]; simp [hi])
  | oper hm ht ho hwant hr ha =>
    rename_i ops i rest k o n es0
    have hop : OpP P FS o.op := by
      have := hf.todo (.inRegion ops (i :: rest)) (by rw [ht]; simp)
      refine this o ?_
      have := Array.mem_of_getElem? ho
      simpa using this
    have hr' : (execOp fr.eval o).run P w = .ok n w1 := by rw [← Sem.runT_fst P _ w #[], hr]
    have hq := (p_execOp HB.func (eval_func fr) hop).post hr'
    rcases hq with ⟨v, rfl⟩ | rfl | ⟨f, xs, rfl, hff, fn, c, hfn, hfb⟩
    · simp only [after, Option.some.injEq, Prod.mk.injEq] at ha
      obtain ⟨rfl, rfl⟩ := ha
      exact ⟨l, hcs.symm, hf.finish ht v, hl, .inl (by rw [finish_mode]; exact hm)⟩
    · simp only [after, Option.some.injEq, Prod.mk.injEq] at ha
      obtain ⟨rfl, rfl⟩ := ha
      exact ⟨l, hcs.symm, hf.finish ht undef, hl, .inl (by rw [finish_mode]; exact hm)⟩
    · simp only [after, Option.some.injEq, Prod.mk.injEq] at ha
      obtain ⟨rfl, rfl⟩ := ha
      refine ⟨fr :: l, by rw [← hcs]; rfl, FP.enter HB hff hfn hfb xs, fun x hx => ?_, .inl rfl⟩
      rcases List.mem_cons.1 hx with rfl | hx
      · exact ⟨hf, hm, ops, i, rest, k, ht⟩
      · exact hl x hx
  | ret hm hfn hr =>
    cases l with
    | nil => exact absurd rfl (hend hm)
    | cons x l =>
      simp only [List.cons_append, List.cons.injEq] at hcs
      obtain ⟨rfl, rfl⟩ := hcs
      obtain ⟨h1, h2, ops, i, rest, k, h3⟩ := hl x (by simp)
      exact ⟨l, rfl, h1.finish h3 _, fun y hy => hl y (by simp [hy]), .inl (by rw [finish_mode]; exact h2)⟩
end
end Go.Proofs.Ytgeoffpcmkofkaa
