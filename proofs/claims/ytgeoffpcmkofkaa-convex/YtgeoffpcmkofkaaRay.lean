/- Md; Me; Mf; Mg: texts laid into one. -/
import Derived.Test.YtgeoffpcmkofkaaRax
/- Operations of one alone: all of them. -/
namespace Go.Proofs.Ytgeoffpcmkofkaa
open Go Go.Conc

section
variable {P : Program} {α β : Type}
theorem pt_underlying' (t : TypeId) : Plain P (fun d => P.underlying t = some d) (underlying t) := by
  unfold underlying
  refine p_bind (Q' := fun p => p = P) (.program (.pure rfl)) fun p hp => ?_
  subst hp
  cases h : p.underlying t with
  | some d => exact .pure rfl
  | none => exact pt_stuck _
theorem pt_convert {s d : TypeId} (hs : NumT P s) (hd : NumT P d) (x : Value) : PT P (convert s d x) := by
  obtain ⟨ds, h1, h2⟩ := hs
  obtain ⟨dd, h3, h4⟩ := hd
  unfold convert
  refine p_bind (pt_underlying' s) fun a ha => ?_
  refine p_bind (pt_underlying' d) fun b hb => ?_
  rw [h1] at ha
  rw [h3] at hb
  injection ha with ha
  injection hb with hb
  subst ha hb
  have pi : ∀ k n, PT P (Conv.intToInt k n) := fun _ _ => .pure trivial
  have pf : ∀ k n, PT P (Conv.intToFloat k n) := fun _ _ => .pure trivial
  rcases h2 with ⟨k, rfl⟩ | ⟨k, rfl⟩ <;> rcases h4 with ⟨k', rfl⟩ | ⟨k', rfl⟩ <;> cases x
  all_goals first | exact pi _ _ | exact pf _ _ | exact pt_f2i _ _ _ | exact pt_f2f _ _ _ | exact pt_unsupported _ | skip
  all_goals rename_i a
  all_goals cases a
  all_goals exact pt_unsupported _
/-- What comes of an operation. -/
def NextP (P : Program) (FS : FuncId → Prop) (n : Next) : Prop := (∃ v, n = .value v) ∨ n = .skip ∨ ∃ f xs, n = .enter f xs ∧ FS f ∧ ∃ fn c, P.funcs[f]? = some fn ∧ fn.body = some c
/-- A function that is called outright. -/
structure FuncP (P : Program) (f : FuncId) : Prop where
  there : ∃ fn, P.funcs[f]? = some fn ∧ (fn.name == "runtime.NumGoroutine") = false ∧ (fn.body.isNone = false ∨ (fn.body.isNone = true ∧ Extern.findNext fn = none ∧ ∃ e, Extern.find fn = some e ∧ ∀ xs, PT P (e xs)))
def OpP (P : Program) (FS : FuncId → Prop) : Op → Prop
  | .move _ | .assign _ | .pick _ _ _ | .alloc _ | .box _ _ | .build _ _ | .buildSlice _ _ _ | .load _ _ | .store _ _ _ | .unOp _ _ _ | .makeInterface _ _ | .extract _ _ | .panic _ | .makeSlice _ _ _ | .indexAddr _ _ _ | .index _ _ _ | .binOp _ _ _ _ _ | .slice _ _ _ _ _ | .fieldAddr _ _ _ | .lookup _ _ _ _ | .makeMap _ _ | .mapUpdate _ _ _ _ => True
  | .convert s d _ => NumT P s ∧ NumT P d
  | .call c => match c.callee with
    | .value (.func f) => FS f
    | .builtin b => b = .append ∨ b = .cap ∨ b = .len ∨ b = .clear ∨ b = .copy ∨ b = .min
    | _ => False
  | _ => False
theorem pv {FS : FuncId → Prop} {s : Sem Value} (h : PT P s) : Plain P (NextP P FS) (do pure (.value (← s))) := p_bnd h fun v => .pure (.inl ⟨v, rfl⟩)
theorem pu {FS : FuncId → Prop} {s : Sem Unit} (h : PT P s) : Plain P (NextP P FS) (do s; pure .skip) := p_bnd h fun _ => .pure (.inr (.inl rfl))
theorem p_callFunc {FS : FuncId → Prop} {f : FuncId} (hf : FS f) (hF : FuncP P f) (xs : Array Value) : Plain P (NextP P FS) (callFunc f xs) := by
  obtain ⟨fn, h1, h2, h3⟩ := hF.there
  unfold callFunc
  refine p_bind (Q' := fun p => p = P) (.program (.pure rfl)) fun p hp => ?_
  rw [hp]
  simp only [h1, h2, Bool.false_eq_true, if_false]
  rcases h3 with h3 | ⟨h3, h4, e, h5, h6⟩
  · simp only [h3, Bool.false_eq_true, if_false]
    cases hb : fn.body with
    | none => rw [hb] at h3; cases h3
    | some c => exact .pure (.inr (.inr ⟨f, xs, rfl, hf, fn, c, h1, hb⟩))
  · simp only [h3, if_true, h4, h5]
    exact p_bnd (pt_mark f) fun _ => pv (h6 xs)
theorem p_execOp {FS : FuncId → Prop} (HF : ∀ f, FS f → FuncP P f) {ρ : Operand → Value} (hρ : ∀ f, ρ (.func f) = .func (.func f) #[] #[]) {o : Oper} (ho : OpP P FS o.op) : Plain P (NextP P FS) (execOp ρ o) := by
  cases h : o.op <;> rw [h] at ho <;> (try exact ho.elim)
  all_goals (unfold execOp; simp only [h])
  case move => exact .pure (.inl ⟨_, rfl⟩)
  case assign => exact .pure (.inl ⟨_, rfl⟩)
  case pick => exact p_bnd (pt_asBool _) fun _ => .pure (.inl ⟨_, rfl⟩)
  case alloc => exact pv (pt_alloc _ _ _)
  case box => exact pv (pt_box _ _)
  case build => exact pv (pt_build _ _)
  case buildSlice => exact pv (pt_buildSlice _ _ _)
  case load => exact pv (pt_loadAt _ _)
  case store => exact pu (pt_storeAt _ _ _)
  case binOp => exact pv (p_bnd (pt_eqGuard _ _ _ _ _ _) fun _ => pt_binOp _ _ _ _)
  case unOp => exact pv (pt_unary _ _)
  case convert => exact pv (pt_convert ho.1 ho.2 _)
  case makeInterface => exact pv (pt_mkIface _ _)
  case makeSlice => exact pv (pt_makeSlice _ _ _)
  case slice => exact pv (pt_sliceAt _ _ _ _ _)
  case fieldAddr => exact pv (pt_fieldAt _ _ _)
  case indexAddr => exact pv (pt_indexAt _ _ _)
  case index => exact pv (pt_index _ _ _)
  case extract => exact pv (pt_extract _ _)
  case lookup => exact pv (pt_lookup _ _ _ _)
  case makeMap => exact pv (pt_makeMap _ _)
  case mapUpdate => exact pu (pt_mapUpdate _ _ _ _)
  case panic x => exact .dead (dead_bind (dead_panic _))
  case call c =>
    unfold resolve
    simp only [OpP] at ho
    cases hc : c.callee with
    | invoke r n => rw [hc] at ho; exact ho.elim
    | builtin b =>
      rw [hc] at ho
      simp only
      rcases ho with rfl | rfl | rfl | rfl | rfl | rfl
      · exact pv (pt_append _ _ _)
      · exact pv (pt_cap _ _ _)
      · exact pv (pt_len _ _ _)
      · exact pv (pt_clear _ _ _)
      · exact pv (pt_copy _ _ _)
      · exact pv (pt_min _ _ _)
    | value x =>
      rw [hc] at ho
      cases x <;> (try exact ho.elim)
      rename_i f
      simp only [hρ]
      exact p_callFunc ho (HF f ho) _
end
end Go.Proofs.Ytgeoffpcmkofkaa
/- Frames of one alone, and their steps. -/
namespace Go.Proofs.Ytgeoffpcmkofkaa
open Go Go.Conc

/-- The steps of one alone; results may lie in memory. -/
inductive StepP (P : Program) : Frame → List Frame → World → Frame → List Frame → World → Array Event → Prop
  | ctl {fr fr1 : Frame} {cs : List Frame} {w : World} : fr.mode = .run → Ytgeoffpcmkofkaa.ctl fr = some fr1 → StepP P fr cs w fr1 cs w #[]
  | draw {fr : Frame} {cs : List Frame} {w w1 : World} {id : Nat} {ops : Array Oper} {k : List Item} {t : Nat} : fr.mode = .run → fr.todo = .code (.region id ops true) :: k → (choose (.order fr.fn id)).run P w = .ok t w1 → StepP P fr cs w { fr with todo := .inRegion ops (Region.schedule (P.follows .mixedOrders) ops t) :: k } cs w1 #[]
  | oper {fr fr1 : Frame} {cs cs1 : List Frame} {w w1 : World} {ops : Array Oper} {i : Nat} {rest : List Nat} {k : List Item} {o : Oper} {n : Next} {es : Array Event} : fr.mode = .run → fr.todo = .inRegion ops (i :: rest) :: k → ops[i]? = some o → Region.wanted o (yielded ops fr.tmps) = true → (execOp fr.eval o).runT P w #[] = (.ok n w1, es) → after P fr cs n = some (fr1, cs1) → StepP P fr cs w fr1 cs1 w1 (seen P fr.fn es)
  | ret {fr c : Frame} {cs : List Frame} {w w1 : World} {fn : Func} {v : Value} {es : Array Event} : fr.mode = .returning → P.funcs[fr.fn]? = some fn → (results fn fr.tmps).runT P w #[] = (.ok v w1, es) → StepP P fr (c :: cs) w (c.finish v) cs w1 (seen P fr.fn es)
theorem step_retE {P : Program} {main : Bool} {cs : List Frame} {w w1 : World} {st : GoStatus} {off : Option (Array CommCase × CommShape)} {fr c : Frame} {fn : Func} {v : Value} {es : Array Event} (hm : fr.mode = .returning) (hd : fr.defers = []) (hk : fr.kind = .normal) (hf : P.funcs[fr.fn]? = some fn) (h : (results fn fr.tmps).runT P w #[] = (.ok v w1, es)) : stepG P main { frame := fr, callers := c :: cs, status := st, dying := none, offers := off } w = .go { frame := c.finish v, callers := cs, status := .running, dying := none } w1 (seen P fr.fn es) := by
  unfold stepG
  simp only [hm]
  unfold unwind
  simp only [hd, hm, hf, h]
  simp [doReturn, hk, GStep.after]
theorem pt_results {P : Program} (fn : Func) (tmps : Array Value) : PT P (results fn tmps) := by
  unfold results
  refine p_bnd (pt_mapM _ (fun r => ?_) _) fun _ => .pure trivial
  cases r with
  | tmp t => exact .pure trivial
  | cell a t => exact p_bnd (pt_asAddr _) fun _ => pt_loadVar _ _
section
variable (P : Program) (FS : FuncId → Prop)
def CodeP : Code → Prop
  | .region _ ops _ => ∀ o ∈ ops.toList, OpP P FS o.op
  | .seq a b => CodeP a ∧ CodeP b
  | .cond _ a b => CodeP a ∧ CodeP b
  | .block _ b | .loop b => CodeP b
  | .skip | .exit _ | .ret => True
  | _ => False
def ItemP : Item → Prop
  | .code c => CodeP P FS c
  | .inLoop b => CodeP P FS b
  | .inBlock _ => True
  | .inRegion ops _ => ∀ o ∈ ops.toList, OpP P FS o.op
  | _ => False
structure BodP : Prop where
  func : ∀ f, FS f → FuncP P f
  body : ∀ f, FS f → ∀ fn, P.funcs[f]? = some fn → ∀ c, fn.body = some c → CodeP P FS c
structure FP (fr : Frame) : Prop where
  fn : ∃ fn, P.funcs[fr.fn]? = some fn
  todo : ∀ i ∈ fr.todo, ItemP P FS i
  defers : fr.defers = []
  kind : fr.kind = .normal
  round : fr.roundOf = none
def FPs (l : List Frame) : Prop := ∀ x ∈ l, FP P FS x ∧ x.mode = .run ∧ ∃ ops i rest k, x.todo = .inRegion ops (i :: rest) :: k
end
section
variable {P : Program} {FS : FuncId → Prop} {main : Bool}
theorem FP.to {fr : Frame} (h : FP P FS fr) {k : List Item} (hk : ∀ i ∈ k, ItemP P FS i) : FP P FS { fr with todo := k } := ⟨h.fn, hk, h.defers, h.kind, h.round⟩
theorem FP.finish {fr : Frame} (h : FP P FS fr) {ops : Array Oper} {i : Nat} {rest : List Nat} {k : List Item} (ht : fr.todo = .inRegion ops (i :: rest) :: k) (v : Value) : FP P FS (fr.finish v) := by
  have h0 := h.todo _ (by rw [ht]; exact List.mem_cons_self)
  have hk : ∀ i ∈ k, ItemP P FS i := fun i hx => h.todo i (by rw [ht]; simp [hx])
  unfold Frame.finish
  simp only [ht]
  refine ⟨h.fn, fun j hj => ?_, h.defers, h.kind, h.round⟩
  rcases List.mem_cons.1 hj with rfl | hj
  · exact h0
  · exact hk j hj
theorem FP.ctl {fr fr1 : Frame} (h : FP P FS fr) (hc : Ytgeoffpcmkofkaa.ctl fr = some fr1) : FP P FS fr1 := by
  have hi := h.todo
  unfold Ytgeoffpcmkofkaa.ctl at hc
  have two : ∀ {x y : Item} {k : List Item}, ItemP P FS x → ItemP P FS y → (∀ i ∈ k, ItemP P FS i) → ∀ i ∈ x :: y :: k, ItemP P FS i := by
    intro x y k hx hy hk i hi
    rcases List.mem_cons.1 hi with rfl | hi
    · exact hx
    · rcases List.mem_cons.1 hi with rfl | hi
      · exact hy
      · exact hk i hi
  have one : ∀ {x : Item} {k : List Item}, ItemP P FS x → (∀ i ∈ k, ItemP P FS i) → ∀ i ∈ x :: k, ItemP P FS i := by
    intro x k hx hk i hi
    rcases List.mem_cons.1 hi with rfl | hi
    · exact hx
    · exact hk i hi
  cases ht : fr.todo with
  | nil =>
    rw [ht] at hc
    injection hc with hc
    subst hc
    exact ⟨h.fn, by rw [ht] at hi; exact hi, h.defers, h.kind, h.round⟩
  | cons it k =>
    have h0 := hi it (by rw [ht]; simp)
    have hk : ∀ i ∈ k, ItemP P FS i := fun i hx => hi i (by rw [ht]; simp [hx])
    rw [ht] at hc
    cases it with
    | inBlock id => injection hc with hc; subst hc; exact h.to hk
    | inLoop b => injection hc with hc; subst hc; exact h.to (two h0 h0 hk)
    | inScope b => exact h0.elim
    | inRangeFunc l => exact h0.elim
    | endRangeFunc l => exact h0.elim
    | beginRound => exact h0.elim
    | call => exact h0.elim
    | extern => exact h0.elim
    | inRegion ops todo =>
      cases todo with
      | nil => injection hc with hc; subst hc; exact h.to hk
      | cons i rest =>
        simp only at hc
        split at hc
        · cases hc
        · injection hc with hc
          subst hc
          exact h.finish ht undef
    | code c =>
      cases c with
      | skip => injection hc with hc; subst hc; exact h.to hk
      | ret => injection hc with hc; subst hc; exact ⟨h.fn, by rw [ht] at hi; exact hi, h.defers, h.kind, h.round⟩
      | label l => exact h0.elim
      | seq a b => injection hc with hc; subst hc; exact h.to (two h0.1 h0.2 hk)
      | block id b => injection hc with hc; subst hc; exact h.to (two h0 trivial hk)
      | loop b => injection hc with hc; subst hc; exact h.to (two h0 h0 hk)
      | scope b => exact h0.elim
      | rangeFunc => exact h0.elim
      | refuse why => exact h0.elim
      | goto l => exact h0.elim
      | region id ops draw =>
        cases draw with
        | false => injection hc with hc; subst hc; exact h.to (one h0 hk)
        | true => cases hc
      | cond c a b =>
        simp only at hc
        split at hc
        · injection hc with hc; subst hc; exact h.to (one h0.1 hk)
        · injection hc with hc; subst hc; exact h.to (one h0.2 hk)
        · cases hc
      | exit id =>
        simp only at hc
        cases he : exitTo id k with
        | none => rw [he] at hc; cases hc
        | some k' =>
          rw [he] at hc
          injection hc with hc
          subst hc
          exact h.to fun i hx => hk i (exitTo_sub he i hx)
/-- Where a running frame stands. -/
theorem standsP {fr : Frame} (hf : FP P FS fr) (hm : fr.mode = .run) :
    (∃ fr1, ctl fr = some fr1) ∨ (∃ id ops k, fr.todo = .code (.region id ops true) :: k ∧ ∀ o ∈ ops.toList, OpP P FS o.op) ∨
    (∃ ops i rest k o, fr.todo = .inRegion ops (i :: rest) :: k ∧ ops[i]? = some o ∧ Region.wanted o (yielded ops fr.tmps) = true ∧ OpP P FS o.op) ∨
    (∀ cs w, ∃ o w1, stepG P main { frame := fr, callers := cs, status := .running, dying := none } w = .ended o w1 #[]) := by
  have hx : ∀ cs w, stepG P main { frame := fr, callers := cs, status := .running, dying := none } w = stepG.exec P main true fr cs none w := by
    intro cs w
    unfold stepG
    simp only [hm]
  have hi := hf.todo
  have hr := hf.round
  cases ht : fr.todo with
  | nil => exact .inl ⟨_, by simp only [ctl, ht]; rfl⟩
  | cons it k =>
    have h0 := hi it (by rw [ht]; simp)
    cases it with
    | inBlock id => exact .inl ⟨_, by simp only [ctl, ht]; rfl⟩
    | inLoop b => exact .inl ⟨_, by simp only [ctl, ht]; rfl⟩
    | inScope b => exact h0.elim
    | inRangeFunc l => exact h0.elim
    | endRangeFunc l => exact h0.elim
    | beginRound => exact h0.elim
    | call => exact h0.elim
    | extern => exact h0.elim
    | inRegion ops todo =>
      cases todo with
      | nil => exact .inl ⟨_, by simp only [ctl, ht]; rfl⟩
      | cons i rest =>
        by_cases hw : ((ops[i]?).map (Region.wanted · (yielded ops fr.tmps))).getD false = true
        · cases ho : ops[i]? with
          | none => rw [ho] at hw; simp at hw
          | some o =>
            rw [ho] at hw
            refine .inr (.inr (.inl ⟨ops, i, rest, k, o, rfl, ho, by simpa using hw, h0 o ?_⟩))
            have := Array.mem_of_getElem? ho
            simpa using this
        · exact .inl ⟨_, by simp only [ctl, ht, if_neg hw]; rfl⟩
    | code c =>
      cases c with
      | skip => exact .inl ⟨_, by simp only [ctl, ht]; rfl⟩
      | ret => exact .inl ⟨_, by simp only [ctl, ht]; rfl⟩
      | label l => exact h0.elim
      | seq a b => exact .inl ⟨_, by simp only [ctl, ht]; rfl⟩
      | block id b => exact .inl ⟨_, by simp only [ctl, ht]; rfl⟩
      | loop b => exact .inl ⟨_, by simp only [ctl, ht]; rfl⟩
      | scope b => exact h0.elim
      | rangeFunc => exact h0.elim
      | refuse why => exact h0.elim
      | region id ops draw =>
        cases draw with
        | false => exact .inl ⟨_, by simp only [ctl, ht]; rfl⟩
        | true => exact .inr (.inl ⟨id, ops, k, rfl, h0⟩)
      | cond c a b =>
        by_cases hb : ∃ b, fr.eval c = .bool b
        · obtain ⟨v, hv⟩ := hb
          cases v <;> exact .inl ⟨_, by simp only [ctl, ht, hv]; rfl⟩
        · refine .inr (.inr (.inr fun cs w => ?_))
          rw [hx]
          unfold stepG.exec
          simp only [ht]
          split
          · rename_i v hv; exact absurd ⟨v, hv⟩ hb
          · exact ⟨_, _, rfl⟩
      | exit id =>
        cases he : exitTo id k with
        | some k' => exact .inl ⟨_, by simp only [ctl, ht, he]; rfl⟩
        | none =>
          refine .inr (.inr (.inr fun cs w => ?_))
          rw [hx]
          unfold stepG.exec
          simp only [ht, he, hr]
          exact ⟨_, _, rfl⟩
      | goto l => exact h0.elim

theorem ctl_mode {fr fr1 : Frame} (hm : fr.mode = .run) (hc : Ytgeoffpcmkofkaa.ctl fr = some fr1) : fr1.mode = .run ∨ fr1.mode = .returning := by
  unfold Ytgeoffpcmkofkaa.ctl at hc
  split at hc
  all_goals (first | (cases hc; done) | skip)
  all_goals (first | (injection hc with hc; subst hc; first | exact .inr rfl | exact .inl hm) | skip)
  · split at hc
    · injection hc with hc; subst hc; exact .inl hm
    · injection hc with hc; subst hc; exact .inl hm
    · cases hc
  · rename_i id k _
    cases he : exitTo id k with
    | none => rw [he] at hc; cases hc
    | some k' => rw [he] at hc; injection hc with hc; subst hc; exact .inl hm
  · rename_i id k _
    cases he : gotoIn id k with
    | none => rw [he] at hc; cases hc
    | some k' => rw [he] at hc; injection hc with hc; subst hc; exact .inl hm
  · split at hc
    · cases hc
    · injection hc with hc
      subst hc
      exact .inl (by rw [finish_mode]; exact hm)
theorem StepP.goes {fr fr1 : Frame} {cs cs1 : List Frame} {w w1 : World} {st : GoStatus} {off : Option (Array CommCase × CommShape)} {es : Array Event} (hf : FP P FS fr) (h : StepP P fr cs w fr1 cs1 w1 es) : stepG P main { frame := fr, callers := cs, status := st, dying := none, offers := off } w = .go { frame := fr1, callers := cs1, status := .running, dying := none } w1 es := by
  cases h with
  | ctl h1 h2 => exact step_ctl h1 hf.round h2
  | draw h1 h2 h3 => exact step_draw h1 h2 h3
  | oper h1 h2 h3 h4 h5 h6 => exact step_oper h1 hf.round hf.kind h2 h3 h4 h5 h6
  | ret h1 h2 h3 => exact step_retE h1 hf.defers hf.kind h2 h3
theorem StepP.same {fr a a' : Frame} {cs b b' : List Frame} {w c c' : World} {es es' : Array Event} (hf : FP P FS fr) (h : StepP P fr cs w a b c es) (h' : StepP P fr cs w a' b' c' es') : a' = a ∧ b' = b ∧ c' = c := by
  have e := h.goes (main := true) (st := .running) (off := none) hf
  have e' := h'.goes (main := true) (st := .running) (off := none) hf
  rw [e] at e'
  injection e' with e1 e2 _
  injection e1 with e3 e4
  exact ⟨e3.symm, e4.symm, e2.symm⟩
theorem FP.enter (HB : BodP P FS) {f : FuncId} (hf : FS f) {fn : Func} {c : Code} (h1 : P.funcs[f]? = some fn) (hb : fn.body = some c) (xs : Array Value) : FP P FS (Frame.enter P f xs .normal) := by
  unfold Frame.enter
  simp only [h1]
  refine ⟨⟨fn, h1⟩, fun i hi => ?_, rfl, rfl, rfl⟩
  simp [hb] at hi
  subst hi
  exact HB.body f hf fn h1 c hb
theorem eval_func (fr : Frame) (f : FuncId) : fr.eval (.func f) = .func (.func f) #[] #[] := rfl
/-- One step on: such frames again. -/
theorem FP.step (HB : BodP P FS) {fr fr1 : Frame} {l cs1 : List Frame} {w w1 : World} {es : Array Event} (hf : FP P FS fr) (hl : FPs P FS l) (hend : fr.mode = .returning → l ≠ []) (hs : StepP P fr (l ++ [shut P]) w fr1 cs1 w1 es) : ∃ l1, cs1 = l1 ++ [shut P] ∧ FP P FS fr1 ∧ FPs P FS l1 ∧ (fr1.mode = .run ∨ fr1.mode = .returning) := by
  generalize hcs : l ++ [shut P] = cs at hs
  cases hs with
  | ctl hm hc =>
    refine ⟨l, hcs.symm, hf.ctl hc, hl, ?_⟩
    exact ctl_mode hm hc
  | draw hm ht hr =>
    rename_i id ops k t
    refine ⟨l, hcs.symm, hf.to fun i hi => ?_, hl, .inl hm⟩
    have h0 := hf.todo (.code (.region id ops true)) (by rw [ht]; exact List.mem_cons_self)
    rcases List.mem_cons.1 hi with rfl | hi
    · exact h0
    · exact hf.todo i (by rw [ht]; simp [hi])
  | oper hm ht ho hwant hr ha =>
    rename_i ops i rest k o n es0
    have hop : OpP P FS o.op := by
      have := hf.todo (.inRegion ops (i :: rest)) (by rw [ht]; simp)
      refine this o ?_
      have := Array.mem_of_getElem? ho
      simpa using this
    have hr' : (execOp fr.eval o).run P w = .ok n w1 := by rw [← Sem.runT_fst P _ w #[], hr]
    have hq := (p_execOp HB.func (eval_func fr) hop).post hr'
    rcases hq with ⟨v, rfl⟩ | rfl | ⟨f, xs, rfl, hff, fn, c, hfn, hfb⟩
    · simp only [after, Option.some.injEq, Prod.mk.injEq] at ha
      obtain ⟨rfl, rfl⟩ := ha
      exact ⟨l, hcs.symm, hf.finish ht v, hl, .inl (by rw [finish_mode]; exact hm)⟩
    · simp only [after, Option.some.injEq, Prod.mk.injEq] at ha
      obtain ⟨rfl, rfl⟩ := ha
      exact ⟨l, hcs.symm, hf.finish ht undef, hl, .inl (by rw [finish_mode]; exact hm)⟩
    · simp only [after, Option.some.injEq, Prod.mk.injEq] at ha
      obtain ⟨rfl, rfl⟩ := ha
      refine ⟨fr :: l, by rw [← hcs]; rfl, FP.enter HB hff hfn hfb xs, fun x hx => ?_, .inl rfl⟩
      rcases List.mem_cons.1 hx with rfl | hx
      · exact ⟨hf, hm, ops, i, rest, k, ht⟩
      · exact hl x hx
  | ret hm hfn hr =>
    cases l with
    | nil => exact absurd rfl (hend hm)
    | cons x l =>
      simp only [List.cons_append, List.cons.injEq] at hcs
      obtain ⟨rfl, rfl⟩ := hcs
      obtain ⟨h1, h2, ops, i, rest, k, h3⟩ := hl x (by simp)
      exact ⟨l, rfl, h1.finish h3 _, fun y hy => hl y (by simp [hy]), .inl (by rw [finish_mode]; exact h2)⟩
end
end Go.Proofs.Ytgeoffpcmkofkaa
/- Lone runs as trees, whatever is drawn. -/
namespace Go.Proofs.Ytgeoffpcmkofkaa
open Go Go.Conc

section
variable {P : Program} {FS : FuncId → Prop}
theorem on_mv (w : World) (T : Nat → Question → Nat) : on w T = mv w T w.drawn := rfl
theorem StepP.mvP (HB : BodP P FS) {fr fr1 : Frame} {cs cs1 : List Frame} {w w1 : World} {es : Array Event} (hf : FP P FS fr) (hs : StepP P fr cs w fr1 cs1 w1 es) :
    w.drawn ≤ w1.drawn ∧ w1.tape = w.tape ∧ w.heap.size ≤ w1.heap.size ∧ (∀ e ∈ es, EvP w1.heap.size e) ∧ ∀ T d, (∀ i q, i < w1.drawn - w.drawn → T (d + i) q = w.tape (w.drawn + i) q) → StepP P fr cs (mv w T d) fr1 cs1 (mv w1 T (d + (w1.drawn - w.drawn))) es := by
  cases hs with
  | ctl hm hc =>
    refine ⟨Nat.le_refl _, rfl, Nat.le_refl _, by simp, fun T d _ => ?_⟩
    rw [Nat.sub_self, Nat.add_zero]
    exact .ctl hm hc
  | draw hm ht hr =>
    rename_i id ops k t
    have hq : (Question.order fr.fn id).forced = false := rfl
    simp only [choose, Sem.run, hq] at hr
    injection hr with h1 h2
    subst h1 h2
    refine ⟨Nat.le_succ _, rfl, Nat.le_refl _, by simp, fun T d hT => ?_⟩
    have e : (choose (.order fr.fn id)).run P (mv w T d) = .ok ((Question.order fr.fn id).cut (w.tape w.drawn (.order fr.fn id))) (mv { w with drawn := w.drawn + 1 } T (d + (w.drawn + 1 - w.drawn))) := by
      simp only [choose, Sem.run, hq]
      have := hT 0 (.order fr.fn id) (by simp)
      simp only [Nat.add_zero] at this
      rw [show w.drawn + 1 - w.drawn = 1 by omega]
      simp [mv, this]
    exact .draw hm ht e
  | oper hm ht ho hwant hr ha =>
    rename_i ops i rest k o n es0
    have hop : OpP P FS o.op := by
      have := hf.todo (.inRegion ops (i :: rest)) (by rw [ht]; simp)
      refine this o ?_
      have := Array.mem_of_getElem? ho
      simpa using this
    have g := (p_execOp HB.func (eval_func fr) hop).run_mv hr
    refine ⟨g.mono, g.same, g.size, fun e he => ?_, fun T d hT => .oper hm ht ho hwant (g.run T d hT) ha⟩
    rcases g.low e (seen_mem he) with h | h
    · simp at h
    · exact h
  | ret hm hfn hr =>
    rename_i fn v es0
    have g := (pt_results fn fr.tmps).run_mv hr
    refine ⟨g.mono, g.same, g.size, fun e he => ?_, fun T d hT => .ret hm hfn (g.run T d hT)⟩
    rcases g.low e (seen_mem he) with h | h
    · simp at h
    · exact h
theorem step1_onP (HB : BodP P FS) {fr fr1 : Frame} {l cs1 : List Frame} {w w1 : World} {es : Array Event} (hf : FP P FS fr) (hs : StepP P fr (l ++ [shut P]) w fr1 cs1 w1 es) :
    w.drawn ≤ w1.drawn ∧ w1.tape = w.tape ∧ ∀ T, (∀ i q, w.drawn ≤ i → i < w1.drawn → T i q = w.tape i q) → ∃ es', StepP P fr (l ++ [shut P]) (on w T) fr1 cs1 (on w1 T) es' := by
  obtain ⟨h1, h2, _, _, h3⟩ := hs.mvP HB hf
  refine ⟨h1, h2, fun T hT => ⟨es, ?_⟩⟩
  have := h3 T w.drawn fun i q hi => hT _ q (by omega) (by omega)
  rw [show w.drawn + (w1.drawn - w.drawn) = w1.drawn by omega] at this
  exact this
/-- A run of such steps to the end. -/
inductive ReachP (P : Program) (Post : Frame → World → Prop) : Frame → List Frame → World → Prop
  | done {fr : Frame} {w : World} : fr.mode = .returning → Post fr w → ReachP P Post fr [] w
  | step {fr fr1 : Frame} {l l1 : List Frame} {w w1 : World} {es : Array Event} : (fr.mode = .returning → l ≠ []) → StepP P fr (l ++ [shut P]) w fr1 (l1 ++ [shut P]) w1 es → ReachP P Post fr1 l1 w1 → ReachP P Post fr l w
inductive EndsP (P : Program) (Post : Frame → World → Prop) : Frame → List Frame → World → Prop
  | done {fr : Frame} {w : World} : fr.mode = .returning → Post fr w → EndsP P Post fr [] w
  | step {fr : Frame} {l : List Frame} {w : World} : (fr.mode = .returning → l ≠ []) → (∀ T, ∃ fr1 l1 w1 es, StepP P fr (l ++ [shut P]) (on w T) fr1 (l1 ++ [shut P]) w1 es) → (∀ T fr1 l1 w1 es, StepP P fr (l ++ [shut P]) (on w T) fr1 (l1 ++ [shut P]) w1 es → EndsP P Post fr1 l1 w1) → EndsP P Post fr l w
structure LinkP (P : Program) (s : Cfg) (T : Nat → Question → Nat) (s1 : Cfg) : Prop where
  far : s.fr.mode = .returning → s.l ≠ []
  step : ∃ es, StepP P s.fr (s.l ++ [shut P]) (on s.w T) s1.fr (s1.l ++ [shut P]) s1.w es
def GoodP (P : Program) (FS : FuncId → Prop) (fr : Frame) (l : List Frame) : Prop := (fr.mode = .run ∨ fr.mode = .returning) ∧ FP P FS fr ∧ FPs P FS l
theorem GoodP.step (HB : BodP P FS) {fr fr1 : Frame} {l cs1 : List Frame} {w w1 : World} {es : Array Event} (h : GoodP P FS fr l) (hend : fr.mode = .returning → l ≠ []) (hs : StepP P fr (l ++ [shut P]) w fr1 cs1 w1 es) : ∃ l1, cs1 = l1 ++ [shut P] ∧ GoodP P FS fr1 l1 := by
  obtain ⟨l1, h1, h2, h3, h4⟩ := h.2.1.step HB h.2.2 hend hs
  exact ⟨l1, h1, h4, h2, h3⟩
theorem thereP (HB : BodP P FS) {f : FuncId} (hf : FS f) : ∃ fn, P.funcs[f]? = some fn := let ⟨fn, h, _⟩ := (HB.func f hf).there; ⟨fn, h⟩
theorem bareP {l : List Frame} (h : FPs P FS l) : ∀ x ∈ l, Bare P x ∧ x.mode = .run := fun x hx => ⟨⟨(h x hx).1.defers, (h x hx).1.fn⟩, (h x hx).2.1⟩
theorem lone_casesP (HB : BodP P FS) (HN : NoEarly P) {fr : Frame} {l : List Frame} {wl : World} (hf : FP P FS fr) (hm : fr.mode = .run ∨ fr.mode = .returning) (hend : fr.mode = .returning → l ≠ []) :
    (∃ fr1 cs1 wl1 es, StepP P fr (l ++ [shut P]) wl fr1 cs1 wl1 es) ∨ (∃ ch wl1, step P (L P fr l wl) = .next (L P { fr with mode := .panicking ch } l wl1)) ∨ (∃ o wl1, step P (L P fr l wl) = .ended o wl1) := by
  rcases hm with hm | hm
  · rcases standsP (main := true) hf hm with ⟨fr1, h⟩ | ⟨id, ops, k, h, _⟩ | ⟨ops, i, rest, k, o, h1, h2, h3, h4⟩ | h
    · exact .inl ⟨_, _, _, _, .ctl hm h⟩
    · have hr : ∃ t w1, (choose (.order fr.fn id)).run P wl = .ok t w1 := by
        simp only [choose, Sem.run]
        split <;> exact ⟨_, _, rfl⟩
      obtain ⟨t, w1, hr⟩ := hr
      exact .inl ⟨_, _, _, _, .draw hm h hr⟩
    · have hsem := p_execOp HB.func (eval_func fr) h4
      have hfst := Sem.runT_fst P (execOp fr.eval o) wl #[]
      cases hr : (execOp fr.eval o).runT P wl #[] with
      | mk r es =>
        rw [hr] at hfst
        simp only at hfst
        cases r with
        | ok n w1 =>
          rcases hsem.post hfst.symm with ⟨v, rfl⟩ | rfl | ⟨f, xs, rfl, _⟩
          · exact .inl ⟨_, _, _, _, .oper hm h1 h2 h3 hr rfl⟩
          · exact .inl ⟨_, _, _, _, .oper hm h1 h2 h3 hr rfl⟩
          · exact .inl ⟨_, _, _, _, .oper hm h1 h2 h3 hr rfl⟩
        | halt x w1 =>
          have hmild := hsem.mild hfst.symm
          have hop : fr.oper? = some o := by simp [Frame.oper?, h1, h2]
          have hg : stepG P true { frame := fr, callers := l ++ [shut P], status := .running, dying := none } wl = stepG.apply P true fr (l ++ [shut P]) none (execOp fr.eval o) wl := by
            unfold stepG
            simp only [hm]
            unfold stepG.exec
            simp only [h1]
            rw [if_pos (by simp [h2, h3])]
            unfold stepG.oper
            simp only [hop, hf.round]
          cases x with
          | stuck why => exact .inr (.inr ⟨_, _, step_end (by rw [hg]; unfold stepG.apply; simp only [if_true, hr]; rfl)⟩)
          | panic v =>
            refine .inr (.inl ⟨[{ v, recovered := false }], w1, ?_⟩)
            refine step_go (es := seen P fr.fn es) ?_
            rw [hg]
            unfold stepG.apply
            simp only [if_true, hr, hf.kind, GStep.after, Frame.raise, hm]
            simp
          | unsupported u =>
            cases u with
            | initOrder g =>
              refine .inr (.inr ⟨.unsupported (.initOrder g) (fr.pos P), w1, ?_⟩)
              refine step_end (es := seen P fr.fn #[]) ?_
              rw [hg]
              unfold stepG.apply
              simp only [if_true, hr, hf.kind, early, HN.follows, HN.none, GStep.after]
              simp
            | _ => exact .inr (.inr ⟨_, _, step_end (by rw [hg]; unfold stepG.apply; simp only [if_true, hr]; rfl)⟩)
          | _ => exact hmild.elim
    · obtain ⟨o, w1, h⟩ := h (l ++ [shut P]) wl
      exact .inr (.inr ⟨o, w1, step_end h⟩)
  · obtain ⟨fn, hfn⟩ := hf.fn
    cases l with
    | nil => exact absurd rfl (hend hm)
    | cons x l =>
      have hfst := Sem.runT_fst P (results fn fr.tmps) wl #[]
      cases hr : (results fn fr.tmps).runT P wl #[] with
      | mk r es =>
        rw [hr] at hfst
        simp only at hfst
        cases r with
        | ok v w1 => exact .inl ⟨_, _, _, _, .ret hm hfn hr⟩
        | halt y w1 =>
          have hmild := (pt_results fn fr.tmps).mild hfst.symm
          have hg : ∃ o, stepG P true { frame := fr, callers := x :: l ++ [shut P], status := .running, dying := none } wl = .ended o w1 (seen P fr.fn es) := by
            cases y <;> (try exact hmild.elim) <;> exact ⟨_, by
              unfold stepG
              simp only [hm]
              unfold unwind
              simp only [hf.defers, hm, hfn, hr]
              simp [GStep.after]
              rfl⟩
          obtain ⟨o, hg⟩ := hg
          exact .inr (.inr ⟨o, w1, step_end hg⟩)
theorem reach_of_runP (HB : BodP P FS) (HN : NoEarly P) {Post : Frame → World → Prop} {frE : Frame} {wE : World} (hE : frE.mode = .returning) (hP : Post frE wE) : ∀ (n : Nat) {fr : Frame} {l : List Frame} {w : World}, GoodP P FS fr l → runN P n (L P fr l w) = .next (L P frE [] wE) → ReachP P Post fr l w
  | 0, fr, l, w, hg, h => by
    simp only [runN, L, lone, Stepped.next.injEq, Machine.mk.injEq] at h
    obtain ⟨h1, h2, _⟩ := h
    simp at h2
    obtain ⟨rfl, rfl⟩ := h2
    subst h1
    exact .done hE hP
  | n + 1, fr, l, w, hg, h => by
    obtain ⟨hm, hf, hl⟩ := id hg
    by_cases hend : fr.mode = .returning → l ≠ []
    · rcases lone_casesP HB HN (wl := w) hf hm hend with ⟨fr1, cs1, w1, es, hs⟩ | ⟨ch, w1, hs⟩ | ⟨o, w1, hs⟩
      · obtain ⟨l1, rfl, hg1⟩ := hg.step HB hend hs
        have := step_go (hs.goes (main := true) (st := .running) (off := none) hf)
        simp only [runN, this] at h
        exact .step hend hs (reach_of_runP HB HN hE hP n hg1 h)
      · simp only [runN, hs] at h
        exact absurd h (no_way_back n l { fr with mode := .panicking ch } ch w1 (bareP hl) ⟨hf.defers, hf.fn⟩ rfl frE wE hE)
      · simp only [runN, hs] at h
        cases h
    · simp only [Classical.not_imp, Classical.not_not] at hend
      obtain ⟨hr, rfl⟩ := hend
      exfalso
      obtain ⟨fn, hfn⟩ := hf.fn
      have hfst := Sem.runT_fst P (results fn fr.tmps) w #[]
      cases hres : (results fn fr.tmps).runT P w #[] with
      | mk r es =>
        rw [hres] at hfst
        simp only at hfst
        cases r with
        | ok v w1 =>
          have := step_go (P := P) (step_retE (main := true) (st := .running) (off := none) (c := shut P) (cs := []) (w := w) hr hf.defers hf.kind hfn hres)
          simp only [runN, L, List.nil_append, this] at h
          exact not_behind n frE wE h
        | halt y w1 =>
          have hmild := (pt_results fn fr.tmps).mild hfst.symm
          have hg : ∃ o, stepG P true { frame := fr, callers := [shut P], status := .running, dying := none } w = .ended o w1 (seen P fr.fn es) := by
            cases y <;> (try exact hmild.elim) <;> exact ⟨_, by
              unfold stepG
              simp only [hr]
              unfold unwind
              simp only [hf.defers, hr, hfn, hres]
              simp [GStep.after]
              rfl⟩
          obtain ⟨o, hg⟩ := hg
          have := step_end hg
          simp only [runN, L, List.nil_append, this] at h
          cases h
theorem reach_onP (HB : BodP P FS) {Post : Frame → World → Prop} (hT : ∀ fr w T, Post fr w → Post fr (on w T)) {fr : Frame} {l : List Frame} {w : World} (h : ReachP P Post fr l w) : GoodP P FS fr l → ∀ T, (∀ k q, w.drawn ≤ k → T k q = w.tape k q) → ReachP P Post fr l (on w T) := by
  induction h with
  | done hm hp => exact fun _ T _ => .done hm (hT _ _ T hp)
  | @step fr fr1 l l1 w w1 es hend hs _ ih =>
    intro hg T hk
    obtain ⟨h1, h2, h3⟩ := step1_onP HB hg.2.1 hs
    obtain ⟨es', hs'⟩ := h3 T fun i q a _ => hk i q a
    obtain ⟨l2, e, hg1⟩ := hg.step HB hend hs
    have : l1 = l2 := by simpa using e
    subst this
    exact .step hend hs' (ih hg1 T fun k q a => by rw [h2]; exact hk k q (Nat.le_trans h1 a))

/-- A state whose every run ends, and which is yet no tree. -/
def LostP (P : Program) (FS : FuncId → Prop) (Post : Frame → World → Prop) (s : Cfg) : Prop := GoodP P FS s.fr s.l ∧ (∀ T, ReachP P Post s.fr s.l (on s.w T)) ∧ ¬EndsP P Post s.fr s.l s.w
theorem LostP.next (HB : BodP P FS) {Post : Frame → World → Prop} (hT : ∀ fr w T, Post fr w → Post fr (on w T)) {s : Cfg} (h : LostP P FS Post s) : ∃ T s1, LinkP P s T s1 ∧ LostP P FS Post s1 := by
  obtain ⟨hg, hr, hn⟩ := h
  have far : s.fr.mode = .returning → s.l ≠ [] := by
    intro hm hl
    apply hn
    have := hr s.w.tape
    have e : on s.w s.w.tape = s.w := rfl
    rw [e] at this
    rw [hl] at this ⊢
    cases this with
    | done h1 h2 => exact .done h1 h2
    | step h1 => exact absurd rfl (h1 hm)
  have some : ∀ T, ∃ fr1 l1 w1 es, StepP P s.fr (s.l ++ [shut P]) (on s.w T) fr1 (l1 ++ [shut P]) w1 es := by
    intro T
    have := hr T
    generalize hl : s.l = l at this far ⊢
    cases this with
    | done h1 h2 => exact absurd rfl (far h1)
    | step h1 h2 h3 => exact ⟨_, _, _, _, h2⟩
  have : ∃ T fr1 l1 w1 es, StepP P s.fr (s.l ++ [shut P]) (on s.w T) fr1 (l1 ++ [shut P]) w1 es ∧ ¬EndsP P Post fr1 l1 w1 := by
    apply Classical.byContradiction
    intro hno
    apply hn
    refine .step far some fun T fr1 l1 w1 es hs => ?_
    apply Classical.byContradiction
    intro hne
    exact hno ⟨T, fr1, l1, w1, es, hs, hne⟩
  obtain ⟨T, fr1, l1, w1, es, hs, hne⟩ := this
  obtain ⟨l2, e, hg1⟩ := hg.step HB far hs
  have : l1 = l2 := by simpa using e
  subst this
  refine ⟨T, ⟨fr1, l1, w1⟩, ⟨far, es, hs⟩, hg1, fun T' => ?_, hne⟩
  obtain ⟨h1, h2, h3⟩ := step1_onP HB hg.2.1 hs
  obtain ⟨es', hs'⟩ := h3 (fun k q => if k < w1.drawn then T k q else T' k q) fun i q _ b => by simp only [b, if_true]; rfl
  rw [on_on] at hs'
  have hr' := hr (fun k q => if k < w1.drawn then T k q else T' k q)
  have : ReachP P Post fr1 l1 (on w1 fun k q => if k < w1.drawn then T k q else T' k q) := by
    generalize hl : s.l = l at hr' far hs'
    cases hr' with
    | done k1 k2 => exact absurd rfl (far k1)
    | @step _ fr2 _ l2 _ w2 es2 k1 k2 k3 =>
      obtain ⟨e1, e2, e3⟩ := StepP.same hg.2.1 hs' k2
      have e2 : l2 = l1 := by simpa using e2
      subst e1 e2 e3
      exact k3
  have := reach_onP HB hT this hg1 T' fun k q a => by
    show T' k q = if k < w1.drawn then T k q else T' k q
    rw [if_neg (by have : w1.drawn ≤ k := a; omega)]
  exact this
theorem ends_of_reachP (HB : BodP P FS) {Post : Frame → World → Prop} (hT : ∀ fr w T, Post fr w → Post fr (on w T)) {fr : Frame} {l : List Frame} {w : World} (hg : GoodP P FS fr l) (hr : ∀ T, ReachP P Post fr l (on w T)) : EndsP P Post fr l w := by
  apply Classical.byContradiction
  intro hn
  have s0 : { s : Cfg // LostP P FS Post s } := ⟨⟨fr, l, w⟩, hg, hr, hn⟩
  have nx : ∀ s : { s : Cfg // LostP P FS Post s }, ∃ x : (Nat → Question → Nat) × { s : Cfg // LostP P FS Post s }, LinkP P s.1 x.1 x.2.1 := fun s => by
    obtain ⟨T, s1, h1, h2⟩ := s.2.next HB hT
    exact ⟨(T, ⟨s1, h2⟩), h1⟩
  let f : Nat → { s : Cfg // LostP P FS Post s } := fun n => Nat.rec s0 (fun _ s => (Classical.choose (nx s)).2) n
  let tp : Nat → Nat → Question → Nat := fun n => (Classical.choose (nx (f n))).1
  have lk : ∀ n, LinkP P (f n).1 (tp n) (f (n + 1)).1 := fun n => Classical.choose_spec (nx (f n))
  have mono1 : ∀ n, (f n).1.w.drawn ≤ (f (n + 1)).1.w.drawn := by
    intro n
    obtain ⟨es, hs⟩ := (lk n).step
    exact (step1_onP HB (f n).2.1.2.1 hs).1
  have mono : ∀ d n, (f n).1.w.drawn ≤ (f (n + d)).1.w.drawn := by
    intro d
    induction d with
    | zero => exact fun n => Nat.le_refl _
    | succ d ih => exact fun n => Nat.le_trans (ih n) (mono1 (n + d))
  let at_ : Nat → Nat → Prop := fun k i => (f i).1.w.drawn ≤ k ∧ k < (f (i + 1)).1.w.drawn
  have uniq : ∀ k i j, at_ k i → at_ k j → i = j := by
    intro k i j hi hj
    rcases Nat.lt_trichotomy i j with h | h | h
    · have := mono (j - (i + 1)) (i + 1)
      rw [show i + 1 + (j - (i + 1)) = j by omega] at this
      have h1 := hi.2
      have h2 := hj.1
      omega
    · exact h
    · have := mono (i - (j + 1)) (j + 1)
      rw [show j + 1 + (i - (j + 1)) = i by omega] at this
      have h1 := hj.2
      have h2 := hi.1
      omega
  let T : Nat → Question → Nat := fun k q => open Classical in if h : ∃ i, at_ k i then tp (Classical.choose h) k q else 0
  have agree : ∀ i k q, at_ k i → T k q = tp i k q := by
    intro i k q h
    have h' : ∃ i, at_ k i := ⟨i, h⟩
    have e : T k q = tp (Classical.choose h') k q := dif_pos h'
    rw [e, uniq k _ i (Classical.choose_spec h') h]
  have lkT : ∀ n, ∃ es, StepP P (f n).1.fr ((f n).1.l ++ [shut P]) (on (f n).1.w T) (f (n + 1)).1.fr ((f (n + 1)).1.l ++ [shut P]) (on (f (n + 1)).1.w T) es := by
    intro n
    obtain ⟨es, hs⟩ := (lk n).step
    exact (step1_onP HB (f n).2.1.2.1 hs).2.2 T fun k q a b => agree n k q ⟨a, b⟩
  have never : ∀ {fr : Frame} {l : List Frame} {w : World}, ReachP P Post fr l w → ∀ n, fr = (f n).1.fr → l = (f n).1.l → w = on (f n).1.w T → False := by
    intro fr l w h
    induction h with
    | done h1 h2 => intro n e1 e2 e3; exact (lk n).far (by rw [← e1]; exact h1) e2.symm
    | @step fr fr1 l l1 w w1 es hend hs _ ih =>
      intro n e1 e2 e3
      subst e1 e2 e3
      obtain ⟨es', hs'⟩ := lkT n
      obtain ⟨k1, k2, k3⟩ := StepP.same (f n).2.1.2.1 hs' hs
      exact ih (n + 1) k1 (by simpa using k2) k3
  exact never (s0.2.2.1 T) 0 rfl rfl rfl

/-- A contract that holds on every tape gives the tree. -/
theorem ends_of_callsP (HB : BodP P FS) (HN : NoEarly P) {f : FuncId} (hf : FS f) {fn : Func} {c : Code} (hfn : P.funcs[f]? = some fn) (hb : fn.body = some c) {xs : Array Value} {w : World} {Q : Value → World → Prop} (hQ : ∀ v w T, Q v w → Q v (on w T))
    (h : ∀ T, Calls P f xs (on w T) fun e w' => ∃ v, e = .returned v ∧ Q v w') : EndsP P (PostV P f Q) (Frame.enter P f xs .normal) [] w := by
  have hg : GoodP P FS (Frame.enter P f xs .normal) [] := ⟨.inl rfl, FP.enter HB hf hfn hb xs, fun x hx => by simp at hx⟩
  have hPost : ∀ fr w T, PostV P f Q fr w → PostV P f Q fr (on w T) := by
    rintro fr w T ⟨h1, fn', v, h2, h3, h4⟩
    refine ⟨h1, fn', v, h2, ?_, hQ _ _ T h4⟩
    have hr : (results fn' fr.tmps).runT P w #[] = (.ok v w, ((results fn' fr.tmps).runT P w #[]).2) := by
      have := Sem.runT_fst P (results fn' fr.tmps) w #[]
      rw [h3] at this
      exact Prod.ext this rfl
    have g := ((pt_results fn' fr.tmps).run_mv hr).run T w.drawn fun i q hi => by omega
    rw [Nat.sub_self, Nat.add_zero] at g
    have e := Sem.runT_fst P (results fn' fr.tmps) (mv w T w.drawn) #[]
    rw [g] at e
    exact e.symm
  refine ends_of_reachP HB hPost hg fun T => ?_
  obtain ⟨e, w', fr, ⟨v, rfl, hv⟩, hc, hfn', hl⟩ := h T [shut P]
  obtain ⟨n, hn⟩ : Steps P (lone (Frame.enter P f xs .normal) [shut P] (on w T)) (lone fr [shut P] w') := hc
  obtain ⟨hm, _, _, fn', hfn2, hr⟩ := hl
  exact reach_of_runP HB HN hm (Post := PostV P f Q) ⟨hfn', fn', v, by rw [← hfn']; exact hfn2, hr, hv⟩ n hg hn
end
end Go.Proofs.Ytgeoffpcmkofkaa
/- One that goes on beside goroutines that only leave. -/
namespace Go.Proofs.Ytgeoffpcmkofkaa
open Go Go.Conc
open Go.ConcN (sumTo)

/-- The same memory; the tape is of no matter. -/
structure Same (w w' : World) : Prop where
  heap : w'.heap = w.heap
  os : w'.os = w.os
  output : w'.output = w.output
theorem Same.refl (w : World) : Same w w := ⟨rfl, rfl, rfl⟩
theorem Same.trans {w w1 w2 : World} (h : Same w w1) (k : Same w1 w2) : Same w w2 := ⟨k.heap.trans h.heap, k.os.trans h.os, k.output.trans h.output⟩
/-- From here on all goes well, whatever the tape, beside others that only leave. -/
def A (P : Program) (Post : Value → World → Prop) (fr : Frame) (cs : List Frame) (w : World) : Prop :=
  ∀ (gs : Array Goroutine) (w' : World) (sl : Option (Nat × Nat)) (t : Trace) (q : Nat → Nat) (off : Option (Array CommCase × CommShape)), Same w w' → gs[0]? = some { G fr cs with offers := off } → Leavers P t gs q → Past (fun _ => False) w'.heap.size t → Fine P Post (crowd gs w' sl) t
section
variable {P : Program} {Post : Value → World → Prop} {fr fr1 : Frame} {cs cs1 : List Frame} {w w1 : World}
theorem A.same {w2 : World} (h : A P Post fr cs w) (k : Same w w2) : A P Post fr cs w2 := fun gs w' sl t q off hs => h gs w' sl t q off (k.trans hs)
/-- A step of its own. -/
theorem A.one (h : ∀ w', Same w w' → ∃ fr1 cs1 w1 es, stepG P true (G fr cs) w' = .go (G fr1 cs1) w1 es ∧ (∀ e ∈ es, EvP w1.heap.size e) ∧ w'.heap.size ≤ w1.heap.size ∧ A P Post fr1 cs1 w1) : A P Post fr cs w := by
  suffices H : ∀ (M : Nat) (gs : Array Goroutine) (w' : World) (sl : Option (Nat × Nat)) (t : Trace) (q : Nat → Nat) (off : Option (Array CommCase × CommShape)), sumTo gs.size q = M → Same w w' → gs[0]? = some { G fr cs with offers := off } → Leavers P t gs q → Past (fun _ => False) w'.heap.size t → Fine P Post (crowd gs w' sl) t from fun gs w' sl t q off => H _ gs w' sl t q off rfl
  intro M
  induction M using Nat.strongRecOn with
  | ind M ih =>
    intro gs w' sl t q off hM hsame h0 hL hP
    have haw : ∀ g ∈ gs, awake g := by
      intro g hg
      obtain ⟨i, hi, rfl⟩ := Array.mem_iff_getElem.1 hg
      rcases Nat.eq_zero_or_pos i with rfl | hpos
      · have : gs[0] = { G fr cs with offers := off } := by simpa [Array.getElem?_eq_getElem hi] using h0
        rw [this]; exact awake_of (.inl rfl)
      · exact awake_of ((hL.old i _ hpos (Array.getElem?_eq_getElem hi)).status.elim .inl fun x => .inr (.inr x))
    obtain ⟨i, g, d, sl', hi, hg, hst⟩ := crowd_pick (P := P) (w := w') (sl := sl) haw ⟨0, _, h0, rfl⟩
    have hsame' : Same w (w'.at d) := hsame.trans ⟨rfl, rfl, rfl⟩
    have hP' : Past (fun _ => False) (w'.at d).heap.size t := hP
    generalize w'.at d = w2 at hst hsame' hP'
    rcases Nat.eq_zero_or_pos i with rfl | hpos
    · obtain ⟨fr1, cs1, w1, es, hgo, hev, hsz, hA⟩ := h w2 hsame'
      have hrunT := runT_crowd_go (P := P) (sl := sl') (i := 0) (g' := G fr1 cs1) (w' := w1) (es := es) h0 (show stepG P (0 == 0) { G fr cs with offers := off } w2 = _ from hgo)
      have hlt : 0 < gs.size := (Array.getElem?_eq_some_iff.1 h0).1
      refine .step (hst.trans hrunT) (hA _ w1 sl' _ q none (Same.refl _) (set_at _ _ _ hlt) ⟨fun j x hj hx => ?_, fun j hj => ?_⟩ ((hP'.mono hsz).own hev))
      · have hne : 0 ≠ j := by omega
        rw [Array.getElem?_setIfInBounds_ne hne, Array.getElem?_map] at hx
        obtain ⟨y, hy, rfl⟩ := Option.map_eq_some_iff.1 hx
        have hq := hL.old j y hj hy
        rw [woken_quitsD hq, Deaf_other t (by omega) _ (fun op hop => by obtain ⟨e, _, rfl⟩ := Conc.mem_ofEvents hop; rfl)]
        exact hq
      · rw [Deaf_other t (g' := 0) (by simp at hj; omega) _ (fun op hop => by obtain ⟨e, _, rfl⟩ := Conc.mem_ofEvents hop; rfl)]
        exact hL.above j (by simpa using hj)
    · have hq := hL.old i g hpos hi
      have hi0 : (i == 0) = false := by simp; omega
      have hlt : i < gs.size := (Array.getElem?_eq_some_iff.1 hi).1
      cases hqi : q i with
      | zero => rw [hqi] at hq; rw [hq.1] at hg; cases hg
      | succ k =>
        rw [hqi] at hq
        rcases hq with ⟨hf, _⟩ | ⟨_, g', es, hm, hstp, hq'⟩
        · rw [hf] at hg; cases hg
        have hrunT := runT_crowd_go (P := P) (sl := sl') (i := i) hi (by rw [hi0]; exact hstp w2)
        refine .step (hst.trans hrunT) (ih (sumTo gs.size (put q i k)) (by rw [← hM]; exact sum_put hlt hqi) _ w2 sl' _ (put q i k) off (by simp) hsame' ?_ ⟨fun j x hj hx => ?_, fun j hj => ?_⟩ (hP'.mute (by omega) hm))
        · have hne : i ≠ 0 := by omega
          rw [Array.getElem?_setIfInBounds_ne hne, Array.getElem?_map, h0, Option.map_some, woken_run rfl]
        · by_cases hji : i = j
          · subst hji
            rw [Array.getElem?_setIfInBounds_self_of_lt (by simpa using hlt)] at hx
            obtain rfl := Option.some.inj hx
            rw [put_same, Deaf_own]
            exact hq'
          · rw [Array.getElem?_setIfInBounds_ne hji, Array.getElem?_map] at hx
            obtain ⟨y, hy, rfl⟩ := Option.map_eq_some_iff.1 hx
            have hqj := hL.old j y hj hy
            rw [woken_quitsD hqj, put_ne _ _ (Ne.symm hji), Deaf_other t hji _ (fun op hop => by obtain ⟨e, _, rfl⟩ := Conc.mem_ofEvents hop; rfl)]
            exact hqj
        · rw [Deaf_other t (g' := i) (by simp at hj; omega) _ (fun op hop => by obtain ⟨e, _, rfl⟩ := Conc.mem_ofEvents hop; rfl)]
          exact hL.above j (by simpa using hj)
/-- A step that does not look at memory. -/
theorem A.ctl (h : ∀ w, stepG P true (G fr cs) w = .go (G fr1 cs1) w #[]) (k : A P Post fr1 cs1 w) : A P Post fr cs w :=
  .one fun w' hs => ⟨fr1, cs1, w', #[], h w', by simp, Nat.le_refl _, k.same hs⟩
/-- The end. -/
theorem A.fin {v : Value} (h : ∀ w', Same w w' → stepG P true (G fr cs) w' = .ended (.done v) w' #[] ∧ Post v w') : A P Post fr cs w := by
  intro gs w' sl t q off hs h0 hL hP
  have hG : Goes P true AtRel (fun _ _ _ => False) (AtEnd P (fun _ => False) w'.heap.size Post) 0 { G fr cs with offers := off } w' := by
    rintro w1 ⟨d, rfl⟩
    obtain ⟨h1, h2⟩ := h (w'.at d) (hs.trans ⟨rfl, rfl, rfl⟩)
    exact ⟨rfl, v, #[], h1, by simp, h2⟩
  exact beside_ends (D := fun _ _ _ => False) (fun _ _ _ h => h.elim) h0 hL hP hG
/-- The steps of a lone run do not hang on who called. -/
theorem StepP.rebase {l l1 c : List Frame} {es : Array Event} (h : StepP P fr (l ++ [shut P]) w fr1 (l1 ++ [shut P]) w1 es) (hend : fr.mode = .returning → l ≠ []) : StepP P fr (l ++ c) w fr1 (l1 ++ c) w1 es := by
  generalize hcs : l ++ [shut P] = x at h
  generalize hcs1 : l1 ++ [shut P] = y at h
  cases h with
  | ctl h1 h2 =>
    have : l1 = l := by rw [← hcs] at hcs1; simpa using hcs1
    subst this
    exact .ctl h1 h2
  | draw h1 h2 h3 =>
    have : l1 = l := by rw [← hcs] at hcs1; simpa using hcs1
    subst this
    exact .draw h1 h2 h3
  | oper h1 h2 h3 h4 h5 h6 =>
    rename_i n _
    refine .oper h1 h2 h3 h4 h5 ?_
    cases n <;> simp only [after, reduceCtorEq, Option.some.injEq, Prod.mk.injEq] at h6 ⊢
    · obtain ⟨h6, h7⟩ := h6
      have : l1 = l := by rw [← hcs1, ← hcs] at h7; simpa using h7.symm
      subst this
      exact ⟨h6, rfl⟩
    · obtain ⟨h6, h7⟩ := h6
      have : l1 = l := by rw [← hcs1, ← hcs] at h7; simpa using h7.symm
      subst this
      exact ⟨h6, rfl⟩
    · obtain ⟨h6, h7⟩ := h6
      have : l1 = fr :: l := by
        rw [← hcs1, ← hcs, ← List.cons_append] at h7
        exact (List.append_cancel_right h7).symm
      subst this
      exact ⟨h6, rfl⟩
  | ret h1 h2 h3 =>
    cases l with
    | nil => exact absurd rfl (hend h1)
    | cons z l =>
      simp only [List.cons_append, List.cons.injEq] at hcs
      obtain ⟨rfl, hcs⟩ := hcs
      have : l1 = l := by rw [← hcs] at hcs1; simpa using hcs1
      subst this
      exact .ret h1 h2 h3
/-- A lone run, as a tree, beside others. -/
theorem A.of_ends {FS : FuncId → Prop} (HB : BodP P FS) {PostF : Frame → World → Prop} {l : List Frame} (he : EndsP P PostF fr l w) : GoodP P FS fr l → (∀ fr w, FP P FS fr → fr.mode = .returning → PostF fr w → A P Post fr cs w) → A P Post fr (l ++ cs) w := by
  induction he with
  | done hm hp => exact fun hg hf => hf _ _ hg.2.1 hm hp
  | @step fr l w hend hsome hall ih =>
    intro hg hf
    refine .one fun w' hs => ?_
    obtain ⟨fr1, l1, w1, es, hst⟩ := hsome fun i q => w'.tape (w'.drawn + (i - w.drawn)) q
    obtain ⟨h1, h2, h3, h4, h5⟩ := hst.mvP HB hg.2.1
    obtain ⟨l2, e, hg1⟩ := hg.step HB hend hst
    have : l1 = l2 := by simpa using e
    subst this
    have hst' := h5 w'.tape w'.drawn fun i q _ => by
      show w'.tape (w'.drawn + i) q = w'.tape (w'.drawn + (w.drawn + i - w.drawn)) q
      rw [Nat.add_sub_cancel_left]
    have ew : mv (on w fun i q => w'.tape (w'.drawn + (i - w.drawn)) q) w'.tape w'.drawn = w' := by
      obtain ⟨hh, ho, hu⟩ := hs
      cases w'
      cases w
      simp only at hh ho hu
      subst hh ho hu
      rfl
    rw [ew] at hst'
    have hA := ih _ fr1 l1 w1 es hst hg1 hf
    refine ⟨fr1, l1 ++ cs, _, es, (hst'.rebase (c := cs) hend).goes hg.2.1, h4, ?_, hA.same ⟨rfl, rfl, rfl⟩⟩
    have : w'.heap.size = w.heap.size := by rw [hs.heap]
    rw [this]
    exact h3
/-- A call that has a lone contract. -/
theorem A.call {FS : FuncId → Prop} (HB : BodP P FS) (HN : NoEarly P) {f : FuncId} (hf : FS f) {fn : Func} {c : Code} (hfn : P.funcs[f]? = some fn) (hb : fn.body = some c) {xs : Array Value} {Q : Value → World → Prop} (hQ : ∀ v w w', Same w w' → Q v w → Q v w') {x : Frame} (h : ∀ w', Same w w' → Calls P f xs w' fun e w' => ∃ v, e = .returned v ∧ Q v w')
    (k : ∀ v w1, Q v w1 → A P Post (x.finish v) cs w1) : A P Post (Frame.enter P f xs .normal) (x :: cs) w := by
  have he := ends_of_callsP HB HN hf hfn hb (fun v w T q => hQ v w _ ⟨rfl, rfl, rfl⟩ q) (fun T => h (on w T) ⟨rfl, rfl, rfl⟩)
  refine A.of_ends (l := []) (cs := x :: cs) HB he ⟨.inl rfl, FP.enter HB hf hfn hb xs, fun x hx => by simp at hx⟩ fun fr w hfp hm hp => ?_
  obtain ⟨h1, fn', v, h2, h3, h4⟩ := hp
  have hr : (results fn' fr.tmps).runT P w #[] = (.ok v w, ((results fn' fr.tmps).runT P w #[]).2) := by
    have := Sem.runT_fst P (results fn' fr.tmps) w #[]
    rw [h3] at this
    exact Prod.ext this rfl
  have g := (pt_results fn' fr.tmps).run_mv hr
  refine .one fun w2 hs => ?_
  have g2 := g.run w2.tape w2.drawn fun i q hi => by omega
  rw [Nat.sub_self, Nat.add_zero] at g2
  have ew : mv w w2.tape w2.drawn = w2 := by
    obtain ⟨hh, ho, hu⟩ := hs
    cases w2
    cases w
    simp only at hh ho hu
    subst hh ho hu
    rfl
  rw [ew] at g2
  refine ⟨x.finish v, cs, w2, _, step_retE hm hfp.defers hfp.kind (by rw [h1]; exact h2) g2, fun e he => ?_, Nat.le_refl _, (k v w h4).same hs⟩
  rcases g.low e (seen_mem he) with h | h
  · simp at h
  · rw [hs.heap]; exact h
end
end Go.Proofs.Ytgeoffpcmkofkaa
