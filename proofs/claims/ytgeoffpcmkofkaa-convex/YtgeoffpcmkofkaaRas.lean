/- Kk; Kl; Km; Kn; Ko; Kp; Kq; Kr; Ks; Ku; Kv; Kw: texts laid into one. -/
import Derived.Test.YtgeoffpcmkofkaaRar
/- A lone run reads of its tape no more than what it draws. -/
namespace Go.Proofs.Ytgeoffpcmkofkaa
open Go

/-- The same world, another tape. -/
def on (w : World) (T : Nat → Question → Nat) : World := { w with tape := T }
section
variable {G : Nat} {FS : FuncId → Prop} {Sh : Nat → Prop} {P : Program} {α α' : Type} {Q : BR → α → α' → Prop}
structure RunOn (P : Program) (s : Sem α) (wl : World) (a : α) (wl' : World) : Prop where
  mono : wl.drawn ≤ wl'.drawn
  same : wl'.tape = wl.tape
  run : ∀ T, (∀ i q, wl.drawn ≤ i → i < wl'.drawn → T i q = wl.tape i q) → s.run P (on wl T) = .ok a (on wl' T)
theorem SemR.run_on {B : BR} {s : Sem α} {s' : Sem α'} (h : SemR (G := G) (FS := FS) P Q B s s') : ∀ {wl w : World} {a : α} {wl' : World}, WR G FS Sh B wl w → s.run P wl = .ok a wl' → RunOn P s wl a wl' := by
  induction h with
  | pure hq =>
    intro wl w a wl' hw hr
    simp only [Sem.run] at hr
    cases hr
    exact ⟨Nat.le_refl _, rfl, fun _ _ => rfl⟩
  | @load B a a' k k' ha _ ih =>
    intro wl w x wl' hw hr
    simp only [Sem.run] at hr
    cases hc : wl.cell? a with
    | none =>
      rw [hc] at hr
      simp only at hr
      have := (hw.far (P := P) ha (Mode.plain == .atomic)).1
      split at hr
      · rename_i hf; exact absurd hf (this _)
      · cases hr
    | some v =>
      rw [hc] at hr
      obtain ⟨v', hv', hvr⟩ := hw.cell ha hc
      have g := ih v v' hvr hw hr
      refine ⟨g.mono, g.same, fun T hT => ?_⟩
      have e : (on wl T).cell? a = some v := hc
      simp only [Sem.run, e]
      exact g.run T hT
  | @store B a a' v v' k k' ha hv _ ih =>
    intro wl w x wl' hw hr
    have key : ∀ (hag : ∀ cs, v ≠ .agg cs) (htu : ∀ cs, v ≠ .tuple cs), RunOn P (.store .plain a v k) wl x wl' := by
      intro hag htu
      have e1 : ∀ wl : World, (Sem.store .plain a v k).run P wl = match wl.cell? a with
          | some _ => if wl.frozen? a then .halt (.unsupported (.unsafePointer "a write to bytes that a string shares")) wl else k.run P (wl.setCell a v)
          | none => match wl.farStore P a v (Mode.plain == .atomic) with
            | .ok (w, _) => k.run P w
            | .error h => .halt h wl := by
        intro wl
        cases v <;> first | rfl | exact absurd rfl (hag _) | exact absurd rfl (htu _)
      rw [e1] at hr
      cases hc : wl.cell? a with
      | none =>
        rw [hc] at hr
        simp only at hr
        have := (hw.far (P := P) ha (Mode.plain == .atomic)).2 v
        split at hr
        · rename_i hf; exact absurd hf (this _)
        · cases hr
      | some u =>
        rw [hc] at hr
        simp only at hr
        by_cases hf : wl.frozen? a = true
        · rw [if_pos hf] at hr; cases hr
        · rw [if_neg hf] at hr
          have g := ih (hw.set ha hc hv) hr
          refine ⟨g.mono, g.same, fun T hT => ?_⟩
          rw [e1 (on wl T)]
          have hc' : (on wl T).cell? a = some u := hc
          rw [hc']
          simp only
          have hf' : ¬(on wl T).frozen? a = true := hf
          rw [if_neg hf']
          exact g.run T hT
    cases v with
    | agg cs => simp [Sem.run] at hr
    | tuple cs => simp [Sem.run] at hr
    | _ => exact key (fun _ h => by cases h) (fun _ h => by cases h)
  | @getNum B r r' k k' hb _ ih =>
    intro wl w x wl' hw hr
    obtain ⟨o, o', g1, g2, g3⟩ := hw.blk r r' hb
    simp only [Sem.run, g1] at hr
    cases g3 with
    | cells _ _ _ => simp at hr
    | @number a a' l ha hns =>
      simp only at hr
      have g := ih a a' l ha hw hr
      refine ⟨g.mono, g.same, fun T hT => ?_⟩
      have e : (on wl T).heap[r]? = some (.number a l) := g1
      simp only [Sem.run, e]
      exact g.run T hT
  | @newNum B a a' l k k' ha _ ih =>
    intro wl w x wl' hw hr
    simp only [Sem.run] at hr
    have g := ih wl.heap.size w.heap.size hw.glob (hw.new fun hs => .number ha hs) hr
    exact ⟨g.mono, g.same, fun T hT => g.run T hT⟩
  | @new B c c' e k k' hc _ ih =>
    intro wl w x wl' hw hr
    simp only [Sem.run] at hr
    have g := ih wl.heap.size w.heap.size hw.glob (hw.new fun hs => .cells hc (fun k => absurd k hs) fun _ => rfl) hr
    exact ⟨g.mono, g.same, fun T hT => g.run T hT⟩
  | @shape B r r' k k' hb _ ih =>
    intro wl w x wl' hw hr
    simp only [Sem.run] at hr
    have g := ih _ hw hr
    exact ⟨g.mono, g.same, fun T hT => g.run T hT⟩
  | @choose B q k k' _ ih =>
    intro wl w x wl' hw hr
    simp only [Sem.run] at hr
    by_cases hq : q.forced = true
    · rw [if_pos hq] at hr
      have g := ih _ hw hr
      refine ⟨g.mono, g.same, fun T hT => ?_⟩
      simp only [Sem.run, if_pos hq]
      exact g.run T hT
    · rw [if_neg hq] at hr
      have g := ih _ hw.draw hr
      have hm : wl.drawn + 1 ≤ wl'.drawn := g.mono
      refine ⟨by omega, g.same, fun T hT => ?_⟩
      simp only [Sem.run, if_neg hq]
      have e : (on wl T).tape (on wl T).drawn q = wl.tape wl.drawn q := hT wl.drawn q (Nat.le_refl _) (by omega)
      rw [e]
      exact g.run T fun i q h1 h2 => hT i q (by have : wl.drawn + 1 ≤ i := h1; omega) h2
  | program _ ih =>
    intro wl w x wl' hw hr
    simp only [Sem.run] at hr
    have g := ih hw hr
    exact ⟨g.mono, g.same, fun T hT => g.run T hT⟩
  | @mark B m k k' hm _ ih =>
    intro wl w x wl' hw hr
    simp only [Sem.run] at hr
    have g := ih hw hr
    exact ⟨g.mono, g.same, fun T hT => g.run T hT⟩
  | dead hd =>
    intro wl w x wl' hw hr
    exact absurd hr (hd.1 _ _ _)
theorem farLoad_mild {w : World} {a : Addr} {b : Bool} {h : Halt} (hr : w.farLoad P a b = .error h) : MildH h := by
  unfold World.farLoad at hr
  split at hr
  · split at hr
    · cases hr
    · injection hr with hr; subst hr; trivial
  · injection hr with hr
    subst hr
    unfold World.noCell
    split <;> trivial
theorem farStore_mild {w : World} {a : Addr} {v : Value} {b : Bool} {h : Halt} (hr : w.farStore P a v b = .error h) : MildH h := by
  unfold World.farStore at hr
  split at hr
  · split at hr
    · cases hr
    · injection hr with hr; subst hr; trivial
  · injection hr with hr
    subst hr
    unfold World.noCell
    split <;> trivial
theorem SemR.halts {B : BR} {s : Sem α} {s' : Sem α'} (h : SemR (G := G) (FS := FS) P Q B s s') : ∀ {wl w : World} {x : Halt} {wl' : World}, WR G FS Sh B wl w → s.run P wl = .halt x wl' → MildH x := by
  induction h with
  | pure hq => intro wl w x wl' hw hr; cases hr
  | @load B a a' k k' ha _ ih =>
    intro wl w x wl' hw hr
    simp only [Sem.run] at hr
    cases hc : wl.cell? a with
    | none =>
      rw [hc] at hr
      simp only at hr
      have := (hw.far (P := P) ha (Mode.plain == .atomic)).1
      split at hr
      · rename_i hf; exact absurd hf (this _)
      · rename_i hf
        injection hr with hr _
        subst hr
        exact farLoad_mild hf
    | some v =>
      rw [hc] at hr
      obtain ⟨v', hv', hvr⟩ := hw.cell ha hc
      exact ih v v' hvr hw hr
  | @store B a a' v v' k k' ha hv _ ih =>
    intro wl w x wl' hw hr
    have key : ∀ (hag : ∀ cs, v ≠ .agg cs) (htu : ∀ cs, v ≠ .tuple cs), MildH x := by
      intro hag htu
      have e1 : ∀ wl : World, (Sem.store .plain a v k).run P wl = match wl.cell? a with
          | some _ => if wl.frozen? a then .halt (.unsupported (.unsafePointer "a write to bytes that a string shares")) wl else k.run P (wl.setCell a v)
          | none => match wl.farStore P a v (Mode.plain == .atomic) with
            | .ok (w, _) => k.run P w
            | .error h => .halt h wl := by
        intro wl
        cases v <;> first | rfl | exact absurd rfl (hag _) | exact absurd rfl (htu _)
      rw [e1] at hr
      cases hc : wl.cell? a with
      | none =>
        rw [hc] at hr
        simp only at hr
        have := (hw.far (P := P) ha (Mode.plain == .atomic)).2 v
        split at hr
        · rename_i hf; exact absurd hf (this _)
        · rename_i hf
          injection hr with hr _
          subst hr
          exact farStore_mild hf
      | some u =>
        rw [hc] at hr
        simp only at hr
        by_cases hf : wl.frozen? a = true
        · rw [if_pos hf] at hr
          injection hr with hr _
          subst hr
          trivial
        · rw [if_neg hf] at hr
          exact ih (hw.set ha hc hv) hr
    cases v with
    | agg cs => simp [Sem.run] at hr; rw [← hr.1]; trivial
    | tuple cs => simp [Sem.run] at hr; rw [← hr.1]; trivial
    | _ => exact key (fun _ h => by cases h) (fun _ h => by cases h)
  | @getNum B r r' k k' hb _ ih =>
    intro wl w x wl' hw hr
    obtain ⟨o, o', g1, g2, g3⟩ := hw.blk r r' hb
    simp only [Sem.run, g1] at hr
    cases g3 with
    | cells _ _ _ => simp only at hr; injection hr with hr _; subst hr; trivial
    | @number a a' l ha hns => exact ih a a' l ha hw hr
  | @newNum B a a' l k k' ha _ ih =>
    intro wl w x wl' hw hr
    exact ih wl.heap.size w.heap.size hw.glob (hw.new fun hs => .number ha hs) hr
  | @new B c c' e k k' hc _ ih =>
    intro wl w x wl' hw hr
    exact ih wl.heap.size w.heap.size hw.glob (hw.new fun hs => .cells hc (fun k => absurd k hs) fun _ => rfl) hr
  | @shape B r r' k k' hb _ ih =>
    intro wl w x wl' hw hr
    exact ih _ hw hr
  | @choose B q k k' _ ih =>
    intro wl w x wl' hw hr
    simp only [Sem.run] at hr
    by_cases hq : q.forced = true
    · rw [if_pos hq] at hr
      exact ih _ hw hr
    · rw [if_neg hq] at hr
      exact ih _ hw.draw hr
  | program _ ih => intro wl w x wl' hw hr; exact ih hw hr
  | @mark B m k k' hm _ ih => intro wl w x wl' hw hr; exact ih hw hr
  | dead hd => intro wl w x wl' hw hr; exact hd.2 _ _ _ hr
end
end Go.Proofs.Ytgeoffpcmkofkaa
/- Steps of a frame whose operations are all tame. -/
namespace Go.Proofs.Ytgeoffpcmkofkaa
open Go

section
variable (G : Nat) (FS : FuncId → Prop) (P : Program)
/-- Code that this calculus bears. -/
def CodeT : Code → Prop
  | .region _ ops _ => ∀ o ∈ ops.toList, OpTame G FS P o.op
  | .seq a b => CodeT a ∧ CodeT b
  | .cond c a b => OperOK G FS c ∧ CodeT a ∧ CodeT b
  | .block _ b | .loop b | .scope b => CodeT b
  | .rangeFunc .. => False
  | _ => True
def ItemT : Item → Prop
  | .code c => CodeT G FS P c
  | .inLoop b | .inScope b => CodeT G FS P b
  | .inBlock _ => True
  | .inRegion ops _ => ∀ o ∈ ops.toList, OpTame G FS P o.op
  | _ => False
/-- All functions of the set: their bodies and their results. -/
structure BodiesOK : Prop where
  body : ∀ f, FS f → ∀ fn, P.funcs[f]? = some fn → ∀ c, fn.body = some c → CodeT G FS P c
  res : ∀ f, FS f → ∀ fn, P.funcs[f]? = some fn → ∀ r ∈ fn.results.toList, ∃ t, r = .tmp t
  loud : ∀ f, FS f → ∀ fn, P.funcs[f]? = some fn → fn.norace = false
  there : ∀ f, FS f → ∃ fn, P.funcs[f]? = some fn
structure FT (fr : Frame) : Prop where
  fn : FS fr.fn
  todo : ∀ i ∈ fr.todo, ItemT G FS P i
  defers : fr.defers = []
  kind : fr.kind = .normal
  round : fr.roundOf = none
/-- Two frames that differ in the numbers of blocks alone. -/
structure FR (B : BR) (fr fr' : Frame) : Prop where
  ft : FT G FS P fr
  tmps : VRs G FS B fr.tmps.toList fr'.tmps.toList
  eq : fr' = { fr with tmps := fr'.tmps }
inductive FRs (B : BR) : List Frame → List Frame → Prop
  | nil : FRs B [] []
  | cons {fr fr' : Frame} {l l' : List Frame} : FR G FS P B fr fr' → fr.mode = .run → (∃ ops i rest k, fr.todo = .inRegion ops (i :: rest) :: k) → FRs B l l' → FRs B (fr :: l) (fr' :: l')
end

/-- A step that leaves memory alone. -/
def ctl (fr : Frame) : Option Frame :=
  match fr.todo with
  | [] => some { fr with mode := .returning }
  | .code .ret :: _ => some { fr with mode := .returning }
  | .code .skip :: k => some { fr with todo := k }
  | .code (.label _) :: k => some { fr with todo := k }
  | .inBlock _ :: k => some { fr with todo := k }
  | .inScope _ :: k => some { fr with todo := k }
  | .code (.seq a b) :: k => some { fr with todo := .code a :: .code b :: k }
  | .code (.cond c a b) :: k => match fr.eval c with
    | .bool true => some { fr with todo := .code a :: k }
    | .bool false => some { fr with todo := .code b :: k }
    | _ => none
  | .code (.block id b) :: k => some { fr with todo := .code b :: .inBlock id :: k }
  | .code (.loop b) :: k => some { fr with todo := .code b :: .inLoop b :: k }
  | .inLoop b :: k => some { fr with todo := .code b :: .inLoop b :: k }
  | .code (.scope b) :: k => some { fr with todo := .code b :: .inScope b :: k }
  | .code (.exit id) :: k => (exitTo id k).map fun k => { fr with todo := k }
  | .code (.goto l) :: k => (gotoIn l k).map fun k => { fr with todo := k }
  | .code (.region _ ops false) :: k => some { fr with todo := .inRegion ops (List.range ops.size) :: k }
  | .inRegion _ [] :: k => some { fr with todo := k }
  | .inRegion ops (i :: _) :: _ => if ((ops[i]?).map (Region.wanted · (yielded ops fr.tmps))).getD false then none else some (fr.finish undef)
  | _ => none
/-- What follows an operation. -/
def after (P : Program) (fr : Frame) (cs : List Frame) : Next → Option (Frame × List Frame)
  | .value v => some (fr.finish v, cs)
  | .skip => some (fr.finish undef, cs)
  | .enter f args => some (Frame.enter P f args .normal, fr :: cs)
  | _ => none
inductive Step1 (P : Program) : Frame → List Frame → World → Frame → List Frame → World → Array Event → Prop
  | ctl {fr fr1 : Frame} {cs : List Frame} {w : World} : fr.mode = .run → ctl fr = some fr1 → Step1 P fr cs w fr1 cs w #[]
  | draw {fr : Frame} {cs : List Frame} {w w1 : World} {id : Nat} {ops : Array Oper} {k : List Item} {t : Nat} : fr.mode = .run → fr.todo = .code (.region id ops true) :: k → (choose (.order fr.fn id)).run P w = .ok t w1 → Step1 P fr cs w { fr with todo := .inRegion ops (Region.schedule (P.follows .mixedOrders) ops t) :: k } cs w1 #[]
  | oper {fr fr1 : Frame} {cs cs1 : List Frame} {w w1 : World} {ops : Array Oper} {i : Nat} {rest : List Nat} {k : List Item} {o : Oper} {n : Next} {es : Array Event} : fr.mode = .run → fr.todo = .inRegion ops (i :: rest) :: k → ops[i]? = some o → Region.wanted o (yielded ops fr.tmps) = true → (execOp fr.eval o).runT P w #[] = (.ok n w1, es) → after P fr cs n = some (fr1, cs1) → Step1 P fr cs w fr1 cs1 w1 (seen P fr.fn es)
  | ret {fr c : Frame} {cs : List Frame} {w : World} {fn : Func} {v : Value} : fr.mode = .returning → P.funcs[fr.fn]? = some fn → (results fn fr.tmps).runT P w #[] = (.ok v w, #[]) → Step1 P fr (c :: cs) w (c.finish v) cs w #[]
end Go.Proofs.Ytgeoffpcmkofkaa
/- The machine takes these steps, and no others. -/
namespace Go.Proofs.Ytgeoffpcmkofkaa
open Go

section
variable {G : Nat} {FS : FuncId → Prop} {Sh : Nat → Prop} {P : Program} {main : Bool} {cs : List Frame} {w : World} {st : GoStatus} {off : Option (Array CommCase × CommShape)}
theorem step_ctl {fr fr1 : Frame} (hm : fr.mode = .run) (hr : fr.roundOf = none) (h : ctl fr = some fr1) : stepG P main { frame := fr, callers := cs, status := st, dying := none, offers := off } w = .go { frame := fr1, callers := cs, status := .running, dying := none } w #[] := by
  unfold ctl at h
  unfold stepG
  simp only [hm]
  unfold stepG.exec
  split at h
  all_goals rename_i ht
  all_goals simp only [ht]
  all_goals (first | (injection h with h; subst h; rfl) | (injection h with h; subst h; simp only [hr]; done) | cases h | skip)
  · simp [hr, ht]
  · simp [hr, ht]
  · split at h
    · rename_i he; injection h with h; subst h; simp [he]
    · rename_i he; injection h with h; subst h; simp [he]
    · cases h
  · rename_i id k
    cases he : exitTo id k with
    | none => rw [he] at h; cases h
    | some k' => rw [he] at h; injection h with h; subst h; rfl
  · rename_i id k
    cases he : gotoIn id k with
    | none => rw [he] at h; cases h
    | some k' => rw [he] at h; injection h with h; subst h; rfl
  · split at h
    · cases h
    · rename_i hn
      rw [if_neg hn]
      injection h with h
      subst h
      rfl
theorem step_draw {fr : Frame} {w1 : World} {id : Nat} {ops : Array Oper} {k : List Item} {t : Nat} (hm : fr.mode = .run) (ht : fr.todo = .code (.region id ops true) :: k) (h : (choose (.order fr.fn id)).run P w = .ok t w1) : stepG P main { frame := fr, callers := cs, status := st, dying := none, offers := off } w = .go { frame := { fr with todo := .inRegion ops (Region.schedule (P.follows .mixedOrders) ops t) :: k }, callers := cs, status := .running, dying := none } w1 #[] := by
  unfold stepG
  simp only [hm]
  unfold stepG.exec
  simp only [ht, h]
  simp [hm]
theorem step_oper {fr fr1 : Frame} {cs1 : List Frame} {w1 : World} {ops : Array Oper} {i : Nat} {rest : List Nat} {k : List Item} {o : Oper} {n : Next} {es : Array Event} (hm : fr.mode = .run) (hr : fr.roundOf = none) (hk : fr.kind = .normal) (ht : fr.todo = .inRegion ops (i :: rest) :: k) (ho : ops[i]? = some o) (hw : Region.wanted o (yielded ops fr.tmps) = true) (h : (execOp fr.eval o).runT P w #[] = (.ok n w1, es)) (ha : after P fr cs n = some (fr1, cs1)) : stepG P main { frame := fr, callers := cs, status := st, dying := none, offers := off } w = .go { frame := fr1, callers := cs1, status := .running, dying := none } w1 (seen P fr.fn es) := by
  unfold stepG
  simp only [hm]
  unfold stepG.exec
  simp only [ht]
  rw [if_pos (by simp [ho, hw])]
  unfold stepG.oper
  have hop : fr.oper? = some o := by simp [Frame.oper?, ht, ho]
  simp only [hop, hr]
  unfold stepG.apply
  simp only [if_true, h, hk, ht]
  cases n <;> simp only [after, reduceCtorEq] at ha <;> (injection ha with ha; injection ha with h1 h2; subst h1 h2; simp [GStep.after])
theorem step_ret {fr c : Frame} {fn : Func} {v : Value} (hm : fr.mode = .returning) (hd : fr.defers = []) (hk : fr.kind = .normal) (hf : P.funcs[fr.fn]? = some fn) (h : (results fn fr.tmps).runT P w #[] = (.ok v w, #[])) : stepG P main { frame := fr, callers := c :: cs, status := st, dying := none, offers := off } w = .go { frame := c.finish v, callers := cs, status := .running, dying := none } w #[] := by
  unfold stepG
  simp only [hm]
  unfold unwind
  simp only [hd, hm, hf, h]
  simp [doReturn, hk, GStep.after, seen]
theorem Step1.goes {fr fr1 : Frame} {cs1 : List Frame} {w1 : World} {es : Array Event} (hf : FT G FS P fr) (h : Step1 P fr cs w fr1 cs1 w1 es) : stepG P main { frame := fr, callers := cs, status := st, dying := none, offers := off } w = .go { frame := fr1, callers := cs1, status := .running, dying := none } w1 es := by
  cases h with
  | ctl h1 h2 => exact step_ctl h1 hf.round h2
  | draw h1 h2 h3 => exact step_draw h1 h2 h3
  | oper h1 h2 h3 h4 h5 h6 => exact step_oper h1 hf.round hf.kind h2 h3 h4 h5 h6
  | ret h1 h2 h3 => exact step_ret h1 hf.defers hf.kind h2 h3
/-- Where a running frame stands. -/
theorem stands {fr : Frame} (hf : FT G FS P fr) (hm : fr.mode = .run) :
    (∃ fr1, ctl fr = some fr1) ∨ (∃ id ops k, fr.todo = .code (.region id ops true) :: k ∧ ∀ o ∈ ops.toList, OpTame G FS P o.op) ∨
    (∃ ops i rest k o, fr.todo = .inRegion ops (i :: rest) :: k ∧ ops[i]? = some o ∧ Region.wanted o (yielded ops fr.tmps) = true ∧ OpTame G FS P o.op) ∨
    (∀ cs w, ∃ o w1, stepG P main { frame := fr, callers := cs, status := .running, dying := none } w = .ended o w1 #[]) := by
  have hx : ∀ cs w, stepG P main { frame := fr, callers := cs, status := .running, dying := none } w = stepG.exec P main true fr cs none w := by
    intro cs w
    unfold stepG
    simp only [hm]
  have hi := hf.todo
  have hr := hf.round
  cases ht : fr.todo with
  | nil => exact .inl ⟨_, by simp only [ctl, ht]; rfl⟩
  | cons it k =>
    have h0 := hi it (by rw [ht]; simp)
    cases it with
    | inBlock id => exact .inl ⟨_, by simp only [ctl, ht]; rfl⟩
    | inLoop b => exact .inl ⟨_, by simp only [ctl, ht]; rfl⟩
    | inScope b => exact .inl ⟨_, by simp only [ctl, ht]; rfl⟩
    | inRangeFunc l => exact h0.elim
    | endRangeFunc l => exact h0.elim
    | beginRound => exact h0.elim
    | call => exact h0.elim
    | extern => exact h0.elim
    | inRegion ops todo =>
      cases todo with
      | nil => exact .inl ⟨_, by simp only [ctl, ht]; rfl⟩
      | cons i rest =>
        by_cases hw : ((ops[i]?).map (Region.wanted · (yielded ops fr.tmps))).getD false = true
        · cases ho : ops[i]? with
          | none => rw [ho] at hw; simp at hw
          | some o =>
            rw [ho] at hw
            refine .inr (.inr (.inl ⟨ops, i, rest, k, o, rfl, ho, by simpa using hw, h0 o ?_⟩))
            have := Array.mem_of_getElem? ho
            simpa using this
        · exact .inl ⟨_, by simp only [ctl, ht, if_neg hw]; rfl⟩
    | code c =>
      cases c with
      | skip => exact .inl ⟨_, by simp only [ctl, ht]; rfl⟩
      | ret => exact .inl ⟨_, by simp only [ctl, ht]; rfl⟩
      | label l => exact .inl ⟨_, by simp only [ctl, ht]; rfl⟩
      | seq a b => exact .inl ⟨_, by simp only [ctl, ht]; rfl⟩
      | block id b => exact .inl ⟨_, by simp only [ctl, ht]; rfl⟩
      | loop b => exact .inl ⟨_, by simp only [ctl, ht]; rfl⟩
      | scope b => exact .inl ⟨_, by simp only [ctl, ht]; rfl⟩
      | rangeFunc => exact h0.elim
      | refuse why =>
        refine .inr (.inr (.inr fun cs w => ?_))
        rw [hx]
        unfold stepG.exec
        simp only [ht]
        exact ⟨_, _, rfl⟩
      | region id ops draw =>
        cases draw with
        | false => exact .inl ⟨_, by simp only [ctl, ht]; rfl⟩
        | true => exact .inr (.inl ⟨id, ops, k, rfl, h0⟩)
      | cond c a b =>
        by_cases hb : ∃ b, fr.eval c = .bool b
        · obtain ⟨v, hv⟩ := hb
          cases v <;> exact .inl ⟨_, by simp only [ctl, ht, hv]; rfl⟩
        · refine .inr (.inr (.inr fun cs w => ?_))
          rw [hx]
          unfold stepG.exec
          simp only [ht]
          split
          · rename_i v hv; exact absurd ⟨v, hv⟩ hb
          · exact ⟨_, _, rfl⟩
      | exit id =>
        cases he : exitTo id k with
        | some k' => exact .inl ⟨_, by simp only [ctl, ht, he]; rfl⟩
        | none =>
          refine .inr (.inr (.inr fun cs w => ?_))
          rw [hx]
          unfold stepG.exec
          simp only [ht, he, hr]
          exact ⟨_, _, rfl⟩
      | goto l =>
        cases he : gotoIn l k with
        | some k' => exact .inl ⟨_, by simp only [ctl, ht, he]; rfl⟩
        | none =>
          refine .inr (.inr (.inr fun cs w => ?_))
          rw [hx]
          unfold stepG.exec
          simp only [ht, he, hr]
          exact ⟨_, _, rfl⟩
end
end Go.Proofs.Ytgeoffpcmkofkaa
/- A step of the lone run is matched by a step of the other. -/
namespace Go.Proofs.Ytgeoffpcmkofkaa
open Go

section
variable {G : Nat} {FS : FuncId → Prop} {Sh : Nat → Prop} {P : Program} {B : BR}
theorem exitTo_sub {id : Nat} : ∀ {k k' : List Item}, exitTo id k = some k' → ∀ i ∈ k', i ∈ k
  | [], k', h => by simp [exitTo] at h
  | it :: k, k', h => by
    intro i hi
    cases it with
    | inBlock id' =>
      simp only [exitTo] at h
      split at h
      · injection h with h; subst h; exact List.mem_cons_of_mem _ hi
      · exact List.mem_cons_of_mem _ (exitTo_sub h i hi)
    | _ => exact List.mem_cons_of_mem _ (exitTo_sub (by simpa only [exitTo] using h) i hi)
theorem findLabel_tame {l : Nat} : ∀ {c r : Code}, findLabel c l = some r → CodeT G FS P c → CodeT G FS P r
  | .seq a b, r, h, hc => by
    simp only [findLabel] at h
    split at h
    · rename_i r' hr
      injection h with h
      subst h
      exact ⟨findLabel_tame hr hc.1, hc.2⟩
    · exact findLabel_tame h hc.2
  | .label l', r, h, _ => by
    simp only [findLabel] at h
    split at h
    · injection h with h; subst h; trivial
    · cases h
  | .skip, _, h, _ | .region .., _, h, _ | .cond .., _, h, _ | .block .., _, h, _ | .loop .., _, h, _ | .rangeFunc .., _, h, _ | .exit .., _, h, _ | .scope .., _, h, _ | .goto .., _, h, _ | .ret, _, h, _ | .refuse .., _, h, _ => by simp [findLabel] at h
theorem gotoIn_tame {l : Nat} : ∀ {k k' : List Item}, gotoIn l k = some k' → (∀ i ∈ k, ItemT G FS P i) → ∀ i ∈ k', ItemT G FS P i
  | [], k', h, _ => by simp [gotoIn] at h
  | it :: k, k', h, hk => by
    have hk' : ∀ i ∈ k, ItemT G FS P i := fun i hi => hk i (List.mem_cons_of_mem _ hi)
    cases it with
    | inScope b =>
      simp only [gotoIn] at h
      split at h
      · rename_i r hr
        injection h with h
        subst h
        intro i hi
        have hb : CodeT G FS P b := hk (.inScope b) (by simp)
        rcases List.mem_cons.1 hi with rfl | hi
        · exact findLabel_tame hr hb
        · exact hk i hi
      · exact gotoIn_tame h hk'
    | _ => exact gotoIn_tame (by simpa only [gotoIn] using h) hk'
theorem VR.undef : VR G FS B undef undef := .tuple .nil
theorem VRs.getD {a a' : Array Value} (h : VRs G FS B a.toList a'.toList) (t : Nat) : VR G FS B (a.getD t undef) (a'.getD t undef) := by
  cases hv : a[t]? with
  | none =>
    have h' : a'[t]? = Option.none := by
      have := h.none (i := t) (by simpa using hv)
      simpa using this
    simp only [Array.getD_eq_getD_getElem?, hv, h', Option.getD_none]
    exact VR.undef
  | some v =>
    obtain ⟨v', h1, h2⟩ := VR.get h hv
    simp only [Array.getD_eq_getD_getElem?, hv, h1, Option.getD_some]
    exact h2
theorem FR.eval {fr fr' : Frame} (h : FR G FS P B fr fr') (x : Operand) (hx : OperOK G FS x) : VR G FS B (fr.eval x) (fr'.eval x) := by
  cases x with
  | tmp t => exact h.tmps.getD t
  | const v => exact hx B
  | global g => exact hx.elim
  | func f => exact .func f hx
theorem FR.yielded {fr fr' : Frame} (h : FR G FS P B fr fr') (ops : Array Oper) : yielded ops fr'.tmps = yielded ops fr.tmps := by
  funext j
  unfold Go.yielded
  cases hd : (ops[j]?).bind (·.dst) with
  | none => rfl
  | some d =>
    simp only [Option.bind_some]
    cases hv : fr.tmps[d]? with
    | none =>
      have h' : fr'.tmps[d]? = none := by
        have := h.tmps.none (i := d) (by simpa using hv)
        simpa using this
      rw [h']
    | some v =>
      obtain ⟨v', h1, h2⟩ := VR.get h.tmps hv
      rw [h1]
      cases h2 <;> rfl
theorem FR.mono {B' : BR} (hB : Sub B B') {fr fr' : Frame} (h : FR G FS P B fr fr') : FR G FS P B' fr fr' := ⟨h.ft, h.tmps.mono hB, h.eq⟩
theorem FRs.mono {B' : BR} (hB : Sub B B') : ∀ {l l' : List Frame}, FRs G FS P B l l' → FRs G FS P B' l l'
  | _, _, .nil => .nil
  | _, _, .cons h1 h2 h3 h4 => .cons (h1.mono hB) h2 h3 (h4.mono hB)
/-- Frames that go on with another list of things to do. -/
theorem FR.to {fr fr' : Frame} (h : FR G FS P B fr fr') {k : List Item} (hk : ∀ i ∈ k, ItemT G FS P i) : FR G FS P B { fr with todo := k } { fr' with todo := k } := by
  refine ⟨⟨h.ft.fn, hk, h.ft.defers, h.ft.kind, h.ft.round⟩, h.tmps, ?_⟩
  have := h.eq
  rw [this]
theorem FR.leaves {fr fr' : Frame} (h : FR G FS P B fr fr') : FR G FS P B { fr with mode := .returning } { fr' with mode := .returning } := by
  refine ⟨⟨h.ft.fn, h.ft.todo, h.ft.defers, h.ft.kind, h.ft.round⟩, h.tmps, ?_⟩
  have := h.eq
  rw [this]
theorem FR.todo {fr fr' : Frame} (h : FR G FS P B fr fr') : fr'.todo = fr.todo := by rw [h.eq]
theorem FR.fn {fr fr' : Frame} (h : FR G FS P B fr fr') : fr'.fn = fr.fn := by rw [h.eq]
theorem FR.mode {fr fr' : Frame} (h : FR G FS P B fr fr') : fr'.mode = fr.mode := by rw [h.eq]
theorem FR.finish {fr fr' : Frame} (h : FR G FS P B fr fr') {ops : Array Oper} {i : Nat} {rest : List Nat} {k : List Item} (ht : fr.todo = .inRegion ops (i :: rest) :: k) {v v' : Value} (hv : VR G FS B v v') : FR G FS P B (fr.finish v) (fr'.finish v') := by
  have ht' : fr'.todo = .inRegion ops (i :: rest) :: k := by rw [h.todo, ht]
  have hk : ∀ it ∈ (.inRegion ops rest :: k : List Item), ItemT G FS P it := by
    intro it hi
    rcases List.mem_cons.1 hi with rfl | hi
    · exact h.ft.todo (.inRegion ops (i :: rest)) (by rw [ht]; simp)
    · exact h.ft.todo it (by rw [ht]; exact List.mem_cons_of_mem _ hi)
  unfold Frame.finish
  rw [ht, ht']
  simp only
  cases hd : (ops[i]?).bind (·.dst) with
  | none => exact h.to hk
  | some d =>
    refine ⟨⟨h.ft.fn, hk, h.ft.defers, h.ft.kind, h.ft.round⟩, ?_, ?_⟩
    · simp only [Array.toList_setIfInBounds]
      exact h.tmps.set d hv
    · have := h.eq
      rw [this]
theorem FR.enter (HB : BodiesOK G FS P) {f : FuncId} (hf : FS f) {vas vas' : Array Value} (ha : VRs G FS B vas.toList vas'.toList) : FR G FS P B (Frame.enter P f vas .normal) (Frame.enter P f vas' .normal) := by
  refine ⟨⟨hf, fun i hi => ?_, rfl, rfl, rfl⟩, ?_, ?_⟩
  · simp only [Frame.enter, List.mem_singleton] at hi
    subst hi
    cases hfn : P.funcs[f]? with
    | none => simp [ItemT, CodeT]
    | some fn =>
      cases hb : fn.body with
      | none => simp [hb, ItemT, CodeT]
      | some c =>
        simp only [Option.bind_some, hb, Option.getD_some]
        exact HB.body f hf fn hfn c hb
  · simp only [Frame.enter, Array.toList_append, Array.toList_replicate, ha.size]
    exact ha.append (VRs.replicate VR.undef _)
  · rfl
theorem sim_ctl {fr fr' fr1 : Frame} (h : FR G FS P B fr fr') (hc : ctl fr = some fr1) : ∃ fr1', ctl fr' = some fr1' ∧ FR G FS P B fr1 fr1' := by
  have ht' := h.todo
  have hi := h.ft.todo
  unfold ctl at hc
  split at hc
  all_goals (first | (cases hc; done) | skip)
  all_goals (rename_i ht; unfold ctl; rw [ht', ht]; simp only)
  all_goals (rw [ht] at hi)
  all_goals (first | (injection hc with hc; subst hc) | skip)
  · refine ⟨_, rfl, ?_⟩
    have hl := h.leaves
    simp only [ht', ht] at hl ⊢
    exact hl
  · refine ⟨_, rfl, ?_⟩
    have hl := h.leaves
    simp only [ht', ht] at hl ⊢
    exact hl
  · exact ⟨_, rfl, h.to fun i k => hi i (List.mem_cons_of_mem _ k)⟩
  · exact ⟨_, rfl, h.to fun i k => hi i (List.mem_cons_of_mem _ k)⟩
  · exact ⟨_, rfl, h.to fun i k => hi i (List.mem_cons_of_mem _ k)⟩
  · exact ⟨_, rfl, h.to fun i k => hi i (List.mem_cons_of_mem _ k)⟩
  · rename_i a b k
    refine ⟨_, rfl, h.to fun i hk => ?_⟩
    have h0 : CodeT G FS P a ∧ CodeT G FS P b := hi (.code (.seq a b)) (by simp)
    rcases List.mem_cons.1 hk with rfl | hk
    · exact h0.1
    · rcases List.mem_cons.1 hk with rfl | hk
      · exact h0.2
      · exact hi i (List.mem_cons_of_mem _ hk)
  · rename_i c a b k
    have h0 : OperOK G FS c ∧ CodeT G FS P a ∧ CodeT G FS P b := hi (.code (.cond c a b)) (by simp)
    have hv := h.eval c h0.1
    split at hc
    · rename_i he
      rw [he] at hv
      injection hc with hc
      subst hc
      generalize hz : fr'.eval c = z at hv
      cases hv
      refine ⟨_, rfl, h.to fun i hk => ?_⟩
      rcases List.mem_cons.1 hk with rfl | hk
      · exact h0.2.1
      · exact hi i (List.mem_cons_of_mem _ hk)
    · rename_i he
      rw [he] at hv
      injection hc with hc
      subst hc
      generalize hz : fr'.eval c = z at hv
      cases hv
      refine ⟨_, rfl, h.to fun i hk => ?_⟩
      rcases List.mem_cons.1 hk with rfl | hk
      · exact h0.2.2
      · exact hi i (List.mem_cons_of_mem _ hk)
    · cases hc
  · rename_i id b k
    refine ⟨_, rfl, h.to fun i hk => ?_⟩
    have h0 : CodeT G FS P b := hi (.code (.block id b)) (by simp)
    rcases List.mem_cons.1 hk with rfl | hk
    · exact h0
    · rcases List.mem_cons.1 hk with rfl | hk
      · trivial
      · exact hi i (List.mem_cons_of_mem _ hk)
  · rename_i b k
    refine ⟨_, rfl, h.to fun i hk => ?_⟩
    have h0 : CodeT G FS P b := hi (.code (.loop b)) (by simp)
    rcases List.mem_cons.1 hk with rfl | hk
    · exact h0
    · rcases List.mem_cons.1 hk with rfl | hk
      · exact h0
      · exact hi i (List.mem_cons_of_mem _ hk)
  · rename_i b k
    refine ⟨_, rfl, h.to fun i hk => ?_⟩
    have h0 : CodeT G FS P b := hi (.inLoop b) (by simp)
    rcases List.mem_cons.1 hk with rfl | hk
    · exact h0
    · rcases List.mem_cons.1 hk with rfl | hk
      · exact h0
      · exact hi i (List.mem_cons_of_mem _ hk)
  · rename_i b k
    refine ⟨_, rfl, h.to fun i hk => ?_⟩
    have h0 : CodeT G FS P b := hi (.code (.scope b)) (by simp)
    rcases List.mem_cons.1 hk with rfl | hk
    · exact h0
    · rcases List.mem_cons.1 hk with rfl | hk
      · exact h0
      · exact hi i (List.mem_cons_of_mem _ hk)
  · rename_i id k
    cases he : exitTo id k with
    | none => rw [he] at hc; cases hc
    | some k' =>
      rw [he] at hc
      injection hc with hc
      subst hc
      exact ⟨_, rfl, h.to fun i hk => hi i (List.mem_cons_of_mem _ (exitTo_sub he i hk))⟩
  · rename_i id k
    cases he : gotoIn id k with
    | none => rw [he] at hc; cases hc
    | some k' =>
      rw [he] at hc
      injection hc with hc
      subst hc
      exact ⟨_, rfl, h.to fun i hk => gotoIn_tame he (fun i k => hi i (List.mem_cons_of_mem _ k)) i hk⟩
  · rename_i id ops k
    refine ⟨_, rfl, h.to fun i hk => ?_⟩
    rcases List.mem_cons.1 hk with rfl | hk
    · exact hi (.code (.region id ops false)) (by simp)
    · exact hi i (List.mem_cons_of_mem _ hk)
  · exact ⟨_, rfl, h.to fun i k => hi i (List.mem_cons_of_mem _ k)⟩
  · rename_i ops i rest k
    rw [h.yielded ops]
    split at hc
    · cases hc
    · rename_i hn
      rw [if_neg hn]
      injection hc with hc
      subst hc
      exact ⟨_, rfl, h.finish ht VR.undef⟩
theorem tmps_of : ∀ (l : List ResultVar), (∀ r ∈ l, ∃ t, r = .tmp t) → ∃ ts : List Nat, l = ts.map ResultVar.tmp
  | [], _ => ⟨[], rfl⟩
  | r :: l, h => by
    obtain ⟨t, rfl⟩ := h r (by simp)
    obtain ⟨ts, rfl⟩ := tmps_of l fun r hr => h r (by simp [hr])
    exact ⟨t :: ts, rfl⟩
def resOf (l : List Value) : Value := if h : l.toArray.size = 1 then l.toArray[0] else .tuple l.toArray
theorem mapM_tmps (tmps : Array Value) (ev : ResultVar → Sem Value) (hev : ∀ t, ev (.tmp t) = pure (tmps.getD t undef)) : ∀ (ts : List Nat), (ts.map ResultVar.tmp).mapM ev = (pure (ts.map fun t => tmps.getD t undef) : Sem (List Value))
  | [] => rfl
  | t :: ts => by
    rw [List.map_cons, List.mapM_cons, hev, mapM_tmps tmps ev hev ts]
    rfl
theorem results_tmps {fn : Func} {ts : List Nat} (h : fn.results.toList = ts.map ResultVar.tmp) (tmps : Array Value) : results fn tmps = pure (resOf (ts.map fun t => tmps.getD t undef)) := by
  unfold results
  rw [Array.mapM_eq_mapM_toList, h, mapM_tmps tmps _ (fun t => rfl) ts]
  rfl
theorem resOf_rel {a a' : Array Value} (h : VRs G FS B a.toList a'.toList) (ts : List Nat) : VR G FS B (resOf (ts.map fun t => a.getD t undef)) (resOf (ts.map fun t => a'.getD t undef)) := by
  have hl : ∀ ts : List Nat, VRs G FS B (ts.map fun t => a.getD t undef) (ts.map fun t => a'.getD t undef) := by
    intro ts
    induction ts with
    | nil => exact .nil
    | cons t ts ih => exact .cons (h.getD t) ih
  cases ts with
  | nil => exact .tuple .nil
  | cons t ts =>
    cases ts with
    | nil => exact h.getD t
    | cons u us =>
      have e : ∀ b : Array Value, resOf ((t :: u :: us).map fun t => b.getD t undef) = .tuple ((t :: u :: us).map fun t => b.getD t undef).toArray := by
        intro b
        unfold resOf
        rw [dif_neg (by simp)]
      rw [e, e]
      exact .tuple (hl _)

/-- The simulation: what a lone step comes to, the other's step comes to. -/
structure Match (G : Nat) (FS : FuncId → Prop) (Sh : Nat → Prop) (P : Program) (B : BR) (c : List Frame) (base : List Frame) (fr' : Frame) (cs' : List Frame) (w : World) (fr1 : Frame) (cs1 : List Frame) (wl1 : World) (B1 : BR) (fr1' : Frame) (l1 l1' : List Frame) (w1 : World) (es : Array Event) : Prop where
  cs1 : cs1 = l1 ++ c
  step : Step1 P fr' cs' w fr1' (l1' ++ base) w1 es
  fr : FR G FS P B1 fr1 fr1'
  frs : FRs G FS P B1 l1 l1'
  wr : WR G FS Sh B1 wl1 w1
  did : Did Sh B B1 w w1
  ev : ∀ e ∈ es, EvOK Sh B1 e
theorem seen_mem {fn : FuncId} {es : Array Event} {e : Event} (he : e ∈ seen P fn es) : e ∈ es := by
  unfold seen at he
  have key : ∀ (l : List Event) (q : Bool) (k : Array Event) (e : Event), e ∈ (l.foldl (fun (x : Bool × Array Event) e => match e.loc with | .mark (.extern f) => ((P.funcs[f]?).any (·.norace), x.2) | _ => (x.1, if x.1 && !e.sync then x.2 else x.2.push e)) (q, k)).2 → e ∈ k ∨ e ∈ l := by
    intro l
    induction l with
    | nil => intro q k e he; exact .inl he
    | cons a l ih =>
      intro q k e he
      simp only [List.foldl_cons] at he
      rcases ih _ _ e he with h | h
      · revert h
        split
        · intro h; exact .inl h
        · split
          · intro h; exact .inl h
          · intro h
            rcases Array.mem_push.1 h with h | h
            · exact .inl h
            · exact .inr (by simp [h])
      · exact .inr (List.mem_cons_of_mem _ h)
  simp only at he
  rw [← Array.foldl_toList] at he
  rcases key es.toList _ _ e he with h | h
  · simp at h
  · simpa using h
theorem Step1.sim (H : OpenOK G FS P) (HB : BodiesOK G FS P) {c base : List Frame} {fr fr' fr1 : Frame} {l l' cs1 : List Frame} {wl w wl1 : World} {es : Array Event} (hf : FR G FS P B fr fr') (hl : FRs G FS P B l l') (hw : WR G FS Sh B wl w) (hs : Step1 P fr (l ++ c) wl fr1 cs1 wl1 es) (hend : fr.mode = .returning → l ≠ []) :
    ∃ B1 fr1' l1 l1' w1 es', Match G FS Sh P B c base fr' (l' ++ base) w fr1 cs1 wl1 B1 fr1' l1 l1' w1 es' := by
  generalize hcs : l ++ c = cs at hs
  cases hs with
  | ctl hm hc =>
    obtain ⟨fr1', h1, h2⟩ := sim_ctl hf hc
    exact ⟨B, fr1', l, l', w, #[], hcs.symm, .ctl (by rw [hf.mode, hm]) h1, h2, hl, hw, Did.refl _ _, by simp⟩
  | draw hm ht hr =>
    rename_i id ops k t
    have hk : ∀ i ∈ (.inRegion ops (Region.schedule (P.follows .mixedOrders) ops t) :: k : List Item), ItemT G FS P i := by
      have hi := hf.ft.todo
      rw [ht] at hi
      intro i hk
      rcases List.mem_cons.1 hk with rfl | hk
      · exact hi (.code (.region id ops true)) (by simp)
      · exact hi i (List.mem_cons_of_mem _ hk)
    have hsem : SemR (G := G) (FS := FS) P EqQ B (choose (.order fr.fn id)) (choose (.order fr.fn id)) := .choose fun n => .pure rfl
    obtain ⟨B1, t', w1, es', h1, h2, h3, h4, h5⟩ := hsem.run #[] hw hr
    obtain rfl : t' = t := h2
    have h1' : (choose (.order fr'.fn id)).run P w = .ok t' w1 := by
      rw [hf.fn, ← Sem.runT_fst P _ w #[], h1]
    exact ⟨B1, _, l, l', w1, #[], hcs.symm, .draw (by rw [hf.mode, hm]) (by rw [hf.todo, ht]) h1', (hf.mono h4.sub).to hk, hl.mono h4.sub, h3, h4, by simp⟩
  | oper hm ht ho hwant hr ha =>
    rename_i ops i rest k o n es0
    have htame : OpTame G FS P o.op := by
      have := hf.ft.todo (.inRegion ops (i :: rest)) (by rw [ht]; simp)
      refine this o ?_
      have := Array.mem_of_getElem? ho
      simpa using this
    have hsem := r_execOp H (B := B) (ρ := fr.eval) (ρ' := fr'.eval) hf.eval htame
    have hr' : (execOp fr.eval o).run P wl = .ok n wl1 := by rw [← Sem.runT_fst P _ wl #[], hr]
    obtain ⟨B1, n', w1, es', h1, h2, h3, h4, h5⟩ := hsem.run #[] hw hr'
    have hev : ∀ e ∈ seen P fr'.fn es', EvOK Sh B1 e := by
      intro e he
      rcases h5 e (seen_mem he) with h | h
      · simp at h
      · exact h
    have hwant' : Region.wanted o (yielded ops fr'.tmps) = true := by rw [hf.yielded]; exact hwant
    cases h2 with
    | value hv =>
      simp only [after, Option.some.injEq, Prod.mk.injEq] at ha
      obtain ⟨rfl, rfl⟩ := ha
      exact ⟨B1, _, l, l', w1, _, hcs.symm, .oper (by rw [hf.mode, hm]) (by rw [hf.todo, ht]) ho hwant' h1 rfl, (hf.mono h4.sub).finish ht hv, hl.mono h4.sub, h3, h4, hev⟩
    | skip =>
      simp only [after, Option.some.injEq, Prod.mk.injEq] at ha
      obtain ⟨rfl, rfl⟩ := ha
      exact ⟨B1, _, l, l', w1, _, hcs.symm, .oper (by rw [hf.mode, hm]) (by rw [hf.todo, ht]) ho hwant' h1 rfl, (hf.mono h4.sub).finish ht VR.undef, hl.mono h4.sub, h3, h4, hev⟩
    | enter f hfs has =>
      simp only [after, Option.some.injEq, Prod.mk.injEq] at ha
      obtain ⟨rfl, rfl⟩ := ha
      exact ⟨B1, _, fr :: l, fr' :: l', w1, _, by rw [← hcs]; rfl, .oper (by rw [hf.mode, hm]) (by rw [hf.todo, ht]) ho hwant' h1 rfl, FR.enter HB hfs has, .cons (hf.mono h4.sub) hm ⟨ops, i, rest, k, ht⟩ (hl.mono h4.sub), h3, h4, hev⟩
  | ret hm hfn hr =>
    rename_i fn v
    have hne := hend hm
    cases hl with
    | nil => exact absurd rfl hne
    | @cons d d' l l' hd hdm hdt hl =>
      obtain ⟨ops, i, rest, k, hdt⟩ := hdt
      rw [List.cons_append] at hcs
      injection hcs with h1 h2
      subst h1 h2
      obtain ⟨ts, hts⟩ := tmps_of fn.results.toList (HB.res _ hf.ft.fn fn hfn)
      have e := results_tmps hts fr.tmps
      have e' := results_tmps hts fr'.tmps
      rw [e] at hr
      have hv : v = resOf (ts.map fun t => fr.tmps.getD t undef) := by
        have := congrArg Prod.fst hr
        simp only [pure, Sem.runT] at this
        injection this with this
        exact this.symm
      subst hv
      have hret : Step1 P fr' (d' :: (l' ++ base)) w (d'.finish (resOf (ts.map fun t => fr'.tmps.getD t undef))) (l' ++ base) w #[] := .ret (by rw [hf.mode, hm]) (by rw [hf.fn]; exact hfn) (by rw [e']; rfl)
      exact ⟨B, _, l, l', w, #[], rfl, hret, hd.finish hdt (resOf_rel hf.tmps ts), hl, hw, Did.refl _ _, by simp⟩
end
end Go.Proofs.Ytgeoffpcmkofkaa
/- A lone run that comes back takes none but these steps. -/
namespace Go.Proofs.Ytgeoffpcmkofkaa
open Go

/-- The caller under all: a panic ends the program there, and so does a return. -/
def shut (P : Program) : Frame := { fn := P.funcs.size, tmps := #[], todo := [.call { target := .nil, args := #[] } false "fmt's door, shut" #[]], defers := [], mode := .run, kind := .normal }
theorem shut_row : Extern.next "fmt's door, shut" = none := by decide +kernel
section
variable {G : Nat} {FS : FuncId → Prop} {Sh : Nat → Prop} {P : Program} {B : BR}
/-- The lone machine with this caller under all. -/
abbrev L (P : Program) (fr : Frame) (l : List Frame) (w : World) : Machine := lone fr (l ++ [shut P]) w
theorem step_go {fr fr1 : Frame} {cs cs1 : List Frame} {w w1 : World} {es : Array Event} (h : stepG P true { frame := fr, callers := cs, status := .running, dying := none } w = .go { frame := fr1, callers := cs1, status := .running, dying := none } w1 es) : step P (lone fr cs w) = .next (lone fr1 cs1 w1) := step_lone_go (by rw [h]; rfl)
theorem step_end {fr : Frame} {cs : List Frame} {w w1 : World} {o : Outcome} {es : Array Event} (h : stepG P true { frame := fr, callers := cs, status := .running, dying := none } w = .ended o w1 es) : step P (lone fr cs w) = .ended o w1 := step_lone_ended (by rw [h]; rfl)
/-- Frames that run a body and have nothing deferred. -/
def Bare (P : Program) (fr : Frame) : Prop := fr.defers = [] ∧ ∃ fn, P.funcs[fr.fn]? = some fn
theorem no_way_shut {ch : List PanicEntry} {w : World} : ∀ (n : Nat) (fr1 : Frame) (w1 : World), fr1.mode = .returning → runN P n (lone ((shut P).raise ch) [] w) ≠ .next (L P fr1 [] w1)
  | 0, fr1, w1, hm, h => by
    simp only [runN, L, lone, Stepped.next.injEq, Machine.mk.injEq] at h
    have := h.2.1
    simp at this
  | n + 1, fr1, w1, hm, h => by
    have : step P (lone ((shut P).raise ch) [] w) = .ended (.unsupported (.noEntry "a panic or Goexit out of a method that fmt calls behind a cut's door") (((shut P).raise ch).pos P)) w := by
      refine step_end (es := #[]) ?_
      unfold stepG
      simp only [Frame.raise, shut]
      unfold unwind
      simp [Frame.catches]
    simp only [runN, this] at h
    cases h
theorem no_way_back : ∀ (n : Nat) (l : List Frame) (fr : Frame) (ch : List PanicEntry) (w : World), (∀ x ∈ l, Bare P x ∧ x.mode = .run) → Bare P fr → fr.mode = .panicking ch → ∀ (fr1 : Frame) (w1 : World), fr1.mode = .returning → runN P n (L P fr l w) ≠ .next (L P fr1 [] w1)
  | 0, l, fr, ch, w, _, _, hp, fr1, w1, hm, h => by
    simp only [runN, L, lone, Stepped.next.injEq, Machine.mk.injEq] at h
    have := h.2.1
    simp at this
    rw [this.1] at hp
    rw [hp] at hm
    cases hm
  | n + 1, l, fr, ch, w, hl, hb, hp, fr1, w1, hm, h => by
    obtain ⟨hd, fn, hfn⟩ := hb
    cases l with
    | nil =>
      have : step P (L P fr [] w) = .next (lone ((shut P).raise ch) [] w) := by
        refine step_go (es := #[]) ?_
        unfold stepG
        simp only [hp]
        unfold unwind
        simp [hd, hp, Frame.catches, hfn]
      simp only [runN, this] at h
      exact no_way_shut n fr1 w1 hm h
    | cons x l =>
      have : step P (L P fr (x :: l) w) = .next (L P (x.raise ch) l w) := by
        refine step_go (es := #[]) ?_
        unfold stepG
        simp only [hp]
        unfold unwind
        simp [hd, hp, Frame.catches, hfn]
      simp only [runN, this] at h
      have hx := hl x (by simp)
      refine no_way_back n l (x.raise ch) ch w (fun y hy => hl y (by simp [hy])) ?_ ?_ fr1 w1 hm h
      · simp only [Frame.raise, hx.2]
        exact hx.1
      · simp only [Frame.raise, hx.2]
theorem finish_mode (fr : Frame) (v : Value) : (fr.finish v).mode = fr.mode := by
  unfold Frame.finish
  split <;> rfl
theorem Step1.mode {fr fr1 : Frame} {l l' cs1 : List Frame} {w w1 : World} {es : Array Event} (hl : FRs G FS P B l l') (hs : Step1 P fr (l ++ [shut P]) w fr1 cs1 w1 es) : fr1.mode = .run ∨ fr1.mode = .returning := by
  generalize hcs : l ++ [shut P] = cs at hs
  cases hs with
  | ctl hm hc =>
    unfold Ytgeoffpcmkofkaa.ctl at hc
    split at hc
    all_goals (first | (cases hc; done) | skip)
    all_goals (first | (injection hc with hc; subst hc; first | exact .inr rfl | exact .inl hm) | skip)
    · split at hc
      · injection hc with hc; subst hc; exact .inl hm
      · injection hc with hc; subst hc; exact .inl hm
      · cases hc
    · rename_i id k _
      cases he : exitTo id k with
      | none => rw [he] at hc; cases hc
      | some k' => rw [he] at hc; injection hc with hc; subst hc; exact .inl hm
    · rename_i id k _
      cases he : gotoIn id k with
      | none => rw [he] at hc; cases hc
      | some k' => rw [he] at hc; injection hc with hc; subst hc; exact .inl hm
    · split at hc
      · cases hc
      · injection hc with hc
        subst hc
        exact .inl (by rw [finish_mode]; exact hm)
  | draw hm ht hr => exact .inl hm
  | oper hm ht ho hwant hr ha =>
    rename_i n _
    cases n <;> simp only [after, reduceCtorEq] at ha <;> (injection ha with ha; injection ha with h1 h2; subst h1)
    · exact .inl (by rw [finish_mode]; exact hm)
    · exact .inl (by rw [finish_mode]; exact hm)
    · exact .inl rfl
  | ret hm hfn hr =>
    cases hl with
    | nil =>
      simp only [List.nil_append, List.cons.injEq] at hcs
      rw [← hcs.1]
      exact .inl rfl
    | cons h1 h2 _ _ =>
      rw [List.cons_append] at hcs
      injection hcs with h3 h4
      subst h3
      exact .inl (by rw [finish_mode]; exact h2)
/-- No variable of the program waits for its first value. -/
structure NoEarly (P : Program) : Prop where
  follows : P.follows .staticDataAhead = true
  none : ∀ g, P.stepOf g = Option.none
theorem lone_cases (H : OpenOK G FS P) (HB : BodiesOK G FS P) (HN : NoEarly P) {fr fr' : Frame} {l l' : List Frame} {wl w : World} (hf : FR G FS P B fr fr') (hl : FRs G FS P B l l') (hw : WR G FS Sh B wl w) (hm : fr.mode = .run ∨ fr.mode = .returning) (hend : fr.mode = .returning → l ≠ []) :
    (∃ fr1 cs1 wl1 es, Step1 P fr (l ++ [shut P]) wl fr1 cs1 wl1 es) ∨ (∃ ch wl1, step P (L P fr l wl) = .next (L P { fr with mode := .panicking ch } l wl1)) ∨ (∃ o wl1, step P (L P fr l wl) = .ended o wl1) := by
  rcases hm with hm | hm
  · rcases stands (main := true) hf.ft hm with ⟨fr1, h⟩ | ⟨id, ops, k, h, _⟩ | ⟨ops, i, rest, k, o, h1, h2, h3, h4⟩ | h
    · exact .inl ⟨_, _, _, _, .ctl hm h⟩
    · have hr : ∃ t w1, (choose (.order fr.fn id)).run P wl = .ok t w1 := by
        simp only [choose, Sem.run]
        split <;> exact ⟨_, _, rfl⟩
      obtain ⟨t, w1, hr⟩ := hr
      exact .inl ⟨_, _, _, _, .draw hm h hr⟩
    · have hsem := r_execOp H (B := B) (ρ := fr.eval) (ρ' := fr'.eval) hf.eval h4
      have hfst := Sem.runT_fst P (execOp fr.eval o) wl #[]
      cases hr : (execOp fr.eval o).runT P wl #[] with
      | mk r es =>
        rw [hr] at hfst
        simp only at hfst
        cases r with
        | ok n w1 =>
          obtain ⟨B1, n', w2, es', k1, k2, _⟩ := hsem.run #[] hw hfst.symm
          cases k2 with
          | value hv => exact .inl ⟨_, _, _, _, .oper hm h1 h2 h3 hr rfl⟩
          | skip => exact .inl ⟨_, _, _, _, .oper hm h1 h2 h3 hr rfl⟩
          | enter f hfs has => exact .inl ⟨_, _, _, _, .oper hm h1 h2 h3 hr rfl⟩
        | halt x w1 =>
          have hmild := hsem.halts hw hfst.symm
          have hop : fr.oper? = some o := by simp [Frame.oper?, h1, h2]
          have hg : stepG P true { frame := fr, callers := l ++ [shut P], status := .running, dying := none } wl = stepG.apply P true fr (l ++ [shut P]) none (execOp fr.eval o) wl := by
            unfold stepG
            simp only [hm]
            unfold stepG.exec
            simp only [h1]
            rw [if_pos (by simp [h2, h3])]
            unfold stepG.oper
            simp only [hop, hf.ft.round]
          cases x with
          | stuck why => exact .inr (.inr ⟨_, _, step_end (by rw [hg]; unfold stepG.apply; simp only [if_true, hr]; rfl)⟩)
          | panic v =>
            refine .inr (.inl ⟨[{ v, recovered := false }], w1, ?_⟩)
            refine step_go (es := seen P fr.fn es) ?_
            rw [hg]
            unfold stepG.apply
            simp only [if_true, hr, hf.ft.kind, GStep.after, Frame.raise, hm]
            simp
          | unsupported u =>
            cases u with
            | initOrder g =>
              refine .inr (.inr ⟨.unsupported (.initOrder g) (fr.pos P), w1, ?_⟩)
              refine step_end (es := seen P fr.fn #[]) ?_
              rw [hg]
              unfold stepG.apply
              simp only [if_true, hr, hf.ft.kind, early, HN.follows, HN.none, GStep.after]
              simp
            | _ => exact .inr (.inr ⟨_, _, step_end (by rw [hg]; unfold stepG.apply; simp only [if_true, hr]; rfl)⟩)
          | _ => exact hmild.elim
    · obtain ⟨o, w1, h⟩ := h (l ++ [shut P]) wl
      exact .inr (.inr ⟨o, w1, step_end h⟩)
  · obtain ⟨fn, hfn⟩ := HB.there _ hf.ft.fn
    obtain ⟨ts, hts⟩ := tmps_of fn.results.toList (HB.res _ hf.ft.fn fn hfn)
    have e := results_tmps hts fr.tmps
    cases l with
    | nil => exact absurd rfl (hend hm)
    | cons x l => exact .inl ⟨_, _, _, _, .ret hm hfn (by rw [e]; rfl)⟩
end
end Go.Proofs.Ytgeoffpcmkofkaa
/- Lone runs that end on every tape end as a tree: whatever is drawn, step by step. -/
namespace Go.Proofs.Ytgeoffpcmkofkaa
open Go

section
variable (G : Nat) (FS : FuncId → Prop) (Sh : Nat → Prop) (P : Program)
/-- A lone state that has a match. -/
def Good (fr : Frame) (l : List Frame) (w : World) : Prop := (fr.mode = .run ∨ fr.mode = .returning) ∧ ∃ B fr' l' w', FR G FS P B fr fr' ∧ FRs G FS P B l l' ∧ WR G FS Sh B w w'
end
section
variable {G : Nat} {FS : FuncId → Prop} {Sh : Nat → Prop} {P : Program} {B : BR}
theorem WR.on {wl w : World} (h : WR G FS Sh B wl w) (T : Nat → Question → Nat) : WR G FS Sh B (on wl T) (on w fun i q => T (wl.drawn + (i - w.drawn)) q) := by
  refine ⟨h.blk, h.fn, h.inj, h.low, h.glob, fun i q => ?_⟩
  show T (wl.drawn + i) q = T (wl.drawn + (w.drawn + i - w.drawn)) q
  rw [Nat.add_sub_cancel_left]
theorem Good.on {fr : Frame} {l : List Frame} {w : World} (h : Good G FS Sh P fr l w) (T : Nat → Question → Nat) : Good G FS Sh P fr l (on w T) := by
  obtain ⟨hm, B, fr', l', w', h1, h2, h3⟩ := h
  exact ⟨hm, B, fr', l', _, h1, h2, h3.on T⟩
theorem Good.step (H : OpenOK G FS P) (HB : BodiesOK G FS P) {fr fr1 : Frame} {l cs1 : List Frame} {w w1 : World} {es : Array Event} (h : Good G FS Sh P fr l w) (hend : fr.mode = .returning → l ≠ []) (hs : Step1 P fr (l ++ [shut P]) w fr1 cs1 w1 es) : ∃ l1, cs1 = l1 ++ [shut P] ∧ Good G FS Sh P fr1 l1 w1 := by
  obtain ⟨hm, B, fr', l', w', h1, h2, h3⟩ := h
  obtain ⟨B1, fr1', l1, l1', w1', es', k⟩ := Step1.sim H HB (base := []) h1 h2 h3 hs hend
  exact ⟨l1, k.cs1, Step1.mode h2 hs, B1, fr1', l1', w1', k.fr, k.frs, k.wr⟩
theorem on_on (w : World) (T T' : Nat → Question → Nat) : on (on w T) T' = on w T' := rfl
theorem Step1.on (H : OpenOK G FS P) (HB : BodiesOK G FS P) {fr fr1 : Frame} {l cs1 : List Frame} {w w1 : World} {es : Array Event} (h : Good G FS Sh P fr l w) (hs : Step1 P fr (l ++ [shut P]) w fr1 cs1 w1 es) :
    w.drawn ≤ w1.drawn ∧ w1.tape = w.tape ∧ ∀ T, (∀ i q, w.drawn ≤ i → i < w1.drawn → T i q = w.tape i q) → ∃ es', Step1 P fr (l ++ [shut P]) (on w T) fr1 cs1 (on w1 T) es' := by
  obtain ⟨hm, B, fr', l', w', hf, hl, hw⟩ := h
  generalize hcs : l ++ [shut P] = cs at hs ⊢
  cases hs with
  | ctl hm hc => exact ⟨Nat.le_refl _, rfl, fun T _ => ⟨_, .ctl hm hc⟩⟩
  | draw hm ht hr =>
    rename_i id ops k t
    have hsem : SemR (G := G) (FS := FS) P EqQ B (choose (.order fr.fn id)) (choose (.order fr.fn id)) := .choose fun n => .pure rfl
    have g := hsem.run_on hw hr
    exact ⟨g.mono, g.same, fun T hT => ⟨_, .draw hm ht (g.run T hT)⟩⟩
  | oper hm ht ho hwant hr ha =>
    rename_i ops i rest k o n es0
    have htame : OpTame G FS P o.op := by
      have := hf.ft.todo (.inRegion ops (i :: rest)) (by rw [ht]; simp)
      refine this o ?_
      have := Array.mem_of_getElem? ho
      simpa using this
    have hsem := r_execOp H (B := B) (ρ := fr.eval) (ρ' := fr'.eval) hf.eval htame
    have hr' : (execOp fr.eval o).run P w = .ok n w1 := by rw [← Sem.runT_fst P _ w #[], hr]
    have g := hsem.run_on hw hr'
    refine ⟨g.mono, g.same, fun T hT => ?_⟩
    have h1 := g.run T hT
    rw [← Sem.runT_fst P _ _ #[]] at h1
    cases hq : (execOp fr.eval o).runT P (Ytgeoffpcmkofkaa.on w T) #[] with
    | mk r es' =>
      rw [hq] at h1
      simp only at h1
      subst h1
      exact ⟨_, .oper hm ht ho hwant hq ha⟩
  | ret hm hfn hr =>
    rename_i fn v
    refine ⟨Nat.le_refl _, rfl, fun T _ => ⟨_, .ret hm hfn ?_⟩⟩
    obtain ⟨ts, hts⟩ := tmps_of fn.results.toList (HB.res _ hf.ft.fn fn hfn)
    have e := results_tmps hts fr.tmps
    rw [e] at hr ⊢
    have hv : resOf (ts.map fun t => fr.tmps.getD t undef) = v := by
      have := congrArg Prod.fst hr
      simp only [pure, Sem.runT] at this
      injection this
    rw [hv]
    rfl
/-- A run of such steps to the end. -/
inductive Reach (P : Program) (Post : Frame → World → Prop) : Frame → List Frame → World → Prop
  | done {fr : Frame} {w : World} : fr.mode = .returning → Post fr w → Reach P Post fr [] w
  | step {fr fr1 : Frame} {l l1 : List Frame} {w w1 : World} {es : Array Event} : (fr.mode = .returning → l ≠ []) → Step1 P fr (l ++ [shut P]) w fr1 (l1 ++ [shut P]) w1 es → Reach P Post fr1 l1 w1 → Reach P Post fr l w
/-- Whatever is drawn. -/
inductive Ends (P : Program) (Post : Frame → World → Prop) : Frame → List Frame → World → Prop
  | done {fr : Frame} {w : World} : fr.mode = .returning → Post fr w → Ends P Post fr [] w
  | step {fr : Frame} {l : List Frame} {w : World} : (fr.mode = .returning → l ≠ []) → (∀ T, ∃ fr1 l1 w1 es, Step1 P fr (l ++ [shut P]) (on w T) fr1 (l1 ++ [shut P]) w1 es) → (∀ T fr1 l1 w1 es, Step1 P fr (l ++ [shut P]) (on w T) fr1 (l1 ++ [shut P]) w1 es → Ends P Post fr1 l1 w1) → Ends P Post fr l w
theorem FRs.bare (HB : BodiesOK G FS P) : ∀ {l l' : List Frame}, FRs G FS P B l l' → ∀ x ∈ l, Bare P x ∧ x.mode = .run
  | _, _, .nil, x, hx => by simp at hx
  | _, _, .cons h1 h2 _ h4, x, hx => by
    rcases List.mem_cons.1 hx with rfl | hx
    · exact ⟨⟨h1.ft.defers, HB.there _ h1.ft.fn⟩, h2⟩
    · exact h4.bare HB x hx
theorem not_behind {v : Value} {w : World} : ∀ (n : Nat) (fr1 : Frame) (w1 : World), runN P n (lone ((shut P).finish v) [] w) ≠ .next (L P fr1 [] w1)
  | 0, fr1, w1, h => by
    simp only [runN, L, lone, Stepped.next.injEq, Machine.mk.injEq] at h
    have := h.2.1
    simp at this
  | n + 1, fr1, w1, h => by
    have : ∃ o, step P (lone ((shut P).finish v) [] w) = .ended o w := by
      refine ⟨.stuck ("no extern row " ++ "fmt's door, shut") (((shut P).finish v).pos P), step_end (es := #[]) ?_⟩
      unfold stepG
      simp only [Frame.finish, shut]
      unfold stepG.exec
      simp only [shut_row]
      rfl
    obtain ⟨o, this⟩ := this
    simp only [runN, this] at h
    cases h
theorem reach_of_run (H : OpenOK G FS P) (HB : BodiesOK G FS P) (HN : NoEarly P) {Post : Frame → World → Prop} {frE : Frame} {wE : World} (hE : frE.mode = .returning) (hP : Post frE wE) : ∀ (n : Nat) {fr : Frame} {l : List Frame} {w : World}, Good G FS Sh P fr l w → runN P n (L P fr l w) = .next (L P frE [] wE) → Reach P Post fr l w
  | 0, fr, l, w, hg, h => by
    simp only [runN, L, lone, Stepped.next.injEq, Machine.mk.injEq] at h
    obtain ⟨h1, h2, _⟩ := h
    simp at h2
    obtain ⟨rfl, rfl⟩ := h2
    subst h1
    exact .done hE hP
  | n + 1, fr, l, w, hg, h => by
    obtain ⟨hm, B, fr', l', w', hf, hl, hw⟩ := id hg
    by_cases hend : fr.mode = .returning → l ≠ []
    · rcases lone_cases H HB HN hf hl hw hm hend with ⟨fr1, cs1, w1, es, hs⟩ | ⟨ch, w1, hs⟩ | ⟨o, w1, hs⟩
      · obtain ⟨l1, rfl, hg1⟩ := hg.step H HB hend hs
        have := step_go (hs.goes (main := true) (st := .running) (off := none) hf.ft)
        simp only [runN, this] at h
        exact .step hend hs (reach_of_run H HB HN hE hP n hg1 h)
      · simp only [runN, hs] at h
        exact absurd h (no_way_back n l { fr with mode := .panicking ch } ch w1 (hl.bare HB) ⟨hf.ft.defers, HB.there _ hf.ft.fn⟩ rfl frE wE hE)
      · simp only [runN, hs] at h
        cases h
    · simp only [Classical.not_imp, Classical.not_not] at hend
      obtain ⟨hr, rfl⟩ := hend
      exfalso
      obtain ⟨fn, hfn⟩ := HB.there _ hf.ft.fn
      obtain ⟨ts, hts⟩ := tmps_of fn.results.toList (HB.res _ hf.ft.fn fn hfn)
      have e := results_tmps hts fr.tmps
      have := step_go (P := P) (step_ret (main := true) (st := .running) (off := none) (c := shut P) (cs := []) (w := w) hr hf.ft.defers hf.ft.kind hfn (by rw [e]; rfl))
      simp only [runN, L, List.nil_append, this] at h
      exact not_behind n frE wE h
end
end Go.Proofs.Ytgeoffpcmkofkaa
/- The tree of a lone run: if on every tape the run ends, every branch ends. -/
namespace Go.Proofs.Ytgeoffpcmkofkaa
open Go

section
variable {G : Nat} {FS : FuncId → Prop} {Sh : Nat → Prop} {P : Program} {B : BR}
theorem Step1.same {fr a a' : Frame} {cs b b' : List Frame} {w c c' : World} {es es' : Array Event} (hf : FT G FS P fr) (h : Step1 P fr cs w a b c es) (h' : Step1 P fr cs w a' b' c' es') : a' = a ∧ b' = b ∧ c' = c := by
  have e := h.goes (main := true) (st := .running) (off := none) hf
  have e' := h'.goes (main := true) (st := .running) (off := none) hf
  rw [e] at e'
  injection e' with e1 e2 _
  injection e1 with e3 e4
  exact ⟨e3.symm, e4.symm, e2.symm⟩
theorem Good.ft {fr : Frame} {l : List Frame} {w : World} (h : Good G FS Sh P fr l w) : FT G FS P fr := by
  obtain ⟨_, _, _, _, _, h1, _⟩ := h
  exact h1.ft
theorem Reach.on (H : OpenOK G FS P) (HB : BodiesOK G FS P) {Post : Frame → World → Prop} (hT : ∀ fr w T, Post fr w → Post fr (on w T)) {fr : Frame} {l : List Frame} {w : World} (h : Reach P Post fr l w) : Good G FS Sh P fr l w → ∀ T, (∀ k q, w.drawn ≤ k → T k q = w.tape k q) → Reach P Post fr l (on w T) := by
  induction h with
  | done hm hp => exact fun _ T _ => .done hm (hT _ _ T hp)
  | @step fr fr1 l l1 w w1 es hend hs _ ih =>
    intro hg T hk
    obtain ⟨h1, h2, h3⟩ := hs.on H HB hg
    obtain ⟨es', hs'⟩ := h3 T fun i q a _ => hk i q a
    obtain ⟨l2, e, hg1⟩ := hg.step H HB hend hs
    have : l1 = l2 := by simpa using e
    subst this
    exact .step hend hs' (ih hg1 T fun k q a => by rw [h2]; exact hk k q (Nat.le_trans h1 a))

structure Cfg where
  fr : Frame
  l : List Frame
  w : World
/-- A state whose every run ends, and which is yet no tree. -/
def Lost (G : Nat) (FS : FuncId → Prop) (Sh : Nat → Prop) (P : Program) (Post : Frame → World → Prop) (s : Cfg) : Prop := Good G FS Sh P s.fr s.l s.w ∧ (∀ T, Reach P Post s.fr s.l (on s.w T)) ∧ ¬Ends P Post s.fr s.l s.w
/-- One step on, on a tape. -/
structure Link (P : Program) (s : Cfg) (T : Nat → Question → Nat) (s1 : Cfg) : Prop where
  far : s.fr.mode = .returning → s.l ≠ []
  step : ∃ es, Step1 P s.fr (s.l ++ [shut P]) (on s.w T) s1.fr (s1.l ++ [shut P]) s1.w es
theorem Lost.next (H : OpenOK G FS P) (HB : BodiesOK G FS P) {Post : Frame → World → Prop} (hT : ∀ fr w T, Post fr w → Post fr (on w T)) {s : Cfg} (h : Lost G FS Sh P Post s) : ∃ T s1, Link P s T s1 ∧ Lost G FS Sh P Post s1 := by
  obtain ⟨hg, hr, hn⟩ := h
  have far : s.fr.mode = .returning → s.l ≠ [] := by
    intro hm hl
    apply hn
    have := hr s.w.tape
    have e : on s.w s.w.tape = s.w := rfl
    rw [e] at this
    rw [hl] at this ⊢
    cases this with
    | done h1 h2 => exact .done h1 h2
    | step h1 => exact absurd rfl (h1 hm)
  have some : ∀ T, ∃ fr1 l1 w1 es, Step1 P s.fr (s.l ++ [shut P]) (on s.w T) fr1 (l1 ++ [shut P]) w1 es := by
    intro T
    have := hr T
    generalize hl : s.l = l at this far ⊢
    cases this with
    | done h1 h2 => exact absurd rfl (far h1)
    | step h1 h2 h3 => exact ⟨_, _, _, _, h2⟩
  have : ∃ T fr1 l1 w1 es, Step1 P s.fr (s.l ++ [shut P]) (on s.w T) fr1 (l1 ++ [shut P]) w1 es ∧ ¬Ends P Post fr1 l1 w1 := by
    apply Classical.byContradiction
    intro hno
    apply hn
    refine .step far some fun T fr1 l1 w1 es hs => ?_
    apply Classical.byContradiction
    intro hne
    exact hno ⟨T, fr1, l1, w1, es, hs, hne⟩
  obtain ⟨T, fr1, l1, w1, es, hs, hne⟩ := this
  have hgT := hg.on T
  obtain ⟨l2, e, hg1⟩ := hgT.step H HB far hs
  have : l1 = l2 := by simpa using e
  subst this
  refine ⟨T, ⟨fr1, l1, w1⟩, ⟨far, es, hs⟩, hg1, fun T' => ?_, hne⟩
  obtain ⟨h1, h2, h3⟩ := hs.on H HB hgT
  obtain ⟨es', hs'⟩ := h3 (fun k q => if k < w1.drawn then T k q else T' k q) fun i q _ b => by simp only [b, if_true]; rfl
  rw [on_on] at hs'
  have hr' := hr (fun k q => if k < w1.drawn then T k q else T' k q)
  have : Reach P Post fr1 l1 (on w1 fun k q => if k < w1.drawn then T k q else T' k q) := by
    generalize hl : s.l = l at hr' far hs'
    cases hr' with
    | done k1 k2 => exact absurd rfl (far k1)
    | @step _ fr2 _ l2 _ w2 es2 k1 k2 k3 =>
      obtain ⟨e1, e2, e3⟩ := Step1.same hg.ft hs' k2
      have e2 : l2 = l1 := by simpa using e2
      subst e1 e2 e3
      exact k3
  have := this.on H HB hT (hg1.on _) T' fun k q a => by
    show T' k q = if k < w1.drawn then T k q else T' k q
    rw [if_neg (by have : w1.drawn ≤ k := a; omega)]
  exact this
theorem ends_of_reach (H : OpenOK G FS P) (HB : BodiesOK G FS P) {Post : Frame → World → Prop} (hT : ∀ fr w T, Post fr w → Post fr (on w T)) {fr : Frame} {l : List Frame} {w : World} (hg : Good G FS Sh P fr l w) (hr : ∀ T, Reach P Post fr l (on w T)) : Ends P Post fr l w := by
  apply Classical.byContradiction
  intro hn
  have s0 : { s : Cfg // Lost G FS Sh P Post s } := ⟨⟨fr, l, w⟩, hg, hr, hn⟩
  have nx : ∀ s : { s : Cfg // Lost G FS Sh P Post s }, ∃ x : (Nat → Question → Nat) × { s : Cfg // Lost G FS Sh P Post s }, Link P s.1 x.1 x.2.1 := fun s => by
    obtain ⟨T, s1, h1, h2⟩ := s.2.next H HB hT
    exact ⟨(T, ⟨s1, h2⟩), h1⟩
  let f : Nat → { s : Cfg // Lost G FS Sh P Post s } := fun n => Nat.rec s0 (fun _ s => (Classical.choose (nx s)).2) n
  let tp : Nat → Nat → Question → Nat := fun n => (Classical.choose (nx (f n))).1
  have lk : ∀ n, Link P (f n).1 (tp n) (f (n + 1)).1 := fun n => Classical.choose_spec (nx (f n))
  have mono1 : ∀ n, (f n).1.w.drawn ≤ (f (n + 1)).1.w.drawn := by
    intro n
    obtain ⟨es, hs⟩ := (lk n).step
    exact (hs.on H HB ((f n).2.1.on _)).1
  have mono : ∀ d n, (f n).1.w.drawn ≤ (f (n + d)).1.w.drawn := by
    intro d
    induction d with
    | zero => exact fun n => Nat.le_refl _
    | succ d ih => exact fun n => Nat.le_trans (ih n) (mono1 (n + d))
  let at_ : Nat → Nat → Prop := fun k i => (f i).1.w.drawn ≤ k ∧ k < (f (i + 1)).1.w.drawn
  have uniq : ∀ k i j, at_ k i → at_ k j → i = j := by
    intro k i j hi hj
    rcases Nat.lt_trichotomy i j with h | h | h
    · have := mono (j - (i + 1)) (i + 1)
      rw [show i + 1 + (j - (i + 1)) = j by omega] at this
      have h1 := hi.2
      have h2 := hj.1
      omega
    · exact h
    · have := mono (i - (j + 1)) (j + 1)
      rw [show j + 1 + (i - (j + 1)) = i by omega] at this
      have h1 := hj.2
      have h2 := hi.1
      omega
  let T : Nat → Question → Nat := fun k q => open Classical in if h : ∃ i, at_ k i then tp (Classical.choose h) k q else 0
  have agree : ∀ i k q, at_ k i → T k q = tp i k q := by
    intro i k q h
    have h' : ∃ i, at_ k i := ⟨i, h⟩
    have e : T k q = tp (Classical.choose h') k q := dif_pos h'
    rw [e, uniq k _ i (Classical.choose_spec h') h]
  have lkT : ∀ n, ∃ es, Step1 P (f n).1.fr ((f n).1.l ++ [shut P]) (on (f n).1.w T) (f (n + 1)).1.fr ((f (n + 1)).1.l ++ [shut P]) (on (f (n + 1)).1.w T) es := by
    intro n
    obtain ⟨es, hs⟩ := (lk n).step
    exact (hs.on H HB ((f n).2.1.on _)).2.2 T fun k q a b => agree n k q ⟨a, b⟩
  have never : ∀ {fr : Frame} {l : List Frame} {w : World}, Reach P Post fr l w → ∀ n, fr = (f n).1.fr → l = (f n).1.l → w = on (f n).1.w T → False := by
    intro fr l w h
    induction h with
    | done h1 h2 => intro n e1 e2 e3; exact (lk n).far (by rw [← e1]; exact h1) e2.symm
    | @step fr fr1 l l1 w w1 es hend hs _ ih =>
      intro n e1 e2 e3
      subst e1 e2 e3
      obtain ⟨es', hs'⟩ := lkT n
      obtain ⟨k1, k2, k3⟩ := Step1.same (f n).2.1.ft hs' hs
      exact ih (n + 1) k1 (by simpa using k2) k3
  exact never (s0.2.2.1 T) 0 rfl rfl rfl
end
end Go.Proofs.Ytgeoffpcmkofkaa
/- A contract that holds on every tape gives the tree. -/
namespace Go.Proofs.Ytgeoffpcmkofkaa
open Go

section
variable {G : Nat} {FS : FuncId → Prop} {Sh : Nat → Prop} {P : Program} {B : BR}
/-- What is left at the end: the frame's results are a value of which Q speaks. -/
def PostV (P : Program) (f : FuncId) (Q : Value → World → Prop) (fr : Frame) (w : World) : Prop := fr.fn = f ∧ ∃ fn v, P.funcs[f]? = some fn ∧ (results fn fr.tmps).run P w = .ok v w ∧ Q v w
theorem postV_on (HB : BodiesOK G FS P) {f : FuncId} (hf : FS f) {Q : Value → World → Prop} (hQ : ∀ v w T, Q v w → Q v (on w T)) (fr : Frame) (w : World) (T : Nat → Question → Nat) (h : PostV P f Q fr w) : PostV P f Q fr (on w T) := by
  obtain ⟨h1, fn, v, h2, h3, h4⟩ := h
  refine ⟨h1, fn, v, h2, ?_, hQ _ _ T h4⟩
  obtain ⟨ts, hts⟩ := tmps_of fn.results.toList (HB.res f hf fn h2)
  have e := results_tmps hts fr.tmps
  rw [e] at h3 ⊢
  simp only [pure, Sem.run] at h3 ⊢
  injection h3 with h3 _
  rw [h3]
theorem good_enter (HB : BodiesOK G FS P) {f : FuncId} (hf : FS f) {vas vas' : Array Value} (ha : VRs G FS B vas.toList vas'.toList) {wl w : World} (hw : WR G FS Sh B wl w) : Good G FS Sh P (Frame.enter P f vas .normal) [] wl := ⟨.inl rfl, B, _, [], w, FR.enter HB hf ha, .nil, hw⟩
theorem ends_of_calls (H : OpenOK G FS P) (HB : BodiesOK G FS P) (HN : NoEarly P) {f : FuncId} (hf : FS f) {vas vas' : Array Value} (ha : VRs G FS B vas.toList vas'.toList) {wl w : World} (hw : WR G FS Sh B wl w) {Q : Value → World → Prop} (hQ : ∀ v w T, Q v w → Q v (on w T))
    (h : ∀ T, Calls P f vas (on wl T) fun e w' => ∃ v, e = .returned v ∧ Q v w') : Ends P (PostV P f Q) (Frame.enter P f vas .normal) [] wl := by
  have hg := good_enter HB hf ha hw
  refine ends_of_reach H HB (postV_on HB hf hQ) hg fun T => ?_
  obtain ⟨e, w', fr, ⟨v, rfl, hv⟩, hc, hfn, hl⟩ := h T [shut P]
  obtain ⟨n, hn⟩ : Steps P (lone (Frame.enter P f vas .normal) [shut P] (on wl T)) (lone fr [shut P] w') := hc
  obtain ⟨hm, _, _, fn, hfn', hr⟩ := hl
  exact reach_of_run H HB HN hm (Post := PostV P f Q) ⟨hfn, fn, v, by rw [← hfn]; exact hfn', hr, hv⟩ n (hg.on T) hn
end
end Go.Proofs.Ytgeoffpcmkofkaa
/- Checks for tame code. -/
namespace Go.Proofs.Ytgeoffpcmkofkaa
open Go

def atomB : Value → Bool
  | .bool _ | .int _ _ | .float _ _ | .string _ | .pointer none | .slice none _ _ | .nilFunc | .nilIface | .map none | .chan none => true
  | _ => false
def flatB : Value → Bool
  | .agg cs => cs.toList.all atomB
  | .tuple cs => cs.toList.all atomB
  | v => atomB v
section
variable {G : Nat} {FS : FuncId → Prop} {B : BR}
theorem atom_sound {v : Value} (h : atomB v = true) : VR G FS B v v := by
  unfold atomB at h
  split at h
  · exact .bool _
  · exact .int _ _
  · exact .float _ _
  · exact .string _
  · exact .ptrNil
  · exact .sliceNil _ _
  · exact .nilFunc
  · exact .nilIface
  · exact .mapNil
  · exact .chanNil
  · cases h
theorem atoms_sound : ∀ {l : List Value}, l.all atomB = true → VRs G FS B l l
  | [], _ => .nil
  | v :: l, h => by
    simp only [List.all_cons, Bool.and_eq_true] at h
    exact .cons (atom_sound h.1) (atoms_sound h.2)
theorem flat_sound {v : Value} (h : flatB v = true) : VR G FS B v v := by
  unfold flatB at h
  split at h
  · exact .agg (atoms_sound h)
  · exact .tuple (atoms_sound h)
  · exact atom_sound h
end

section
variable (P : Program) (fs : FuncId → Bool)
def operB : Operand → Bool
  | .tmp _ => true
  | .const v => flatB v
  | .global _ => false
  | .func f => fs f
def optB : Option Operand → Bool
  | none => true
  | some x => operB fs x
def ztB (t : TypeId) : Bool := match P.info? t with
  | none => true
  | some i => match i.zero with
    | none => true
    | some v => flatB v
def szB (t : TypeId) : Bool := match P.underlying t with
  | some (.slice e) => ztB P e
  | _ => true
def numB (t : TypeId) : Bool := match P.underlying t with
  | some (.int _) => true
  | some (.float _) => true
  | _ => false
def plainB (t : TypeId) : Bool := match P.info? t with
  | none => true
  | some i => match i.desc with
    | .named n _ => n != "sync.copyChecker"
    | _ => true
def eqSB (t : TypeId) : Bool := match P.underlying t with
  | some (.int _) => plainB P t
  | some (.float _) => true
  | _ => false
def eqTB (t : TypeId) : Bool := match P.underlying t with
  | some (.int _) => plainB P t
  | some (.float _) => true
  | some (.slice _) => true
  | some (.struct fs) => match fs with
    | ⟨[f, g]⟩ => eqSB P f.type && eqSB P g.type
    | _ => false
  | _ => false
def eqOp : BinOp → Bool
  | .eql | .neq => true
  | _ => false
def fieldB (s : TypeId) (f : Nat) : Bool := match P.underlying s with
  | some (.struct fields) => match fields[f]? with
    | some fl => match P.info? fl.type with
      | some i => i.size != 0
      | none => false
    | none => true
  | _ => true
def argB (ts : Array TypeId) : Bool := match ts[0]? with
  | some t => szB P t
  | none => true
def calleeB (c : Call) : Bool := match c.callee with
  | .value f => operB fs f
  | .builtin .append => argB P c.argTypes
  | .builtin .clear => argB P c.argTypes
  | .builtin .cap => true
  | .builtin .len => true
  | _ => false
def opB : Op → Bool
  | .move x | .assign x | .box _ x | .load _ x | .nilCheck x | .unOp _ _ x | .makeInterface _ x | .extract x _ | .panic x => operB fs x
  | .pick c a b => operB fs c && operB fs a && operB fs b
  | .alloc e => ztB P e
  | .buildSlice t _ ps => szB P t && ps.toList.all fun p => operB fs p.2
  | .makeSlice t a x => szB P t && operB fs a && operB fs x
  | .store _ a x | .indexAddr _ a x | .index _ a x => operB fs a && operB fs x
  | .binOp op t x y _ => operB fs x && operB fs y && (!eqOp op || (eqTB P t && !P.eqGuardType P.depth t))
  | .convert s d x => operB fs x && numB P s && numB P d
  | .slice t x lo hi mx => operB fs x && optB fs lo && optB fs hi && mx.isNone && (match P.underlying t with | some (.slice _) => true | _ => false)
  | .fieldAddr s x f => operB fs x && fieldB P s f
  | .call c => c.args.toList.all (operB fs) && calleeB P fs c
  | _ => false
def codeB : Code → Bool
  | .region _ ops _ => ops.toList.all fun o => opB P fs o.op
  | .seq a b => codeB a && codeB b
  | .cond c a b => operB fs c && codeB a && codeB b
  | .block _ b | .loop b | .scope b => codeB b
  | .rangeFunc .. => false
  | _ => true
end

section
variable {G : Nat} {P : Program} {fs : FuncId → Bool}
abbrev FSof (fs : FuncId → Bool) : FuncId → Prop := fun f => fs f = true
theorem oper_sound {x : Operand} (h : operB fs x = true) : OperOK G (FSof fs) x := by
  cases x with
  | tmp t => trivial
  | const v => exact fun B => flat_sound h
  | global g => cases h
  | func f => exact h
theorem opt_sound {x : Option Operand} (h : optB fs x = true) : OptOK G (FSof fs) x := by
  intro y hy
  subst hy
  exact oper_sound h
theorem zt_sound {t : TypeId} (h : ztB P t = true) : ZT G (FSof fs) P t := by
  intro B i v hi hv
  simp only [ztB, hi, hv] at h
  exact flat_sound h
theorem sz_sound {t : TypeId} (h : szB P t = true) : SZ G (FSof fs) P t := by
  intro e he
  simp only [szB, he] at h
  exact zt_sound h
theorem eqS_sound {t : TypeId} (h : eqSB P t = true) : EqS P t := by
  unfold eqSB at h
  split at h
  · rename_i k hk
    refine .int k hk fun i u hi hd => ?_
    simp [plainB, hi, hd] at h
  · rename_i k hk; exact .float k hk
  · cases h
theorem num_sound {t : TypeId} (h : numB P t = true) : NumT P t := by
  unfold numB at h
  split at h
  · rename_i k hk; exact ⟨_, hk, .inl ⟨_, rfl⟩⟩
  · rename_i k hk; exact ⟨_, hk, .inr ⟨_, rfl⟩⟩
  · cases h
theorem eqT_sound {t : TypeId} (h : eqTB P t = true) : EqT P t := by
  unfold eqTB at h
  split at h
  · rename_i k hk
    refine .int k hk fun i u hi hd => ?_
    simp [plainB, hi, hd] at h
  · rename_i k hk; exact .float k hk
  · rename_i k hk; exact .slice k hk
  · rename_i fs' hk
    split at h
    · rename_i f g
      simp only [Bool.and_eq_true] at h
      exact .two f g hk (eqS_sound h.1) (eqS_sound h.2)
    · cases h
  · cases h
theorem field_sound {s : TypeId} {f : Nat} (h : fieldB P s f = true) : ∀ fields fl, P.underlying s = some (.struct fields) → fields[f]? = some fl → ∃ i, P.info? fl.type = some i ∧ i.size ≠ 0 := by
  intro fields fl h1 h2
  simp only [fieldB, h1, h2] at h
  split at h
  · rename_i i hi; exact ⟨i, hi, by simpa using h⟩
  · cases h
theorem arg_sound {ts : Array TypeId} (h : argB P ts = true) : ∀ t, ts[0]? = some t → SZ G (FSof fs) P t := by
  intro t ht
  simp only [argB, ht] at h
  exact sz_sound h
theorem op_sound {o : Op} (h : opB P fs o = true) : OpTame G (FSof fs) P o := by
  cases o <;> simp only [opB, Bool.and_eq_true, Bool.false_eq_true] at h <;> try exact oper_sound h
  case pick => exact ⟨oper_sound h.1.1, oper_sound h.1.2, oper_sound h.2⟩
  case alloc => exact zt_sound h
  case buildSlice => exact ⟨sz_sound h.1, fun p hp => oper_sound (List.all_eq_true.1 h.2 p hp)⟩
  case makeSlice => exact ⟨sz_sound h.1.1, oper_sound h.1.2, oper_sound h.2⟩
  case store => exact ⟨oper_sound h.1, oper_sound h.2⟩
  case indexAddr => exact ⟨oper_sound h.1, oper_sound h.2⟩
  case index => exact ⟨oper_sound h.1, oper_sound h.2⟩
  case binOp op t x y u =>
    refine ⟨oper_sound h.1.1, oper_sound h.1.2, ?_⟩
    have h2 := h.2
    by_cases he : eqOp op = true
    case neg =>
      refine .inl ⟨fun e => he (by rw [e]; rfl), fun e => he (by rw [e]; rfl)⟩
    rw [he] at h2
    cases op <;> first | (cases he; done) | skip
    all_goals
      simp only [Bool.not_true, Bool.false_or, Bool.and_eq_true, Bool.not_eq_true'] at h2
    · exact .inr ⟨.inl rfl, eqT_sound h2.1, h2.2⟩
    · exact .inr ⟨.inr rfl, eqT_sound h2.1, h2.2⟩
  case convert => exact ⟨oper_sound h.1.1, num_sound h.1.2, num_sound h.2⟩
  case slice t x lo hi mx =>
    obtain ⟨⟨⟨⟨h1, h2⟩, h3⟩, h4⟩, h5⟩ := h
    refine ⟨oper_sound h1, opt_sound h2, opt_sound h3, by simpa using h4, ?_⟩
    split at h5
    · rename_i e he; exact ⟨e, he⟩
    · cases h5
  case fieldAddr => exact ⟨oper_sound h.1, field_sound h.2⟩
  case call c =>
    refine ⟨fun o ho => oper_sound (List.all_eq_true.1 h.1 o ho), ?_⟩
    have h2 := h.2
    unfold calleeB at h2
    split at h2
    · rename_i f hf; rw [hf]; exact oper_sound h2
    · rename_i hf; rw [hf]; exact .inl ⟨rfl, arg_sound h2⟩
    · rename_i hf; rw [hf]; exact .inr (.inr (.inr ⟨rfl, arg_sound h2⟩))
    · rename_i hf; rw [hf]; exact .inr (.inl rfl)
    · rename_i hf; rw [hf]; exact .inr (.inr (.inl rfl))
    · cases h2
theorem code_sound : ∀ {c : Code}, codeB P fs c = true → CodeT G (FSof fs) P c
  | .region _ ops _, h => fun o ho => op_sound (List.all_eq_true.1 (by simpa only [codeB] using h) o ho)
  | .seq a b, h => by
    simp only [codeB, Bool.and_eq_true] at h
    exact ⟨code_sound h.1, code_sound h.2⟩
  | .cond c a b, h => by
    simp only [codeB, Bool.and_eq_true] at h
    exact ⟨oper_sound h.1.1, code_sound h.1.2, code_sound h.2⟩
  | .block _ b, h => code_sound (c := b) (by simpa only [codeB] using h)
  | .loop b, h => code_sound (c := b) (by simpa only [codeB] using h)
  | .scope b, h => code_sound (c := b) (by simpa only [codeB] using h)
  | .rangeFunc .., h => by simp [codeB] at h
  | .skip, _ | .exit _, _ | .label _, _ | .goto _, _ | .ret, _ | .refuse _, _ => trivial
end
end Go.Proofs.Ytgeoffpcmkofkaa
/- In company: a goroutine that others leave alone runs to its end, whatever they do elsewhere. -/
namespace Go.Proofs.Ytgeoffpcmkofkaa
open Go

/-- What others do: blocks that are the goroutine's own (O), and those that it reads (S), stay. -/
structure Keeps (O S : Nat → Prop) (w w2 : World) : Prop where
  size : w.heap.size ≤ w2.heap.size
  block : ∀ r, O r ∨ S r → w2.heap[r]? = w.heap[r]?
  os : w2.os = w.os
  output : w2.output = w.output
/-- Its own blocks after a step: those before, and what it made. -/
def own (O : Nat → Prop) (w2 w1 : World) : Nat → Prop := fun r => O r ∨ (w2.heap.size ≤ r ∧ r < w1.heap.size)
/-- What a step of it does. -/
structure DidO (O : Nat → Prop) (w2 w1 : World) : Prop where
  os : w1.os = w2.os
  tape : w1.tape = w2.tape
  output : w1.output = w2.output
  size : w2.heap.size ≤ w1.heap.size
  kept : ∀ r, r < w2.heap.size → ¬O r → w1.heap[r]? = w2.heap[r]?
/-- What it lists. -/
def EvO (O S : Nat → Prop) (e : Event) : Prop :=
  (∃ a : Addr, e = ⟨.cell a, false, false⟩ ∧ (O a.block ∨ S a.block)) ∨ (∃ a : Addr, e = ⟨.cell a, true, false⟩ ∧ O a.block) ∨ (∃ m, e = ⟨.mark m, false, true⟩ ∧ (m = .noRoom ∨ ∃ f, m = .extern f)) ∨ (∃ r, e = ⟨.obj r, false, false⟩ ∧ O r)
inductive Runs (P : Program) (S : Nat → Prop) (base : List Frame) (Fin : (Nat → Prop) → Frame → World → Prop) : (Nat → Prop) → Frame → List Frame → World → Prop
  | done {O : Nat → Prop} {fr : Frame} {w : World} : fr.mode = .returning → (∀ w2, Keeps O S w w2 → Fin O fr w2) → Runs P S base Fin O fr base w
  | step {O : Nat → Prop} {fr : Frame} {cs : List Frame} {w : World} :
      (∀ w2, Keeps O S w w2 → ∃ fr1 cs1 w1 es, Step1 P fr cs w2 fr1 cs1 w1 es ∧ (∀ main st off, stepG P main { frame := fr, callers := cs, status := st, dying := none, offers := off } w2 = .go { frame := fr1, callers := cs1, status := .running, dying := none } w1 es) ∧ DidO O w2 w1 ∧ ∀ e ∈ es, EvO (own O w2 w1) S e) →
      (∀ w2 fr1 cs1 w1 es, Keeps O S w w2 → Step1 P fr cs w2 fr1 cs1 w1 es → Runs P S base Fin (own O w2 w1) fr1 cs1 w1) → Runs P S base Fin O fr cs w

section
variable {G : Nat} {FS : FuncId → Prop} {Sh : Nat → Prop} {P : Program} {B : BR}
/-- Matched, whatever the lone tape. -/
def WRo (G : Nat) (FS : FuncId → Prop) (Sh : Nat → Prop) (B : BR) (wl w : World) : Prop := ∃ T, WR G FS Sh B (on wl T) w
/-- Each block of the match is the goroutine's own or one that it reads. -/
def Has (Sh : Nat → Prop) (B : BR) (O S : Nat → Prop) : Prop := ∀ r r', B r r' → (Sh r → S r') ∧ (¬Sh r → O r')
theorem WRo.keeps {wl w w2 : World} {O S : Nat → Prop} (h : WRo G FS Sh B wl w) (hO : Has Sh B O S) (k : Keeps O S w w2) : ∃ T, WR G FS Sh B (on wl T) w2 := by
  obtain ⟨T, h⟩ := h
  refine ⟨fun i q => w2.tape (w2.drawn + (i - wl.drawn)) q, fun r r' hb => ?_, h.fn, h.inj, h.low, h.glob, fun i q => ?_⟩
  · obtain ⟨o, o', h1, h2, h3⟩ := h.blk r r' hb
    refine ⟨o, o', h1, ?_, h3⟩
    rw [k.block r' ?_]
    · exact h2
    · by_cases hs : Sh r
      · exact .inr ((hO r r' hb).1 hs)
      · exact .inl ((hO r r' hb).2 hs)
  · show w2.tape (w2.drawn + (wl.drawn + i - wl.drawn)) q = w2.tape (w2.drawn + i) q
    rw [Nat.add_sub_cancel_left]
theorem EvO.of {B1 : BR} {w2 w1 : World} {O S : Nat → Prop} (hO : Has Sh B O S) (hd : Did Sh B B1 w2 w1) {e : Event} (h : EvOK Sh B1 e) : EvO (own O w2 w1) S e := by
  have key : ∀ r r', B1 r r' → (Sh r → S r') ∧ (¬Sh r → own O w2 w1 r') := by
    intro r r' hb
    rcases hd.new r r' hb with q | ⟨q1, q2, q3⟩
    · exact ⟨(hO r r' q).1, fun hs => .inl ((hO r r' q).2 hs)⟩
    · exact ⟨fun hs => absurd hs q3, fun _ => .inr ⟨q1, q2⟩⟩
  rcases h with ⟨a, e1, r, hb⟩ | ⟨a, e1, r, hb, hs⟩ | h | ⟨r', e1, r, hb, hs⟩
  · refine .inl ⟨a, e1, ?_⟩
    by_cases hs : Sh r
    · exact .inr ((key _ _ hb).1 hs)
    · exact .inl ((key _ _ hb).2 hs)
  · exact .inr (.inl ⟨a, e1, (key _ _ hb).2 hs⟩)
  · exact .inr (.inr (.inl h))
  · exact .inr (.inr (.inr ⟨r', e1, (key _ _ hb).2 hs⟩))
theorem DidO.of {B1 : BR} {w2 w1 : World} {O S : Nat → Prop} (hO : Has Sh B O S) (hd : Did Sh B B1 w2 w1) : DidO O w2 w1 := by
  refine ⟨hd.os, hd.tape, hd.output, hd.size, fun r hr hn => hd.kept r hr fun q hb => ?_⟩
  by_cases hs : Sh q
  · exact hs
  · exact absurd ((hO q r hb).2 hs) hn
/-- What is there at the end. -/
def FinV (G : Nat) (FS : FuncId → Prop) (Sh : Nat → Prop) (P : Program) (S : Nat → Prop) (Post : Frame → World → Prop) (O : Nat → Prop) (fr' : Frame) (w : World) : Prop := ∃ B fr wl, Has Sh B O S ∧ FR G FS P B fr fr' ∧ WR G FS Sh B wl w ∧ Post fr wl
theorem runs_of_ends (H : OpenOK G FS P) (HB : BodiesOK G FS P) {S : Nat → Prop} {base : List Frame} {Post : Frame → World → Prop} (hT : ∀ fr w T, Post fr w → Post fr (on w T)) {fr : Frame} {l : List Frame} {wl : World} (he : Ends P Post fr l wl) :
    ∀ {B : BR} {fr' : Frame} {l' : List Frame} {w : World} {O : Nat → Prop}, FR G FS P B fr fr' → FRs G FS P B l l' → WRo G FS Sh B wl w → Has Sh B O S → Runs P S base (FinV G FS Sh P S Post) O fr' (l' ++ base) w := by
  induction he with
  | @done fr wl hm hp =>
    intro B fr' l' w O hf hl hw hO
    cases hl
    refine .done (by rw [hf.mode]; exact hm) fun w2 hk => ?_
    obtain ⟨T, hw2⟩ := hw.keeps hO hk
    exact ⟨B, fr, _, hO, hf, hw2, hT _ _ _ hp⟩
  | @step fr l wl hend hsome hall ih =>
    intro B fr' l' w O hf hl hw hO
    have key : ∀ w2, Keeps O S w w2 → ∃ fr1 l1 wl1, Ends P Post fr1 l1 wl1 ∧ (∃ T es, Step1 P fr (l ++ [shut P]) (on wl T) fr1 (l1 ++ [shut P]) wl1 es) ∧ ∃ B1 fr1' l1' w1 es', Step1 P fr' (l' ++ base) w2 fr1' (l1' ++ base) w1 es' ∧ FR G FS P B1 fr1 fr1' ∧ FRs G FS P B1 l1 l1' ∧ WR G FS Sh B1 wl1 w1 ∧ Did Sh B B1 w2 w1 ∧ ∀ e ∈ es', EvOK Sh B1 e := by
      intro w2 hk
      obtain ⟨T, hw2⟩ := hw.keeps hO hk
      obtain ⟨fr1, l1, wl1, es, hs⟩ := hsome T
      obtain ⟨B1, fr1', l2, l1', w1, es', m⟩ := Step1.sim H HB (base := base) hf hl hw2 hs hend
      have e : l1 = l2 := by simpa using m.cs1
      subst e
      exact ⟨fr1, l1, wl1, hall T fr1 l1 wl1 es hs, ⟨T, es, hs⟩, B1, fr1', l1', w1, es', m.step, m.fr, m.frs, m.wr, m.did, m.ev⟩
    have ft' : FT G FS P fr' := by
      have := hf.ft
      refine ⟨by rw [hf.fn]; exact this.fn, by rw [hf.todo]; exact this.todo, ?_, ?_, ?_⟩
      · rw [hf.eq]; exact this.defers
      · rw [hf.eq]; exact this.kind
      · rw [hf.eq]; exact this.round
    refine .step (fun w2 hk => ?_) fun w2 fr1' cs1' w1 es hk hs => ?_
    · obtain ⟨fr1, l1, wl1, _, _, B1, fr1', l1', w1, es', k1, _, _, _, k5, k6⟩ := key w2 hk
      exact ⟨fr1', l1' ++ base, w1, es', k1, fun main st off => k1.goes ft', DidO.of hO k5, fun e he => EvO.of hO k5 (k6 e he)⟩
    · obtain ⟨fr1, l1, wl1, _, ⟨T, es0, hs0⟩, B1, fr2', l1', w2', es', k1, k2, k3, k4, k5, k6⟩ := key w2 hk
      obtain ⟨e1, e2, e3⟩ := Step1.same ft' k1 hs
      subst e1 e2 e3
      refine ih T fr1 l1 wl1 es0 hs0 k2 k3 ⟨wl1.tape, k4⟩ fun r r' hb => ?_
      rcases k5.new r r' hb with q | ⟨q1, q2, q3⟩
      · exact ⟨(hO r r' q).1, fun hs => .inl ((hO r r' q).2 hs)⟩
      · exact ⟨fun hs => absurd hs q3, fun _ => .inr ⟨q1, q2⟩⟩
end
end Go.Proofs.Ytgeoffpcmkofkaa
/- Several at once: at each step one of them gets smaller. -/
namespace Go.Proofs.Ytgeoffpcmkofkaa
open Go

/-- One of a list is replaced by a smaller one. -/
inductive One {α : Type} (R : α → α → Prop) : List α → List α → Prop
  | here {x y : α} {l : List α} : R x y → One R (x :: l) (y :: l)
  | there {x : α} {l m : List α} : One R l m → One R (x :: l) (x :: m)
theorem acc_cons {α : Type} {R : α → α → Prop} {x : α} (hx : Acc R x) : ∀ {l : List α}, Acc (One R) l → Acc (One R) (x :: l) := by
  induction hx with
  | intro x hx ihx =>
    intro l hl
    induction hl with
    | intro l hl ihl =>
      refine .intro _ fun m hm => ?_
      cases hm with
      | here h => exact ihx _ h (.intro l hl)
      | there h => exact ihl _ h
theorem acc_one {α : Type} {R : α → α → Prop} : ∀ {l : List α}, (∀ x ∈ l, Acc R x) → Acc (One R) l
  | [], _ => .intro _ fun m hm => by cases hm
  | x :: l, h => acc_cons (h x (by simp)) (acc_one fun y hy => h y (by simp [hy]))

/-- Where a goroutine stands: its own blocks, its frames, the world at its last step. -/
structure Seat where
  own : Nat → Prop
  fr : Frame
  cs : List Frame
  w : World
/-- One step further, behind what others did. -/
def Later (P : Program) (S : Nat → Prop) (x1 x : Seat) : Prop := ∃ w2 es, Keeps x.own S x.w w2 ∧ Step1 P x.fr x.cs w2 x1.fr x1.cs x1.w es ∧ x1.own = own x.own w2 x1.w
section
variable {P : Program} {S : Nat → Prop} {base : List Frame} {Fin : (Nat → Prop) → Frame → World → Prop}
/-- Not yet at the end. -/
def Under (P : Program) (S : Nat → Prop) (base : List Frame) (Fin : (Nat → Prop) → Frame → World → Prop) (x : Seat) : Prop := Runs P S base Fin x.own x.fr x.cs x.w
/-- Steps that are taken on the way, none at the end. -/
def Way (P : Program) (S : Nat → Prop) (base : List Frame) (x1 x : Seat) : Prop := ¬(x.fr.mode = .returning ∧ x.cs = base) ∧ Later P S x1 x
theorem Under.acc {x : Seat} (h : Under P S base Fin x) : Acc (Way P S base) x := by
  obtain ⟨O, fr, cs, w⟩ := x
  unfold Under at h
  simp only at h
  induction h with
  | done hm _ => exact .intro _ fun y hy => absurd ⟨hm, rfl⟩ hy.1
  | step _ _ ih =>
    refine .intro _ fun y hy => ?_
    obtain ⟨_, w2, es, h1, h2, h3⟩ := hy
    obtain ⟨O1, fr1, cs1, w1⟩ := y
    simp only at h1 h2 h3
    subst h3
    exact ih w2 fr1 cs1 w1 es h1 h2
/-- What others do elsewhere does not matter. -/
theorem Runs.keeps {O : Nat → Prop} {fr : Frame} {cs : List Frame} {w w' : World} (h : Runs P S base Fin O fr cs w) (hk : Keeps O S w w') : Runs P S base Fin O fr cs w' := by
  have tr : ∀ {w2}, Keeps O S w' w2 → Keeps O S w w2 := fun k => ⟨Nat.le_trans hk.size k.size, fun r hr => (k.block r hr).trans (hk.block r hr), k.os.trans hk.os, k.output.trans hk.output⟩
  cases h with
  | done hm hf => exact .done hm fun w2 k => hf w2 (tr k)
  | step h1 h2 => exact .step (fun w2 k => h1 w2 (tr k)) fun w2 fr1 cs1 w1 es k hs => h2 w2 fr1 cs1 w1 es (tr k) hs
end
end Go.Proofs.Ytgeoffpcmkofkaa
/- A call in company: its return. -/
namespace Go.Proofs.Ytgeoffpcmkofkaa
open Go

section
variable {G : Nat} {FS : FuncId → Prop} {Sh : Nat → Prop} {P : Program} {S : Nat → Prop}
/-- At the end of the call: it hands its value back, and the value and the memory are those of which the lone contract speaks, up to the numbers of blocks. -/
theorem fin_ret (HB : BodiesOK G FS P) {f : FuncId} (hf : FS f) {Q : Value → World → Prop} {O : Nat → Prop} {fr' : Frame} {w : World} (h : FinV G FS Sh P S (PostV P f Q) O fr' w) (hm : fr'.mode = .returning) :
    ∃ B v v' wl, Has Sh B O S ∧ WR G FS Sh B wl w ∧ VR G FS B v v' ∧ Q v wl ∧ ∀ main st off c rest, stepG P main { frame := fr', callers := c :: rest, status := st, dying := none, offers := off } w = .go { frame := c.finish v', callers := rest, status := .running, dying := none } w #[] := by
  obtain ⟨B, fr, wl, h1, h2, h3, h4, fn, v, h5, h6, h7⟩ := h
  obtain ⟨ts, hts⟩ := tmps_of fn.results.toList (HB.res f hf fn h5)
  have e := results_tmps hts fr.tmps
  have e' := results_tmps hts fr'.tmps
  have hv : v = resOf (ts.map fun t => fr.tmps.getD t undef) := by
    rw [e] at h6
    simp only [pure, Sem.run] at h6
    injection h6 with h6 _
    exact h6.symm
  subst hv
  refine ⟨B, _, resOf (ts.map fun t => fr'.tmps.getD t undef), wl, h1, h3, resOf_rel h2.tmps ts, h7, fun main st off c rest => ?_⟩
  refine step_ret hm ?_ ?_ (by rw [h2.fn, h4]; exact h5) (by rw [e']; rfl)
  · rw [h2.eq]; exact h2.ft.defers
  · rw [h2.eq]; exact h2.ft.kind
/-- A call that has a lone contract on every tape, in company. -/
theorem runs_of_calls (H : OpenOK G FS P) (HB : BodiesOK G FS P) (HN : NoEarly P) {f : FuncId} (hf : FS f) {B : BR} {xs xs' : Array Value} (ha : VRs G FS B xs.toList xs'.toList) {wl w : World} (hw : WR G FS Sh B wl w) {O : Nat → Prop} (hO : Has Sh B O S) {Q : Value → World → Prop} (hQ : ∀ v w T, Q v w → Q v (on w T))
    (h : ∀ T, Calls P f xs (on wl T) fun e w' => ∃ v, e = .returned v ∧ Q v w') (base : List Frame) : Runs P S base (FinV G FS Sh P S (PostV P f Q)) O (Frame.enter P f xs' .normal) base w :=
  runs_of_ends H HB (postV_on HB hf hQ) (ends_of_calls H HB HN hf ha hw hQ h) (l' := []) (FR.enter HB hf ha) .nil ⟨wl.tape, hw⟩ hO

/-! ### The lone world of a goroutine that reads one row of memory -/
/-- The same world, one row of which may not be written. -/
def iced (w : World) (r0 : Nat) (c : Array Value) (e : TypeId) : World := { w with heap := w.heap.setIfInBounds r0 (.cells c e (0, c.size)) }
theorem iced_at {w : World} {r0 : Nat} {c : Array Value} {e : TypeId} (h : r0 < w.heap.size) : (iced w r0 c e).heap[r0]? = some (.cells c e (0, c.size)) := by
  simp [iced, h]
theorem iced_cell {w : World} {r0 : Nat} {c : Array Value} {e : TypeId} {fr : Nat × Nat} (h : w.heap[r0]? = some (.cells c e fr)) (a : Addr) : (iced w r0 c e).cell? a = w.cell? a := by
  have hlt : r0 < w.heap.size := (Array.getElem?_eq_some_iff.1 h).1
  by_cases ha : a.block = r0
  · subst ha
    simp [World.cell?, iced_at hlt, h]
  · have : (iced w r0 c e).heap[a.block]? = w.heap[a.block]? := by
      simp [iced, Ne.symm ha]
    simp [World.cell?, this]
theorem iced_WR {w : World} {r0 : Nat} {c : Array Value} {e : TypeId} (h : w.heap[r0]? = some (.cells c e (0, 0))) (hG : G ≤ w.heap.size) (hc : ∀ B, VRs G FS B c.toList c.toList) : WR G FS (· = r0) (fun r r' => r = r0 ∧ r' = r0) (iced w r0 c e) w := by
  have hlt : r0 < w.heap.size := (Array.getElem?_eq_some_iff.1 h).1
  refine ⟨fun r r' hb => ?_, fun r r' q' h1 h2 => h1.2.trans h2.2.symm, fun r q r' h1 h2 => h1.1.trans h2.1.symm, fun r hr => ?_, ?_, fun i q => rfl⟩
  · obtain ⟨rfl, rfl⟩ := hb
    exact ⟨_, _, iced_at hlt, h, .cells (hc _) (fun _ => rfl) fun hn => absurd rfl hn⟩
  · subst hr; simpa [iced] using hlt
  · simpa [iced] using hG
end
end Go.Proofs.Ytgeoffpcmkofkaa
