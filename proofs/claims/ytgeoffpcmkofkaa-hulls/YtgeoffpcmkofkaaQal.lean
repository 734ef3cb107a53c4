/- Km; Kn; Ko; Kp; Kq; Kr: texts laid into one. -/
import Derived.Test.YtgeoffpcmkofkaaQak
/- The machine takes these steps, and no others. -/
namespace Go.Proofs.Ytgeoffpcmkofkaa
open Go

section
variable {G : Nat} {FS : FuncId → Prop} {Sh : Nat → Prop} {P : Program} {main : Bool} {cs : List Frame} {w : World} {st : GoStatus} {off : Option (Array CommCase × CommShape)}
theorem step_ctl {fr fr1 : Frame} (hm : fr.mode = .run) (hr : fr.roundOf = none) (h : ctl fr = some fr1) : stepG P main { frame := fr, callers := cs, status := st, dying := none, offers := off } w = .go { frame := fr1, callers := cs, status := .running, dying := none } w #[] := by
  unfold ctl at h
  unfold stepG
  simp only [hm]
  unfold stepG.exec
  split at h
  all_goals rename_i ht
  all_goals simp only [ht]
  all_goals (first | (injection h with h; subst h; rfl) | (injection h with h; subst h; simp only [hr]; done) | cases h | skip)
  · simp [hr, ht]
  · simp [hr, ht]
  · split at h
    · rename_i he; injection h with h; subst h; simp [he]
    · rename_i he; injection h with h; subst h; simp [he]
    · cases h
  · rename_i id k
    cases he : exitTo id k with
    | none => rw [he] at h; cases h
    | some k' => rw [he] at h; injection h with h; subst h; rfl
  · rename_i id k
    cases he : gotoIn id k with
    | none => rw [he] at h; cases h
    | some k' => rw [he] at h; injection h with h; subst h; rfl
  · split at h
    · cases h
    · rename_i hn
      rw [if_neg hn]
      injection h with h
      subst h
      rfl
theorem step_draw {fr : Frame} {w1 : World} {id : Nat} {ops : Array Oper} {k : List Item} {t : Nat} (hm : fr.mode = .run) (ht : fr.todo = .code (.region id ops true) :: k) (h : (choose (.order fr.fn id)).run P w = .ok t w1) : stepG P main { frame := fr, callers := cs, status := st, dying := none, offers := off } w = .go { frame := { fr with todo := .inRegion ops (Region.schedule (P.follows .mixedOrders) ops t) :: k }, callers := cs, status := .running, dying := none } w1 #[] := by
  unfold stepG
  simp only [hm]
  unfold stepG.exec
  simp only [ht, h]
  simp [hm]
theorem step_oper {fr fr1 : Frame} {cs1 : List Frame} {w1 : World} {ops : Array Oper} {i : Nat} {rest : List Nat} {k : List Item} {o : Oper} {n : Next} {es : Array Event} (hm : fr.mode = .run) (hr : fr.roundOf = none) (hk : fr.kind = .normal) (ht : fr.todo = .inRegion ops (i :: rest) :: k) (ho : ops[i]? = some o) (hw : Region.wanted o (yielded ops fr.tmps) = true) (h : (execOp fr.eval o).runT P w #[] = (.ok n w1, es)) (ha : after P fr cs n = some (fr1, cs1)) : stepG P main { frame := fr, callers := cs, status := st, dying := none, offers := off } w = .go { frame := fr1, callers := cs1, status := .running, dying := none } w1 (seen P fr.fn es) := by
  unfold stepG
  simp only [hm]
  unfold stepG.exec
  simp only [ht]
  rw [if_pos (by simp [ho, hw])]
  unfold stepG.oper
  have hop : fr.oper? = some o := by simp [Frame.oper?, ht, ho]
  simp only [hop, hr]
  unfold stepG.apply
  simp only [if_true, h, hk, ht]
  cases n <;> simp only [after, reduceCtorEq] at ha <;> (injection ha with ha; injection ha with h1 h2; subst h1 h2; simp [GStep.after])
theorem step_ret {fr c : Frame} {fn : Func} {v : Value} (hm : fr.mode = .returning) (hd : fr.defers = []) (hk : fr.kind = .normal) (hf : P.funcs[fr.fn]? = some fn) (h : (results fn fr.tmps).runT P w #[] = (.ok v w, #[])) : stepG P main { frame := fr, callers := c :: cs, status := st, dying := none, offers := off } w = .go { frame := c.finish v, callers := cs, status := .running, dying := none } w #[] := by
  unfold stepG
  simp only [hm]
  unfold unwind
  simp only [hd, hm, hf, h]
  simp [doReturn, hk, GStep.after, seen]
theorem Step1.goes {fr fr1 : Frame} {cs1 : List Frame} {w1 : World} {es : Array Event} (hf : FT G FS P fr) (h : Step1 P fr cs w fr1 cs1 w1 es) : stepG P main { frame := fr, callers := cs, status := st, dying := none, offers := off } w = .go { frame := fr1, callers := cs1, status := .running, dying := none } w1 es := by
  cases h with
  | ctl h1 h2 => exact step_ctl h1 hf.round h2
  | draw h1 h2 h3 => exact step_draw h1 h2 h3
  | oper h1 h2 h3 h4 h5 h6 => exact step_oper h1 hf.round hf.kind h2 h3 h4 h5 h6
  | ret h1 h2 h3 => exact step_ret h1 hf.defers hf.kind h2 h3
/-- Where a running frame stands. -/
theorem stands {fr : Frame} (hf : FT G FS P fr) (hm : fr.mode = .run) :
    (∃ fr1, ctl fr = some fr1) ∨ (∃ id ops k, fr.todo = .code (.region id ops true) :: k ∧ ∀ o ∈ ops.toList, OpTame G FS P o.op) ∨
    (∃ ops i rest k o, fr.todo = .inRegion ops (i :: rest) :: k ∧ ops[i]? = some o ∧ Region.wanted o (yielded ops fr.tmps) = true ∧ OpTame G FS P o.op) ∨
    (∀ cs w, ∃ o w1, stepG P main { frame := fr, callers := cs, status := .running, dying := none } w = .ended o w1 #[]) := by
  have hx : ∀ cs w, stepG P main { frame := fr, callers := cs, status := .running, dying := none } w = stepG.exec P main true fr cs none w := by
    intro cs w
    unfold stepG
    simp only [hm]
  have hi := hf.todo
  have hr := hf.round
  cases ht : fr.todo with
  | nil => exact .inl ⟨_, by simp only [ctl, ht]; rfl⟩
  | cons it k =>
    have h0 := hi it (by rw [ht]; simp)
    cases it with
    | inBlock id => exact .inl ⟨_, by simp only [ctl, ht]; rfl⟩
    | inLoop b => exact .inl ⟨_, by simp only [ctl, ht]; rfl⟩
    | inScope b => exact .inl ⟨_, by simp only [ctl, ht]; rfl⟩
    | inRangeFunc l => exact h0.elim
    | endRangeFunc l => exact h0.elim
    | beginRound => exact h0.elim
    | call => exact h0.elim
    | extern => exact h0.elim
    | inRegion ops todo =>
      cases todo with
      | nil => exact .inl ⟨_, by simp only [ctl, ht]; rfl⟩
      | cons i rest =>
        by_cases hw : ((ops[i]?).map (Region.wanted · (yielded ops fr.tmps))).getD false = true
        · cases ho : ops[i]? with
          | none => rw [ho] at hw; simp at hw
          | some o =>
            rw [ho] at hw
            refine .inr (.inr (.inl ⟨ops, i, rest, k, o, rfl, ho, by simpa using hw, h0 o ?_⟩))
            have := Array.mem_of_getElem? ho
            simpa using this
        · exact .inl ⟨_, by simp only [ctl, ht, if_neg hw]; rfl⟩
    | code c =>
      cases c with
      | skip => exact .inl ⟨_, by simp only [ctl, ht]; rfl⟩
      | ret => exact .inl ⟨_, by simp only [ctl, ht]; rfl⟩
      | label l => exact .inl ⟨_, by simp only [ctl, ht]; rfl⟩
      | seq a b => exact .inl ⟨_, by simp only [ctl, ht]; rfl⟩
      | block id b => exact .inl ⟨_, by simp only [ctl, ht]; rfl⟩
      | loop b => exact .inl ⟨_, by simp only [ctl, ht]; rfl⟩
      | scope b => exact .inl ⟨_, by simp only [ctl, ht]; rfl⟩
      | rangeFunc => exact h0.elim
      | refuse why =>
        refine .inr (.inr (.inr fun cs w => ?_))
        rw [hx]
        unfold stepG.exec
        simp only [ht]
        exact ⟨_, _, rfl⟩
      | region id ops draw =>
        cases draw with
        | false => exact .inl ⟨_, by simp only [ctl, ht]; rfl⟩
        | true => exact .inr (.inl ⟨id, ops, k, rfl, h0⟩)
      | cond c a b =>
        by_cases hb : ∃ b, fr.eval c = .bool b
        · obtain ⟨v, hv⟩ := hb
          cases v <;> exact .inl ⟨_, by simp only [ctl, ht, hv]; rfl⟩
        · refine .inr (.inr (.inr fun cs w => ?_))
          rw [hx]
          unfold stepG.exec
          simp only [ht]
          split
          · rename_i v hv; exact absurd ⟨v, hv⟩ hb
          · exact ⟨_, _, rfl⟩
      | exit id =>
        cases he : exitTo id k with
        | some k' => exact .inl ⟨_, by simp only [ctl, ht, he]; rfl⟩
        | none =>
          refine .inr (.inr (.inr fun cs w => ?_))
          rw [hx]
          unfold stepG.exec
          simp only [ht, he, hr]
          exact ⟨_, _, rfl⟩
      | goto l =>
        cases he : gotoIn l k with
        | some k' => exact .inl ⟨_, by simp only [ctl, ht, he]; rfl⟩
        | none =>
          refine .inr (.inr (.inr fun cs w => ?_))
          rw [hx]
          unfold stepG.exec
          simp only [ht, he, hr]
          exact ⟨_, _, rfl⟩
end
end Go.Proofs.Ytgeoffpcmkofkaa
/- A step of the lone run is matched by a step of the other. -/
namespace Go.Proofs.Ytgeoffpcmkofkaa
open Go

section
variable {G : Nat} {FS : FuncId → Prop} {Sh : Nat → Prop} {P : Program} {B : BR}
theorem exitTo_sub {id : Nat} : ∀ {k k' : List Item}, exitTo id k = some k' → ∀ i ∈ k', i ∈ k
  | [], k', h => by simp [exitTo] at h
  | it :: k, k', h => by
    intro i hi
    cases it with
    | inBlock id' =>
      simp only [exitTo] at h
      split at h
      · injection h with h; subst h; exact List.mem_cons_of_mem _ hi
      · exact List.mem_cons_of_mem _ (exitTo_sub h i hi)
    | _ => exact List.mem_cons_of_mem _ (exitTo_sub (by simpa only [exitTo] using h) i hi)
theorem findLabel_tame {l : Nat} : ∀ {c r : Code}, findLabel c l = some r → CodeT G FS P c → CodeT G FS P r
  | .seq a b, r, h, hc => by
    simp only [findLabel] at h
    split at h
    · rename_i r' hr
      injection h with h
      subst h
      exact ⟨findLabel_tame hr hc.1, hc.2⟩
    · exact findLabel_tame h hc.2
  | .label l', r, h, _ => by
    simp only [findLabel] at h
    split at h
    · injection h with h; subst h; trivial
    · cases h
  | .skip, _, h, _ | .region .., _, h, _ | .cond .., _, h, _ | .block .., _, h, _ | .loop .., _, h, _ | .rangeFunc .., _, h, _ | .exit .., _, h, _ | .scope .., _, h, _ | .goto .., _, h, _ | .ret, _, h, _ | .refuse .., _, h, _ => by simp [findLabel] at h
theorem gotoIn_tame {l : Nat} : ∀ {k k' : List Item}, gotoIn l k = some k' → (∀ i ∈ k, ItemT G FS P i) → ∀ i ∈ k', ItemT G FS P i
  | [], k', h, _ => by simp [gotoIn] at h
  | it :: k, k', h, hk => by
    have hk' : ∀ i ∈ k, ItemT G FS P i := fun i hi => hk i (List.mem_cons_of_mem _ hi)
    cases it with
    | inScope b =>
      simp only [gotoIn] at h
      split at h
      · rename_i r hr
        injection h with h
        subst h
        intro i hi
        have hb : CodeT G FS P b := hk (.inScope b) (by simp)
        rcases List.mem_cons.1 hi with rfl | hi
        · exact findLabel_tame hr hb
        · exact hk i hi
      · exact gotoIn_tame h hk'
    | _ => exact gotoIn_tame (by simpa only [gotoIn] using h) hk'
theorem VR.undef : VR G FS B undef undef := .tuple .nil
theorem VRs.getD {a a' : Array Value} (h : VRs G FS B a.toList a'.toList) (t : Nat) : VR G FS B (a.getD t undef) (a'.getD t undef) := by
  cases hv : a[t]? with
  | none =>
    have h' : a'[t]? = Option.none := by
      have := h.none (i := t) (by simpa using hv)
      simpa using this
    simp only [Array.getD_eq_getD_getElem?, hv, h', Option.getD_none]
    exact VR.undef
  | some v =>
    obtain ⟨v', h1, h2⟩ := VR.get h hv
    simp only [Array.getD_eq_getD_getElem?, hv, h1, Option.getD_some]
    exact h2
theorem FR.eval {fr fr' : Frame} (h : FR G FS P B fr fr') (x : Operand) (hx : OperOK G FS x) : VR G FS B (fr.eval x) (fr'.eval x) := by
  cases x with
  | tmp t => exact h.tmps.getD t
  | const v => exact hx B
  | global g => exact hx.elim
  | func f => exact .func f hx
theorem FR.yielded {fr fr' : Frame} (h : FR G FS P B fr fr') (ops : Array Oper) : yielded ops fr'.tmps = yielded ops fr.tmps := by
  funext j
  unfold Go.yielded
  cases hd : (ops[j]?).bind (·.dst) with
  | none => rfl
  | some d =>
    simp only [Option.bind_some]
    cases hv : fr.tmps[d]? with
    | none =>
      have h' : fr'.tmps[d]? = none := by
        have := h.tmps.none (i := d) (by simpa using hv)
        simpa using this
      rw [h']
    | some v =>
      obtain ⟨v', h1, h2⟩ := VR.get h.tmps hv
      rw [h1]
      cases h2 <;> rfl
theorem FR.mono {B' : BR} (hB : Sub B B') {fr fr' : Frame} (h : FR G FS P B fr fr') : FR G FS P B' fr fr' := ⟨h.ft, h.tmps.mono hB, h.eq⟩
theorem FRs.mono {B' : BR} (hB : Sub B B') : ∀ {l l' : List Frame}, FRs G FS P B l l' → FRs G FS P B' l l'
  | _, _, .nil => .nil
  | _, _, .cons h1 h2 h3 h4 => .cons (h1.mono hB) h2 h3 (h4.mono hB)
/-- Frames that go on with another list of things to do. -/
theorem FR.to {fr fr' : Frame} (h : FR G FS P B fr fr') {k : List Item} (hk : ∀ i ∈ k, ItemT G FS P i) : FR G FS P B { fr with todo := k } { fr' with todo := k } := by
  refine ⟨⟨h.ft.fn, hk, h.ft.defers, h.ft.kind, h.ft.round⟩, h.tmps, ?_⟩
  have := h.eq
  rw [this]
theorem FR.leaves {fr fr' : Frame} (h : FR G FS P B fr fr') : FR G FS P B { fr with mode := .returning } { fr' with mode := .returning } := by
  refine ⟨⟨h.ft.fn, h.ft.todo, h.ft.defers, h.ft.kind, h.ft.round⟩, h.tmps, ?_⟩
  have := h.eq
  rw [this]
theorem FR.todo {fr fr' : Frame} (h : FR G FS P B fr fr') : fr'.todo = fr.todo := by rw [h.eq]
theorem FR.fn {fr fr' : Frame} (h : FR G FS P B fr fr') : fr'.fn = fr.fn := by rw [h.eq]
theorem FR.mode {fr fr' : Frame} (h : FR G FS P B fr fr') : fr'.mode = fr.mode := by rw [h.eq]
theorem FR.finish {fr fr' : Frame} (h : FR G FS P B fr fr') {ops : Array Oper} {i : Nat} {rest : List Nat} {k : List Item} (ht : fr.todo = .inRegion ops (i :: rest) :: k) {v v' : Value} (hv : VR G FS B v v') : FR G FS P B (fr.finish v) (fr'.finish v') := by
  have ht' : fr'.todo = .inRegion ops (i :: rest) :: k := by rw [h.todo, ht]
  have hk : ∀ it ∈ (.inRegion ops rest :: k : List Item), ItemT G FS P it := by
    intro it hi
    rcases List.mem_cons.1 hi with rfl | hi
    · exact h.ft.todo (.inRegion ops (i :: rest)) (by rw [ht]; simp)
    · exact h.ft.todo it (by rw [ht]; exact List.mem_cons_of_mem _ hi)
  unfold Frame.finish
  rw [ht, ht']
  simp only
  cases hd : (ops[i]?).bind (·.dst) with
  | none => exact h.to hk
  | some d =>
    refine ⟨⟨h.ft.fn, hk, h.ft.defers, h.ft.kind, h.ft.round⟩, ?_, ?_⟩
    · simp only [Array.toList_setIfInBounds]
      exact h.tmps.set d hv
    · have := h.eq
      rw [this]
theorem FR.enter (HB : BodiesOK G FS P) {f : FuncId} (hf : FS f) {vas vas' : Array Value} (ha : VRs G FS B vas.toList vas'.toList) : FR G FS P B (Frame.enter P f vas .normal) (Frame.enter P f vas' .normal) := by
  refine ⟨⟨hf, fun i hi => ?_, rfl, rfl, rfl⟩, ?_, ?_⟩
  · simp only [Frame.enter, List.mem_singleton] at hi
    subst hi
    cases hfn : P.funcs[f]? with
    | none => simp [ItemT, CodeT]
    | some fn =>
      cases hb : fn.body with
      | none => simp [hb, ItemT, CodeT]
      | some c =>
        simp only [Option.bind_some, hb, Option.getD_some]
        exact HB.body f hf fn hfn c hb
  · simp only [Frame.enter, Array.toList_append, Array.toList_replicate, ha.size]
    exact ha.append (VRs.replicate VR.undef _)
  · rfl
theorem sim_ctl {fr fr' fr1 : Frame} (h : FR G FS P B fr fr') (hc : ctl fr = some fr1) : ∃ fr1', ctl fr' = some fr1' ∧ FR G FS P B fr1 fr1' := by
  have ht' := h.todo
  have hi := h.ft.todo
  unfold ctl at hc
  split at hc
  all_goals (first | (cases hc; done) | skip)
  all_goals (rename_i ht; unfold ctl; rw [ht', ht]; simp only)
  all_goals (rw [ht] at hi)
  all_goals (first | (injection hc with hc; subst hc) | skip)
  · refine ⟨_, rfl, ?_⟩
    have hl := h.leaves
    simp only [ht', ht] at hl ⊢
    exact hl
  · refine ⟨_, rfl, ?_⟩
    have hl := h.leaves
    simp only [ht', ht] at hl ⊢
    exact hl
  · exact ⟨_, rfl, h.to fun i k => hi i (List.mem_cons_of_mem _ k)⟩
  · exact ⟨_, rfl, h.to fun i k => hi i (List.mem_cons_of_mem _ k)⟩
  · exact ⟨_, rfl, h.to fun i k => hi i (List.mem_cons_of_mem _ k)⟩
  · exact ⟨_, rfl, h.to fun i k => hi i (List.mem_cons_of_mem _ k)⟩
  · rename_i a b k
    refine ⟨_, rfl, h.to fun i hk => ?_⟩
    have h0 : CodeT G FS P a ∧ CodeT G FS P b := hi (.code (.seq a b)) (by simp)
    rcases List.mem_cons.1 hk with rfl | hk
    · exact h0.1
    · rcases List.mem_cons.1 hk with rfl | hk
      · exact h0.2
      · exact hi i (List.mem_cons_of_mem _ hk)
  · rename_i c a b k
    have h0 : OperOK G FS c ∧ CodeT G FS P a ∧ CodeT G FS P b := hi (.code (.cond c a b)) (by simp)
    have hv := h.eval c h0.1
    split at hc
    · rename_i he
      rw [he] at hv
      injection hc with hc
      subst hc
      generalize hz : fr'.eval c = z at hv
      cases hv
      refine ⟨_, rfl, h.to fun i hk => ?_⟩
      rcases List.mem_cons.1 hk with rfl | hk
      · exact h0.2.1
      · exact hi i (List.mem_cons_of_mem _ hk)
    · rename_i he
      rw [he] at hv
      injection hc with hc
      subst hc
      generalize hz : fr'.eval c = z at hv
      cases hv
      refine ⟨_, rfl, h.to fun i hk => ?_⟩
      rcases List.mem_cons.1 hk with rfl | hk
      · exact h0.2.2
      · exact hi i (List.mem_cons_of_mem _ hk)
    · cases hc
  · rename_i id b k
    refine ⟨_, rfl, h.to fun i hk => ?_⟩
    have h0 : CodeT G FS P b := hi (.code (.block id b)) (by simp)
    rcases List.mem_cons.1 hk with rfl | hk
    · exact h0
    · rcases List.mem_cons.1 hk with rfl | hk
      · trivial
      · exact hi i (List.mem_cons_of_mem _ hk)
  · rename_i b k
    refine ⟨_, rfl, h.to fun i hk => ?_⟩
    have h0 : CodeT G FS P b := hi (.code (.loop b)) (by simp)
    rcases List.mem_cons.1 hk with rfl | hk
    · exact h0
    · rcases List.mem_cons.1 hk with rfl | hk
      · exact h0
      · exact hi i (List.mem_cons_of_mem _ hk)
  · rename_i b k
    refine ⟨_, rfl, h.to fun i hk => ?_⟩
    have h0 : CodeT G FS P b := hi (.inLoop b) (by simp)
    rcases List.mem_cons.1 hk with rfl | hk
    · exact h0
    · rcases List.mem_cons.1 hk with rfl | hk
      · exact h0
      · exact hi i (List.mem_cons_of_mem _ hk)
  · rename_i b k
    refine ⟨_, rfl, h.to fun i hk => ?_⟩
    have h0 : CodeT G FS P b := hi (.code (.scope b)) (by simp)
    rcases List.mem_cons.1 hk with rfl | hk
    · exact h0
    · rcases List.mem_cons.1 hk with rfl | hk
      · exact h0
      · exact hi i (List.mem_cons_of_mem _ hk)
  · rename_i id k
    cases he : exitTo id k with
    | none => rw [he] at hc; cases hc
    | some k' =>
      rw [he] at hc
      injection hc with hc
      subst hc
      exact ⟨_, rfl, h.to fun i hk => hi i (List.mem_cons_of_mem _ (exitTo_sub he i hk))⟩
  · rename_i id k
    cases he : gotoIn id k with
    | none => rw [he] at hc; cases hc
    | some k' =>
      rw [he] at hc
      injection hc with hc
      subst hc
      exact ⟨_, rfl, h.to fun i hk => gotoIn_tame he (fun i k => hi i (List.mem_cons_of_mem _ k)) i hk⟩
  · rename_i id ops k
    refine ⟨_, rfl, h.to fun i hk => ?_⟩
    rcases List.mem_cons.1 hk with rfl | hk
    · exact hi (.code (.region id ops false)) (by simp)
    · exact hi i (List.mem_cons_of_mem _ hk)
  · exact ⟨_, rfl, h.to fun i k => hi i (List.mem_cons_of_mem _ k)⟩
  · rename_i ops i rest k
    rw [h.yielded ops]
    split at hc
    · cases hc
    · rename_i hn
      rw [if_neg hn]
      injection hc with hc
      subst hc
      exact ⟨_, rfl, h.finish ht VR.undef⟩
theorem tmps_of : ∀ (l : List ResultVar), (∀ r ∈ l, ∃ t, r = .tmp t) → ∃ ts : List Nat, l = ts.map ResultVar.tmp
  | [], _ => ⟨[], rfl⟩
  | r :: l, h => by
    obtain ⟨t, rfl⟩ := h r (by simp)
    obtain ⟨ts, rfl⟩ := tmps_of l fun r hr => h r (by simp [hr])
    exact ⟨t :: ts, rfl⟩
def resOf (l : List Value) : Value := if h : l.toArray.size = 1 then l.toArray[0] else .tuple l.toArray
theorem mapM_tmps (tmps : Array Value) (ev : ResultVar → Sem Value) (hev : ∀ t, ev (.tmp t) = pure (tmps.getD t undef)) : ∀ (ts : List Nat), (ts.map ResultVar.tmp).mapM ev = (pure (ts.map fun t => tmps.getD t undef) : Sem (List Value))
  | [] => rfl
  | t :: ts => by
    rw [List.map_cons, List.mapM_cons, hev, mapM_tmps tmps ev hev ts]
    rfl
theorem results_tmps {fn : Func} {ts : List Nat} (h : fn.results.toList = ts.map ResultVar.tmp) (tmps : Array Value) : results fn tmps = pure (resOf (ts.map fun t => tmps.getD t undef)) := by
  unfold results
  rw [Array.mapM_eq_mapM_toList, h, mapM_tmps tmps _ (fun t => rfl) ts]
  rfl
theorem resOf_rel {a a' : Array Value} (h : VRs G FS B a.toList a'.toList) (ts : List Nat) : VR G FS B (resOf (ts.map fun t => a.getD t undef)) (resOf (ts.map fun t => a'.getD t undef)) := by
  have hl : ∀ ts : List Nat, VRs G FS B (ts.map fun t => a.getD t undef) (ts.map fun t => a'.getD t undef) := by
    intro ts
    induction ts with
    | nil => exact .nil
    | cons t ts ih => exact .cons (h.getD t) ih
  cases ts with
  | nil => exact .tuple .nil
  | cons t ts =>
    cases ts with
    | nil => exact h.getD t
    | cons u us =>
      have e : ∀ b : Array Value, resOf ((t :: u :: us).map fun t => b.getD t undef) = .tuple ((t :: u :: us).map fun t => b.getD t undef).toArray := by
        intro b
        unfold resOf
        rw [dif_neg (by simp)]
      rw [e, e]
      exact .tuple (hl _)

/-- The simulation: what a lone step comes to, the other's step comes to. -/
structure Match (G : Nat) (FS : FuncId → Prop) (Sh : Nat → Prop) (P : Program) (B : BR) (c : List Frame) (base : List Frame) (fr' : Frame) (cs' : List Frame) (w : World) (fr1 : Frame) (cs1 : List Frame) (wl1 : World) (B1 : BR) (fr1' : Frame) (l1 l1' : List Frame) (w1 : World) (es : Array Event) : Prop where
  cs1 : cs1 = l1 ++ c
  step : Step1 P fr' cs' w fr1' (l1' ++ base) w1 es
  fr : FR G FS P B1 fr1 fr1'
  frs : FRs G FS P B1 l1 l1'
  wr : WR G FS Sh B1 wl1 w1
  did : Did Sh B B1 w w1
  ev : ∀ e ∈ es, EvOK Sh B1 e
theorem seen_mem {fn : FuncId} {es : Array Event} {e : Event} (he : e ∈ seen P fn es) : e ∈ es := by
  unfold seen at he
  have key : ∀ (l : List Event) (q : Bool) (k : Array Event) (e : Event), e ∈ (l.foldl (fun (x : Bool × Array Event) e => match e.loc with | .mark (.extern f) => ((P.funcs[f]?).any (·.norace), x.2) | _ => (x.1, if x.1 && !e.sync then x.2 else x.2.push e)) (q, k)).2 → e ∈ k ∨ e ∈ l := by
    intro l
    induction l with
    | nil => intro q k e he; exact .inl he
    | cons a l ih =>
      intro q k e he
      simp only [List.foldl_cons] at he
      rcases ih _ _ e he with h | h
      · revert h
        split
        · intro h; exact .inl h
        · split
          · intro h; exact .inl h
          · intro h
            rcases Array.mem_push.1 h with h | h
            · exact .inl h
            · exact .inr (by simp [h])
      · exact .inr (List.mem_cons_of_mem _ h)
  simp only at he
  rw [← Array.foldl_toList] at he
  rcases key es.toList _ _ e he with h | h
  · simp at h
  · simpa using h
theorem Step1.sim (H : OpenOK G FS P) (HB : BodiesOK G FS P) {c base : List Frame} {fr fr' fr1 : Frame} {l l' cs1 : List Frame} {wl w wl1 : World} {es : Array Event} (hf : FR G FS P B fr fr') (hl : FRs G FS P B l l') (hw : WR G FS Sh B wl w) (hs : Step1 P fr (l ++ c) wl fr1 cs1 wl1 es) (hend : fr.mode = .returning → l ≠ []) :
    ∃ B1 fr1' l1 l1' w1 es', Match G FS Sh P B c base fr' (l' ++ base) w fr1 cs1 wl1 B1 fr1' l1 l1' w1 es' := by
  generalize hcs : l ++ c = cs at hs
  cases hs with
  | ctl hm hc =>
    obtain ⟨fr1', h1, h2⟩ := sim_ctl hf hc
    exact ⟨B, fr1', l, l', w, #[], hcs.symm, .ctl (by rw [hf.mode, hm]) h1, h2, hl, hw, Did.refl _ _, by simp⟩
  | draw hm ht hr =>
    rename_i id ops k t
    have hk : ∀ i ∈ (.inRegion ops (Region.schedule (P.follows .mixedOrders) ops t) :: k : List Item), ItemT G FS P i := by
      have hi := hf.ft.todo
      rw [ht] at hi
      intro i hk
      rcases List.mem_cons.1 hk with rfl | hk
      · exact hi (.code (.region id ops true)) (by simp)
      · exact hi i (List.mem_cons_of_mem _ hk)
    have hsem : SemR (G := G) (FS := FS) P EqQ B (choose (.order fr.fn id)) (choose (.order fr.fn id)) := .choose fun n => .pure rfl
    obtain ⟨B1, t', w1, es', h1, h2, h3, h4, h5⟩ := hsem.run #[] hw hr
    obtain rfl : t' = t := h2
    have h1' : (choose (.order fr'.fn id)).run P w = .ok t' w1 := by
      rw [hf.fn, ← Sem.runT_fst P _ w #[], h1]
    exact ⟨B1, _, l, l', w1, #[], hcs.symm, .draw (by rw [hf.mode, hm]) (by rw [hf.todo, ht]) h1', (hf.mono h4.sub).to hk, hl.mono h4.sub, h3, h4, by simp⟩
  | oper hm ht ho hwant hr ha =>
    rename_i ops i rest k o n es0
    have htame : OpTame G FS P o.op := by
      have := hf.ft.todo (.inRegion ops (i :: rest)) (by rw [ht]; simp)
      refine this o ?_
      have := Array.mem_of_getElem? ho
      simpa using this
    have hsem := r_execOp H (B := B) (ρ := fr.eval) (ρ' := fr'.eval) hf.eval htame
    have hr' : (execOp fr.eval o).run P wl = .ok n wl1 := by rw [← Sem.runT_fst P _ wl #[], hr]
    obtain ⟨B1, n', w1, es', h1, h2, h3, h4, h5⟩ := hsem.run #[] hw hr'
    have hev : ∀ e ∈ seen P fr'.fn es', EvOK Sh B1 e := by
      intro e he
      rcases h5 e (seen_mem he) with h | h
      · simp at h
      · exact h
    have hwant' : Region.wanted o (yielded ops fr'.tmps) = true := by rw [hf.yielded]; exact hwant
    cases h2 with
    | value hv =>
      simp only [after, Option.some.injEq, Prod.mk.injEq] at ha
      obtain ⟨rfl, rfl⟩ := ha
      exact ⟨B1, _, l, l', w1, _, hcs.symm, .oper (by rw [hf.mode, hm]) (by rw [hf.todo, ht]) ho hwant' h1 rfl, (hf.mono h4.sub).finish ht hv, hl.mono h4.sub, h3, h4, hev⟩
    | skip =>
      simp only [after, Option.some.injEq, Prod.mk.injEq] at ha
      obtain ⟨rfl, rfl⟩ := ha
      exact ⟨B1, _, l, l', w1, _, hcs.symm, .oper (by rw [hf.mode, hm]) (by rw [hf.todo, ht]) ho hwant' h1 rfl, (hf.mono h4.sub).finish ht VR.undef, hl.mono h4.sub, h3, h4, hev⟩
    | enter f hfs has =>
      simp only [after, Option.some.injEq, Prod.mk.injEq] at ha
      obtain ⟨rfl, rfl⟩ := ha
      exact ⟨B1, _, fr :: l, fr' :: l', w1, _, by rw [← hcs]; rfl, .oper (by rw [hf.mode, hm]) (by rw [hf.todo, ht]) ho hwant' h1 rfl, FR.enter HB hfs has, .cons (hf.mono h4.sub) hm ⟨ops, i, rest, k, ht⟩ (hl.mono h4.sub), h3, h4, hev⟩
  | ret hm hfn hr =>
    rename_i fn v
    have hne := hend hm
    cases hl with
    | nil => exact absurd rfl hne
    | @cons d d' l l' hd hdm hdt hl =>
      obtain ⟨ops, i, rest, k, hdt⟩ := hdt
      rw [List.cons_append] at hcs
      injection hcs with h1 h2
      subst h1 h2
      obtain ⟨ts, hts⟩ := tmps_of fn.results.toList (HB.res _ hf.ft.fn fn hfn)
      have e := results_tmps hts fr.tmps
      have e' := results_tmps hts fr'.tmps
      rw [e] at hr
      have hv : v = resOf (ts.map fun t => fr.tmps.getD t undef) := by
        have := congrArg Prod.fst hr
        simp only [pure, Sem.runT] at this
        injection this with this
        exact this.symm
      subst hv
      have hret : Step1 P fr' (d' :: (l' ++ base)) w (d'.finish (resOf (ts.map fun t => fr'.tmps.getD t undef))) (l' ++ base) w #[] := .ret (by rw [hf.mode, hm]) (by rw [hf.fn]; exact hfn) (by rw [e']; rfl)
      exact ⟨B, _, l, l', w, #[], rfl, hret, hd.finish hdt (resOf_rel hf.tmps ts), hl, hw, Did.refl _ _, by simp⟩
end
end Go.Proofs.Ytgeoffpcmkofkaa
/- A lone run that comes back takes none but these steps. -/
namespace Go.Proofs.Ytgeoffpcmkofkaa
open Go

/-- The caller under all: a panic ends the program there, and so does a return. -/
def shut (P : Program) : Frame := { fn := P.funcs.size, tmps := #[], todo := [.call { target := .nil, args := #[] } false "fmt's door, shut" #[]], defers := [], mode := .run, kind := .normal }
theorem shut_row : Extern.next "fmt's door, shut" = none := by decide +kernel
section
variable {G : Nat} {FS : FuncId → Prop} {Sh : Nat → Prop} {P : Program} {B : BR}
/-- The lone machine with this caller under all. -/
abbrev L (P : Program) (fr : Frame) (l : List Frame) (w : World) : Machine := lone fr (l ++ [shut P]) w
theorem step_go {fr fr1 : Frame} {cs cs1 : List Frame} {w w1 : World} {es : Array Event} (h : stepG P true { frame := fr, callers := cs, status := .running, dying := none } w = .go { frame := fr1, callers := cs1, status := .running, dying := none } w1 es) : step P (lone fr cs w) = .next (lone fr1 cs1 w1) := step_lone_go (by rw [h]; rfl)
theorem step_end {fr : Frame} {cs : List Frame} {w w1 : World} {o : Outcome} {es : Array Event} (h : stepG P true { frame := fr, callers := cs, status := .running, dying := none } w = .ended o w1 es) : step P (lone fr cs w) = .ended o w1 := step_lone_ended (by rw [h]; rfl)
/-- Frames that run a body and have nothing deferred. -/
def Bare (P : Program) (fr : Frame) : Prop := fr.defers = [] ∧ ∃ fn, P.funcs[fr.fn]? = some fn
theorem no_way_shut {ch : List PanicEntry} {w : World} : ∀ (n : Nat) (fr1 : Frame) (w1 : World), fr1.mode = .returning → runN P n (lone ((shut P).raise ch) [] w) ≠ .next (L P fr1 [] w1)
  | 0, fr1, w1, hm, h => by
    simp only [runN, L, lone, Stepped.next.injEq, Machine.mk.injEq] at h
    have := h.2.1
    simp at this
  | n + 1, fr1, w1, hm, h => by
    have : step P (lone ((shut P).raise ch) [] w) = .ended (.unsupported (.noEntry "a panic or Goexit out of a method that fmt calls behind a cut's door") (((shut P).raise ch).pos P)) w := by
      refine step_end (es := #[]) ?_
      unfold stepG
      simp only [Frame.raise, shut]
      unfold unwind
      simp [Frame.catches]
    simp only [runN, this] at h
    cases h
theorem no_way_back : ∀ (n : Nat) (l : List Frame) (fr : Frame) (ch : List PanicEntry) (w : World), (∀ x ∈ l, Bare P x ∧ x.mode = .run) → Bare P fr → fr.mode = .panicking ch → ∀ (fr1 : Frame) (w1 : World), fr1.mode = .returning → runN P n (L P fr l w) ≠ .next (L P fr1 [] w1)
  | 0, l, fr, ch, w, _, _, hp, fr1, w1, hm, h => by
    simp only [runN, L, lone, Stepped.next.injEq, Machine.mk.injEq] at h
    have := h.2.1
    simp at this
    rw [this.1] at hp
    rw [hp] at hm
    cases hm
  | n + 1, l, fr, ch, w, hl, hb, hp, fr1, w1, hm, h => by
    obtain ⟨hd, fn, hfn⟩ := hb
    cases l with
    | nil =>
      have : step P (L P fr [] w) = .next (lone ((shut P).raise ch) [] w) := by
        refine step_go (es := #[]) ?_
        unfold stepG
        simp only [hp]
        unfold unwind
        simp [hd, hp, Frame.catches, hfn]
      simp only [runN, this] at h
      exact no_way_shut n fr1 w1 hm h
    | cons x l =>
      have : step P (L P fr (x :: l) w) = .next (L P (x.raise ch) l w) := by
        refine step_go (es := #[]) ?_
        unfold stepG
        simp only [hp]
        unfold unwind
        simp [hd, hp, Frame.catches, hfn]
      simp only [runN, this] at h
      have hx := hl x (by simp)
      refine no_way_back n l (x.raise ch) ch w (fun y hy => hl y (by simp [hy])) ?_ ?_ fr1 w1 hm h
      · simp only [Frame.raise, hx.2]
        exact hx.1
      · simp only [Frame.raise, hx.2]
theorem finish_mode (fr : Frame) (v : Value) : (fr.finish v).mode = fr.mode := by
  unfold Frame.finish
  split <;> rfl
theorem Step1.mode {fr fr1 : Frame} {l l' cs1 : List Frame} {w w1 : World} {es : Array Event} (hl : FRs G FS P B l l') (hs : Step1 P fr (l ++ [shut P]) w fr1 cs1 w1 es) : fr1.mode = .run ∨ fr1.mode = .returning := by
  generalize hcs : l ++ [shut P] = cs at hs
  cases hs with
  | ctl hm hc =>
    unfold Ytgeoffpcmkofkaa.ctl at hc
    split at hc
    all_goals (first | (cases hc; done) | skip)
    all_goals (first | (injection hc with hc; subst hc; first | exact .inr rfl | exact .inl hm) | skip)
    · split at hc
      · injection hc with hc; subst hc; exact .inl hm
      · injection hc with hc; subst hc; exact .inl hm
      · cases hc
    · rename_i id k _
      cases he : exitTo id k with
      | none => rw [he] at hc; cases hc
      | some k' => rw [he] at hc; injection hc with hc; subst hc; exact .inl hm
    · rename_i id k _
      cases he : gotoIn id k with
      | none => rw [he] at hc; cases hc
      | some k' => rw [he] at hc; injection hc with hc; subst hc; exact .inl hm
    · split at hc
      · cases hc
      · injection hc with hc
        subst hc
        exact .inl (by rw [finish_mode]; exact hm)
  | draw hm ht hr => exact .inl hm
  | oper hm ht ho hwant hr ha =>
    rename_i n _
    cases n <;> simp only [after, reduceCtorEq] at ha <;> (injection ha with ha; injection ha with h1 h2; subst h1)
    · exact .inl (by rw [finish_mode]; exact hm)
    · exact .inl (by rw [finish_mode]; exact hm)
    · exact .inl rfl
  | ret hm hfn hr =>
    cases hl with
    | nil =>
      simp only [List.nil_append, List.cons.injEq] at hcs
      rw [← hcs.1]
      exact .inl rfl
    | cons h1 h2 _ _ =>
      rw [List.cons_append] at hcs
      injection hcs with h3 h4
      subst h3
      exact .inl (by rw [finish_mode]; exact h2)
/-- No variable of the program waits for its first value. -/
structure NoEarly (P : Program) : Prop where
  follows : P.follows .staticDataAhead = true
  none : ∀ g, P.stepOf g = Option.none
theorem lone_cases (H : OpenOK G FS P) (HB : BodiesOK G FS P) (HN : NoEarly P) {fr fr' : Frame} {l l' : List Frame} {wl w : World} (hf : FR G FS P B fr fr') (hl : FRs G FS P B l l') (hw : WR G FS Sh B wl w) (hm : fr.mode = .run ∨ fr.mode = .returning) (hend : fr.mode = .returning → l ≠ []) :
    (∃ fr1 cs1 wl1 es, Step1 P fr (l ++ [shut P]) wl fr1 cs1 wl1 es) ∨ (∃ ch wl1, step P (L P fr l wl) = .next (L P { fr with mode := .panicking ch } l wl1)) ∨ (∃ o wl1, step P (L P fr l wl) = .ended o wl1) := by
  rcases hm with hm | hm
  · rcases stands (main := true) hf.ft hm with ⟨fr1, h⟩ | ⟨id, ops, k, h, _⟩ | ⟨ops, i, rest, k, o, h1, h2, h3, h4⟩ | h
    · exact .inl ⟨_, _, _, _, .ctl hm h⟩
    · have hr : ∃ t w1, (choose (.order fr.fn id)).run P wl = .ok t w1 := by
        simp only [choose, Sem.run]
        split <;> exact ⟨_, _, rfl⟩
      obtain ⟨t, w1, hr⟩ := hr
      exact .inl ⟨_, _, _, _, .draw hm h hr⟩
    · have hsem := r_execOp H (B := B) (ρ := fr.eval) (ρ' := fr'.eval) hf.eval h4
      have hfst := Sem.runT_fst P (execOp fr.eval o) wl #[]
      cases hr : (execOp fr.eval o).runT P wl #[] with
      | mk r es =>
        rw [hr] at hfst
        simp only at hfst
        cases r with
        | ok n w1 =>
          obtain ⟨B1, n', w2, es', k1, k2, _⟩ := hsem.run #[] hw hfst.symm
          cases k2 with
          | value hv => exact .inl ⟨_, _, _, _, .oper hm h1 h2 h3 hr rfl⟩
          | skip => exact .inl ⟨_, _, _, _, .oper hm h1 h2 h3 hr rfl⟩
          | enter f hfs has => exact .inl ⟨_, _, _, _, .oper hm h1 h2 h3 hr rfl⟩
        | halt x w1 =>
          have hmild := hsem.halts hw hfst.symm
          have hop : fr.oper? = some o := by simp [Frame.oper?, h1, h2]
          have hg : stepG P true { frame := fr, callers := l ++ [shut P], status := .running, dying := none } wl = stepG.apply P true fr (l ++ [shut P]) none (execOp fr.eval o) wl := by
            unfold stepG
            simp only [hm]
            unfold stepG.exec
            simp only [h1]
            rw [if_pos (by simp [h2, h3])]
            unfold stepG.oper
            simp only [hop, hf.ft.round]
          cases x with
          | stuck why => exact .inr (.inr ⟨_, _, step_end (by rw [hg]; unfold stepG.apply; simp only [if_true, hr]; rfl)⟩)
          | panic v =>
            refine .inr (.inl ⟨[{ v, recovered := false }], w1, ?_⟩)
            refine step_go (es := seen P fr.fn es) ?_
            rw [hg]
            unfold stepG.apply
            simp only [if_true, hr, hf.ft.kind, GStep.after, Frame.raise, hm]
            simp
          | unsupported u =>
            cases u with
            | initOrder g =>
              refine .inr (.inr ⟨.unsupported (.initOrder g) (fr.pos P), w1, ?_⟩)
              refine step_end (es := seen P fr.fn #[]) ?_
              rw [hg]
              unfold stepG.apply
              simp only [if_true, hr, hf.ft.kind, early, HN.follows, HN.none, GStep.after]
              simp
            | _ => exact .inr (.inr ⟨_, _, step_end (by rw [hg]; unfold stepG.apply; simp only [if_true, hr]; rfl)⟩)
          | _ => exact hmild.elim
    · obtain ⟨o, w1, h⟩ := h (l ++ [shut P]) wl
      exact .inr (.inr ⟨o, w1, step_end h⟩)
  · obtain ⟨fn, hfn⟩ := HB.there _ hf.ft.fn
    obtain ⟨ts, hts⟩ := tmps_of fn.results.toList (HB.res _ hf.ft.fn fn hfn)
    have e := results_tmps hts fr.tmps
    cases l with
    | nil => exact absurd rfl (hend hm)
    | cons x l => exact .inl ⟨_, _, _, _, .ret hm hfn (by rw [e]; rfl)⟩
end
end Go.Proofs.Ytgeoffpcmkofkaa
/- Lone runs that end on every tape end as a tree: whatever is drawn, step by step. -/
namespace Go.Proofs.Ytgeoffpcmkofkaa
open Go

section
variable (G : Nat) (FS : FuncId → Prop) (Sh : Nat → Prop) (P : Program)
/-- A lone state that has a match. -/
def Good (fr : Frame) (l : List Frame) (w : World) : Prop := (fr.mode = .run ∨ fr.mode = .returning) ∧ ∃ B fr' l' w', FR G FS P B fr fr' ∧ FRs G FS P B l l' ∧ WR G FS Sh B w w'
end
section
variable {G : Nat} {FS : FuncId → Prop} {Sh : Nat → Prop} {P : Program} {B : BR}
theorem WR.on {wl w : World} (h : WR G FS Sh B wl w) (T : Nat → Question → Nat) : WR G FS Sh B (on wl T) (on w fun i q => T (wl.drawn + (i - w.drawn)) q) := by
  refine ⟨h.blk, h.fn, h.inj, h.low, h.glob, fun i q => ?_⟩
  show T (wl.drawn + i) q = T (wl.drawn + (w.drawn + i - w.drawn)) q
  rw [Nat.add_sub_cancel_left]
theorem Good.on {fr : Frame} {l : List Frame} {w : World} (h : Good G FS Sh P fr l w) (T : Nat → Question → Nat) : Good G FS Sh P fr l (on w T) := by
  obtain ⟨hm, B, fr', l', w', h1, h2, h3⟩ := h
  exact ⟨hm, B, fr', l', _, h1, h2, h3.on T⟩
theorem Good.step (H : OpenOK G FS P) (HB : BodiesOK G FS P) {fr fr1 : Frame} {l cs1 : List Frame} {w w1 : World} {es : Array Event} (h : Good G FS Sh P fr l w) (hend : fr.mode = .returning → l ≠ []) (hs : Step1 P fr (l ++ [shut P]) w fr1 cs1 w1 es) : ∃ l1, cs1 = l1 ++ [shut P] ∧ Good G FS Sh P fr1 l1 w1 := by
  obtain ⟨hm, B, fr', l', w', h1, h2, h3⟩ := h
  obtain ⟨B1, fr1', l1, l1', w1', es', k⟩ := Step1.sim H HB (base := []) h1 h2 h3 hs hend
  exact ⟨l1, k.cs1, Step1.mode h2 hs, B1, fr1', l1', w1', k.fr, k.frs, k.wr⟩
theorem on_on (w : World) (T T' : Nat → Question → Nat) : on (on w T) T' = on w T' := rfl
theorem Step1.on (H : OpenOK G FS P) (HB : BodiesOK G FS P) {fr fr1 : Frame} {l cs1 : List Frame} {w w1 : World} {es : Array Event} (h : Good G FS Sh P fr l w) (hs : Step1 P fr (l ++ [shut P]) w fr1 cs1 w1 es) :
    w.drawn ≤ w1.drawn ∧ w1.tape = w.tape ∧ ∀ T, (∀ i q, w.drawn ≤ i → i < w1.drawn → T i q = w.tape i q) → ∃ es', Step1 P fr (l ++ [shut P]) (on w T) fr1 cs1 (on w1 T) es' := by
  obtain ⟨hm, B, fr', l', w', hf, hl, hw⟩ := h
  generalize hcs : l ++ [shut P] = cs at hs ⊢
  cases hs with
  | ctl hm hc => exact ⟨Nat.le_refl _, rfl, fun T _ => ⟨_, .ctl hm hc⟩⟩
  | draw hm ht hr =>
    rename_i id ops k t
    have hsem : SemR (G := G) (FS := FS) P EqQ B (choose (.order fr.fn id)) (choose (.order fr.fn id)) := .choose fun n => .pure rfl
    have g := hsem.run_on hw hr
    exact ⟨g.mono, g.same, fun T hT => ⟨_, .draw hm ht (g.run T hT)⟩⟩
  | oper hm ht ho hwant hr ha =>
    rename_i ops i rest k o n es0
    have htame : OpTame G FS P o.op := by
      have := hf.ft.todo (.inRegion ops (i :: rest)) (by rw [ht]; simp)
      refine this o ?_
      have := Array.mem_of_getElem? ho
      simpa using this
    have hsem := r_execOp H (B := B) (ρ := fr.eval) (ρ' := fr'.eval) hf.eval htame
    have hr' : (execOp fr.eval o).run P w = .ok n w1 := by rw [← Sem.runT_fst P _ w #[], hr]
    have g := hsem.run_on hw hr'
    refine ⟨g.mono, g.same, fun T hT => ?_⟩
    have h1 := g.run T hT
    rw [← Sem.runT_fst P _ _ #[]] at h1
    cases hq : (execOp fr.eval o).runT P (Ytgeoffpcmkofkaa.on w T) #[] with
    | mk r es' =>
      rw [hq] at h1
      simp only at h1
      subst h1
      exact ⟨_, .oper hm ht ho hwant hq ha⟩
  | ret hm hfn hr =>
    rename_i fn v
    refine ⟨Nat.le_refl _, rfl, fun T _ => ⟨_, .ret hm hfn ?_⟩⟩
    obtain ⟨ts, hts⟩ := tmps_of fn.results.toList (HB.res _ hf.ft.fn fn hfn)
    have e := results_tmps hts fr.tmps
    rw [e] at hr ⊢
    have hv : resOf (ts.map fun t => fr.tmps.getD t undef) = v := by
      have := congrArg Prod.fst hr
      simp only [pure, Sem.runT] at this
      injection this
    rw [hv]
    rfl
/-- A run of such steps to the end. -/
inductive Reach (P : Program) (Post : Frame → World → Prop) : Frame → List Frame → World → Prop
  | done {fr : Frame} {w : World} : fr.mode = .returning → Post fr w → Reach P Post fr [] w
  | step {fr fr1 : Frame} {l l1 : List Frame} {w w1 : World} {es : Array Event} : (fr.mode = .returning → l ≠ []) → Step1 P fr (l ++ [shut P]) w fr1 (l1 ++ [shut P]) w1 es → Reach P Post fr1 l1 w1 → Reach P Post fr l w
/-- Whatever is drawn. -/
inductive Ends (P : Program) (Post : Frame → World → Prop) : Frame → List Frame → World → Prop
  | done {fr : Frame} {w : World} : fr.mode = .returning → Post fr w → Ends P Post fr [] w
  | step {fr : Frame} {l : List Frame} {w : World} : (fr.mode = .returning → l ≠ []) → (∀ T, ∃ fr1 l1 w1 es, Step1 P fr (l ++ [shut P]) (on w T) fr1 (l1 ++ [shut P]) w1 es) → (∀ T fr1 l1 w1 es, Step1 P fr (l ++ [shut P]) (on w T) fr1 (l1 ++ [shut P]) w1 es → Ends P Post fr1 l1 w1) → Ends P Post fr l w
theorem FRs.bare (HB : BodiesOK G FS P) : ∀ {l l' : List Frame}, FRs G FS P B l l' → ∀ x ∈ l, Bare P x ∧ x.mode = .run
  | _, _, .nil, x, hx => by simp at hx
  | _, _, .cons h1 h2 _ h4, x, hx => by
    rcases List.mem_cons.1 hx with rfl | hx
    · exact ⟨⟨h1.ft.defers, HB.there _ h1.ft.fn⟩, h2⟩
    · exact h4.bare HB x hx
theorem not_behind {v : Value} {w : World} : ∀ (n : Nat) (fr1 : Frame) (w1 : World), runN P n (lone ((shut P).finish v) [] w) ≠ .next (L P fr1 [] w1)
  | 0, fr1, w1, h => by
    simp only [runN, L, lone, Stepped.next.injEq, Machine.mk.injEq] at h
    have := h.2.1
    simp at this
  | n + 1, fr1, w1, h => by
    have : ∃ o, step P (lone ((shut P).finish v) [] w) = .ended o w := by
      refine ⟨.stuck ("no extern row " ++ "fmt's door, shut") (((shut P).finish v).pos P), step_end (es := #[]) ?_⟩
      unfold stepG
      simp only [Frame.finish, shut]
      unfold stepG.exec
      simp only [shut_row]
      rfl
    obtain ⟨o, this⟩ := this
    simp only [runN, this] at h
    cases h
theorem reach_of_run (H : OpenOK G FS P) (HB : BodiesOK G FS P) (HN : NoEarly P) {Post : Frame → World → Prop} {frE : Frame} {wE : World} (hE : frE.mode = .returning) (hP : Post frE wE) : ∀ (n : Nat) {fr : Frame} {l : List Frame} {w : World}, Good G FS Sh P fr l w → runN P n (L P fr l w) = .next (L P frE [] wE) → Reach P Post fr l w
  | 0, fr, l, w, hg, h => by
    simp only [runN, L, lone, Stepped.next.injEq, Machine.mk.injEq] at h
    obtain ⟨h1, h2, _⟩ := h
    simp at h2
    obtain ⟨rfl, rfl⟩ := h2
    subst h1
    exact .done hE hP
  | n + 1, fr, l, w, hg, h => by
    obtain ⟨hm, B, fr', l', w', hf, hl, hw⟩ := id hg
    by_cases hend : fr.mode = .returning → l ≠ []
    · rcases lone_cases H HB HN hf hl hw hm hend with ⟨fr1, cs1, w1, es, hs⟩ | ⟨ch, w1, hs⟩ | ⟨o, w1, hs⟩
      · obtain ⟨l1, rfl, hg1⟩ := hg.step H HB hend hs
        have := step_go (hs.goes (main := true) (st := .running) (off := none) hf.ft)
        simp only [runN, this] at h
        exact .step hend hs (reach_of_run H HB HN hE hP n hg1 h)
      · simp only [runN, hs] at h
        exact absurd h (no_way_back n l { fr with mode := .panicking ch } ch w1 (hl.bare HB) ⟨hf.ft.defers, HB.there _ hf.ft.fn⟩ rfl frE wE hE)
      · simp only [runN, hs] at h
        cases h
    · simp only [Classical.not_imp, Classical.not_not] at hend
      obtain ⟨hr, rfl⟩ := hend
      exfalso
      obtain ⟨fn, hfn⟩ := HB.there _ hf.ft.fn
      obtain ⟨ts, hts⟩ := tmps_of fn.results.toList (HB.res _ hf.ft.fn fn hfn)
      have e := results_tmps hts fr.tmps
      have := step_go (P := P) (step_ret (main := true) (st := .running) (off := none) (c := shut P) (cs := []) (w := w) hr hf.ft.defers hf.ft.kind hfn (by rw [e]; rfl))
      simp only [runN, L, List.nil_append, this] at h
      exact not_behind n frE wE h
end
end Go.Proofs.Ytgeoffpcmkofkaa
/- The tree of a lone run: if on every tape the run ends, every branch ends. -/
namespace Go.Proofs.Ytgeoffpcmkofkaa
open Go

section
variable {G : Nat} {FS : FuncId → Prop} {Sh : Nat → Prop} {P : Program} {B : BR}
theorem Step1.same {fr a a' : Frame} {cs b b' : List Frame} {w c c' : World} {es es' : Array Event} (hf : FT G FS P fr) (h : Step1 P fr cs w a b c es) (h' : Step1 P fr cs w a' b' c' es') : a' = a ∧ b' = b ∧ c' = c := by
  have e := h.goes (main := true) (st := .running) (off := none) hf
  have e' := h'.goes (main := true) (st := .running) (off := none) hf
  rw [e] at e'
  injection e' with e1 e2 _
  injection e1 with e3 e4
  exact ⟨e3.symm, e4.symm, e2.symm⟩
theorem Good.ft {fr : Frame} {l : List Frame} {w : World} (h : Good G FS Sh P fr l w) : FT G FS P fr := by
  obtain ⟨_, _, _, _, _, h1, _⟩ := h
  exact h1.ft
theorem Reach.on (H : OpenOK G FS P) (HB : BodiesOK G FS P) {Post : Frame → World → Prop} (hT : ∀ fr w T, Post fr w → Post fr (on w T)) {fr : Frame} {l : List Frame} {w : World} (h : Reach P Post fr l w) : Good G FS Sh P fr l w → ∀ T, (∀ k q, w.drawn ≤ k → T k q = w.tape k q) → Reach P Post fr l (on w T) := by
  induction h with
  | done hm hp => exact fun _ T _ => .done hm (hT _ _ T hp)
  | @step fr fr1 l l1 w w1 es hend hs _ ih =>
    intro hg T hk
    obtain ⟨h1, h2, h3⟩ := hs.on H HB hg
    obtain ⟨es', hs'⟩ := h3 T fun i q a _ => hk i q a
    obtain ⟨l2, e, hg1⟩ := hg.step H HB hend hs
    have : l1 = l2 := by simpa using e
    subst this
    exact .step hend hs' (ih hg1 T fun k q a => by rw [h2]; exact hk k q (Nat.le_trans h1 a))

structure Cfg where
  fr : Frame
  l : List Frame
  w : World
/-- A state whose every run ends, and which is yet no tree. -/
def Lost (G : Nat) (FS : FuncId → Prop) (Sh : Nat → Prop) (P : Program) (Post : Frame → World → Prop) (s : Cfg) : Prop := Good G FS Sh P s.fr s.l s.w ∧ (∀ T, Reach P Post s.fr s.l (on s.w T)) ∧ ¬Ends P Post s.fr s.l s.w
/-- One step on, on a tape. -/
structure Link (P : Program) (s : Cfg) (T : Nat → Question → Nat) (s1 : Cfg) : Prop where
  far : s.fr.mode = .returning → s.l ≠ []
  step : ∃ es, Step1 P s.fr (s.l ++ [shut P]) (on s.w T) s1.fr (s1.l ++ [shut P]) s1.w es
theorem Lost.next (H : OpenOK G FS P) (HB : BodiesOK G FS P) {Post : Frame → World → Prop} (hT : ∀ fr w T, Post fr w → Post fr (on w T)) {s : Cfg} (h : Lost G FS Sh P Post s) : ∃ T s1, Link P s T s1 ∧ Lost G FS Sh P Post s1 := by
  obtain ⟨hg, hr, hn⟩ := h
  have far : s.fr.mode = .returning → s.l ≠ [] := by
    intro hm hl
    apply hn
    have := hr s.w.tape
    have e : on s.w s.w.tape = s.w := rfl
    rw [e] at this
    rw [hl] at this ⊢
    cases this with
    | done h1 h2 => exact .done h1 h2
    | step h1 => exact absurd rfl (h1 hm)
  have some : ∀ T, ∃ fr1 l1 w1 es, Step1 P s.fr (s.l ++ [shut P]) (on s.w T) fr1 (l1 ++ [shut P]) w1 es := by
    intro T
    have := hr T
    generalize hl : s.l = l at this far ⊢
    cases this with
    | done h1 h2 => exact absurd rfl (far h1)
    | step h1 h2 h3 => exact ⟨_, _, _, _, h2⟩
  have : ∃ T fr1 l1 w1 es, Step1 P s.fr (s.l ++ [shut P]) (on s.w T) fr1 (l1 ++ [shut P]) w1 es ∧ ¬Ends P Post fr1 l1 w1 := by
    apply Classical.byContradiction
    intro hno
    apply hn
    refine .step far some fun T fr1 l1 w1 es hs => ?_
    apply Classical.byContradiction
    intro hne
    exact hno ⟨T, fr1, l1, w1, es, hs, hne⟩
  obtain ⟨T, fr1, l1, w1, es, hs, hne⟩ := this
  have hgT := hg.on T
  obtain ⟨l2, e, hg1⟩ := hgT.step H HB far hs
  have : l1 = l2 := by simpa using e
  subst this
  refine ⟨T, ⟨fr1, l1, w1⟩, ⟨far, es, hs⟩, hg1, fun T' => ?_, hne⟩
  obtain ⟨h1, h2, h3⟩ := hs.on H HB hgT
  obtain ⟨es', hs'⟩ := h3 (fun k q => if k < w1.drawn then T k q else T' k q) fun i q _ b => by simp only [b, if_true]; rfl
  rw [on_on] at hs'
  have hr' := hr (fun k q => if k < w1.drawn then T k q else T' k q)
  have : Reach P Post fr1 l1 (on w1 fun k q => if k < w1.drawn then T k q else T' k q) := by
    generalize hl : s.l = l at hr' far hs'
    cases hr' with
    | done k1 k2 => exact absurd rfl (far k1)
    | @step _ fr2 _ l2 _ w2 es2 k1 k2 k3 =>
      obtain ⟨e1, e2, e3⟩ := Step1.same hg.ft hs' k2
      have e2 : l2 = l1 := by simpa using e2
      subst e1 e2 e3
      exact k3
  have := this.on H HB hT (hg1.on _) T' fun k q a => by
    show T' k q = if k < w1.drawn then T k q else T' k q
    rw [if_neg (by have : w1.drawn ≤ k := a; omega)]
  exact this
theorem ends_of_reach (H : OpenOK G FS P) (HB : BodiesOK G FS P) {Post : Frame → World → Prop} (hT : ∀ fr w T, Post fr w → Post fr (on w T)) {fr : Frame} {l : List Frame} {w : World} (hg : Good G FS Sh P fr l w) (hr : ∀ T, Reach P Post fr l (on w T)) : Ends P Post fr l w := by
  apply Classical.byContradiction
  intro hn
  have s0 : { s : Cfg // Lost G FS Sh P Post s } := ⟨⟨fr, l, w⟩, hg, hr, hn⟩
  have nx : ∀ s : { s : Cfg // Lost G FS Sh P Post s }, ∃ x : (Nat → Question → Nat) × { s : Cfg // Lost G FS Sh P Post s }, Link P s.1 x.1 x.2.1 := fun s => by
    obtain ⟨T, s1, h1, h2⟩ := s.2.next H HB hT
    exact ⟨(T, ⟨s1, h2⟩), h1⟩
  let f : Nat → { s : Cfg // Lost G FS Sh P Post s } := fun n => Nat.rec s0 (fun _ s => (Classical.choose (nx s)).2) n
  let tp : Nat → Nat → Question → Nat := fun n => (Classical.choose (nx (f n))).1
  have lk : ∀ n, Link P (f n).1 (tp n) (f (n + 1)).1 := fun n => Classical.choose_spec (nx (f n))
  have mono1 : ∀ n, (f n).1.w.drawn ≤ (f (n + 1)).1.w.drawn := by
    intro n
    obtain ⟨es, hs⟩ := (lk n).step
    exact (hs.on H HB ((f n).2.1.on _)).1
  have mono : ∀ d n, (f n).1.w.drawn ≤ (f (n + d)).1.w.drawn := by
    intro d
    induction d with
    | zero => exact fun n => Nat.le_refl _
    | succ d ih => exact fun n => Nat.le_trans (ih n) (mono1 (n + d))
  let at_ : Nat → Nat → Prop := fun k i => (f i).1.w.drawn ≤ k ∧ k < (f (i + 1)).1.w.drawn
  have uniq : ∀ k i j, at_ k i → at_ k j → i = j := by
    intro k i j hi hj
    rcases Nat.lt_trichotomy i j with h | h | h
    · have := mono (j - (i + 1)) (i + 1)
      rw [show i + 1 + (j - (i + 1)) = j by omega] at this
      have h1 := hi.2
      have h2 := hj.1
      omega
    · exact h
    · have := mono (i - (j + 1)) (j + 1)
      rw [show j + 1 + (i - (j + 1)) = i by omega] at this
      have h1 := hj.2
      have h2 := hi.1
      omega
  let T : Nat → Question → Nat := fun k q => open Classical in if h : ∃ i, at_ k i then tp (Classical.choose h) k q else 0
  have agree : ∀ i k q, at_ k i → T k q = tp i k q := by
    intro i k q h
    have h' : ∃ i, at_ k i := ⟨i, h⟩
    have e : T k q = tp (Classical.choose h') k q := dif_pos h'
    rw [e, uniq k _ i (Classical.choose_spec h') h]
  have lkT : ∀ n, ∃ es, Step1 P (f n).1.fr ((f n).1.l ++ [shut P]) (on (f n).1.w T) (f (n + 1)).1.fr ((f (n + 1)).1.l ++ [shut P]) (on (f (n + 1)).1.w T) es := by
    intro n
    obtain ⟨es, hs⟩ := (lk n).step
    exact (hs.on H HB ((f n).2.1.on _)).2.2 T fun k q a b => agree n k q ⟨a, b⟩
  have never : ∀ {fr : Frame} {l : List Frame} {w : World}, Reach P Post fr l w → ∀ n, fr = (f n).1.fr → l = (f n).1.l → w = on (f n).1.w T → False := by
    intro fr l w h
    induction h with
    | done h1 h2 => intro n e1 e2 e3; exact (lk n).far (by rw [← e1]; exact h1) e2.symm
    | @step fr fr1 l l1 w w1 es hend hs _ ih =>
      intro n e1 e2 e3
      subst e1 e2 e3
      obtain ⟨es', hs'⟩ := lkT n
      obtain ⟨k1, k2, k3⟩ := Step1.same (f n).2.1.ft hs' hs
      exact ih (n + 1) k1 (by simpa using k2) k3
  exact never (s0.2.2.1 T) 0 rfl rfl rfl
end
end Go.Proofs.Ytgeoffpcmkofkaa
/- A contract that holds on every tape gives the tree. -/
namespace Go.Proofs.Ytgeoffpcmkofkaa
open Go

section
variable {G : Nat} {FS : FuncId → Prop} {Sh : Nat → Prop} {P : Program} {B : BR}
/-- What is left at the end: the frame's results are a value of which Q speaks. -/
def PostV (P : Program) (f : FuncId) (Q : Value → World → Prop) (fr : Frame) (w : World) : Prop := fr.fn = f ∧ ∃ fn v, P.funcs[f]? = some fn ∧ (results fn fr.tmps).run P w = .ok v w ∧ Q v w
theorem postV_on (HB : BodiesOK G FS P) {f : FuncId} (hf : FS f) {Q : Value → World → Prop} (hQ : ∀ v w T, Q v w → Q v (on w T)) (fr : Frame) (w : World) (T : Nat → Question → Nat) (h : PostV P f Q fr w) : PostV P f Q fr (on w T) := by
  obtain ⟨h1, fn, v, h2, h3, h4⟩ := h
  refine ⟨h1, fn, v, h2, ?_, hQ _ _ T h4⟩
  obtain ⟨ts, hts⟩ := tmps_of fn.results.toList (HB.res f hf fn h2)
  have e := results_tmps hts fr.tmps
  rw [e] at h3 ⊢
  simp only [pure, Sem.run] at h3 ⊢
  injection h3 with h3 _
  rw [h3]
theorem good_enter (HB : BodiesOK G FS P) {f : FuncId} (hf : FS f) {vas vas' : Array Value} (ha : VRs G FS B vas.toList vas'.toList) {wl w : World} (hw : WR G FS Sh B wl w) : Good G FS Sh P (Frame.enter P f vas .normal) [] wl := ⟨.inl rfl, B, _, [], w, FR.enter HB hf ha, .nil, hw⟩
theorem ends_of_calls (H : OpenOK G FS P) (HB : BodiesOK G FS P) (HN : NoEarly P) {f : FuncId} (hf : FS f) {vas vas' : Array Value} (ha : VRs G FS B vas.toList vas'.toList) {wl w : World} (hw : WR G FS Sh B wl w) {Q : Value → World → Prop} (hQ : ∀ v w T, Q v w → Q v (on w T))
    (h : ∀ T, Calls P f vas (on wl T) fun e w' => ∃ v, e = .returned v ∧ Q v w') : Ends P (PostV P f Q) (Frame.enter P f vas .normal) [] wl := by
  have hg := good_enter HB hf ha hw
  refine ends_of_reach H HB (postV_on HB hf hQ) hg fun T => ?_
  obtain ⟨e, w', fr, ⟨v, rfl, hv⟩, hc, hfn, hl⟩ := h T [shut P]
  obtain ⟨n, hn⟩ : Steps P (lone (Frame.enter P f vas .normal) [shut P] (on wl T)) (lone fr [shut P] w') := hc
  obtain ⟨hm, _, _, fn, hfn', hr⟩ := hl
  exact reach_of_run H HB HN hm (Post := PostV P f Q) ⟨hfn, fn, v, by rw [← hfn]; exact hfn', hr, hv⟩ n (hg.on T) hn
end
end Go.Proofs.Ytgeoffpcmkofkaa
