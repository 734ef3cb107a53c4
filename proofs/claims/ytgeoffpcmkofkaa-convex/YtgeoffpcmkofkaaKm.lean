/- The machine takes these steps, and no others. -/
import Derived.Test.YtgeoffpcmkofkaaKl
namespace Go.Proofs.Ytgeoffpcmkofkaa
open Go

section
variable {G : Nat} {FS : FuncId → Prop} {Sh : Nat → Prop} {P : Program} {main : Bool} {cs : List Frame} {w : World} {st : GoStatus} {off : Option (Array CommCase × CommShape)}
theorem step_ctl {fr fr1 : Frame} (hm : fr.mode = .run) (hr : fr.roundOf = none) (h : ctl fr = some fr1) : stepG P main { frame := fr, callers := cs, status := st, dying := none, offers := off } w = .go { frame := fr1, callers := cs, status := .running, dying := none } w #[] := by
  unfold ctl at h
  unfold stepG
  simp only [hm]
  unfold stepG.exec
  split at h
  all_goals rename_i ht
  all_goals simp only [ht]
  all_goals (first | (injection h with h; subst h; rfl) | (injection h with h; subst h; simp only [hr]; done) | cases h | skip)
  · simp [hr, ht]
  · simp [hr, ht]
  · split at h
    · rename_i he; injection h with h; subst h; simp [he]
    · rename_i he; injection h with h; subst h; simp [he]
    · cases h
  · rename_i id k
    cases he : exitTo id k with
    | none => rw [he] at h; cases h
    | some k' => rw [he] at h; injection h with h; subst h; rfl
  · rename_i id k
    cases he : gotoIn id k with
    | none => rw [he] at h; cases h
    | some k' => rw [he] at h; injection h with h; subst h; rfl
  · split at h
    · cases h
    · rename_i hn
      rw [if_neg hn]
      injection h with h
      subst h
      rfl
theorem step_draw {fr : Frame} {w1 : World} {id : Nat} {ops : Array Oper} {k : List Item} {t : Nat} (hm : fr.mode = .run) (ht : fr.todo = .code (.region id ops true) :: k) (h : (choose (.order fr.fn id)).run P w = .ok t w1) : stepG P main { frame := fr, callers := cs, status := st, dying := none, offers := off } w = .go { frame := { fr with todo := .inRegion ops (Region.schedule (P.follows .mixedOrders) ops t) :: k }, callers := cs, status := .running, dying := none } w1 #[] := by
  unfold stepG
  simp only [hm]
  unfold stepG.exec
  simp only [ht, h]
  simp [hm]
theorem step_oper {fr fr1 : Frame} {cs1 : List Frame} {w1 : World} {ops : Array Oper} {i : Nat} {rest : List Nat} {k : List Item} {o : Oper} {n : Next} {es : Array Event} (hm : fr.mode = .run) (hr : fr.roundOf = none) (hk : fr.kind = .normal) (ht : fr.todo = .inRegion ops (i :: rest) :: k) (ho : ops[i]? = some o) (hw : Region.wanted o (yielded ops fr.tmps) = true) (h : (execOp fr.eval o).runT P w #[] = (.ok n w1, es)) (ha : after P fr cs n = some (fr1, cs1)) : stepG P main { frame := fr, callers := cs, status := st, dying := none, offers := off } w = .go { frame := fr1, callers := cs1, status := .running, dying := none } w1 (seen P fr.fn es) := by
  unfold stepG
  simp only [hm]
  unfold stepG.exec
  simp only [ht]
  rw [if_pos (by simp [ho, hw])]
  unfold stepG.oper
  have hop : fr.oper? = some o := by simp [Frame.oper?, ht, ho]
  simp only [hop, hr]
  unfold stepG.apply
  simp only [if_true, h, hk, ht]
  cases n <;> simp only [after, reduceCtorEq] at ha <;> (injection ha with ha; injection ha with h1 h2; subst h1 h2; simp [GStep.after])
theorem step_ret {fr c : Frame} {fn : Func} {v : Value} (hm : fr.mode = .returning) (hd : fr.defers = []) (hk : fr.kind = .normal) (hf : P.funcs[fr.fn]? = some fn) (h : (results fn fr.tmps).runT P w #[] = (.ok v w, #[])) : stepG P main { frame := fr, callers := c :: cs, status := st, dying := none, offers := off } w = .go { frame := c.finish v, callers := cs, status := .running, dying := none } w #[] := by
  unfold stepG
  simp only [hm]
  unfold unwind
  simp only [hd, hm, hf, h]
  simp [doReturn, hk, GStep.after, seen]
theorem Step1.goes {fr fr1 : Frame} {cs1 : List Frame} {w1 : World} {es : Array Event} (hf : FT G FS P fr) (h : Step1 P fr cs w fr1 cs1 w1 es) : stepG P main { frame := fr, callers := cs, status := st, dying := none, offers := off } w = .go { frame := fr1, callers := cs1, status := .running, dying := none } w1 es := by
  cases h with
  | ctl h1 h2 => exact step_ctl h1 hf.round h2
  | draw h1 h2 h3 => exact step_draw h1 h2 h3
  | oper h1 h2 h3 h4 h5 h6 => exact step_oper h1 hf.round hf.kind h2 h3 h4 h5 h6
  | ret h1 h2 h3 => exact step_ret h1 hf.defers hf.kind h2 h3
/-- Where a running frame stands. -/
theorem stands {fr : Frame} (hf : FT G FS P fr) (hm : fr.mode = .run) :
    (∃ fr1, ctl fr = some fr1) ∨ (∃ id ops k, fr.todo = .code (.region id ops true) :: k ∧ ∀ o ∈ ops.toList, OpTame G FS P o.op) ∨
    (∃ ops i rest k o, fr.todo = .inRegion ops (i :: rest) :: k ∧ ops[i]? = some o ∧ Region.wanted o (yielded ops fr.tmps) = true ∧ OpTame G FS P o.op) ∨
    (∀ cs w, ∃ o w1, stepG P main { frame := fr, callers := cs, status := .running, dying := none } w = .ended o w1 #[]) := by
  have hx : ∀ cs w, stepG P main { frame := fr, callers := cs, status := .running, dying := none } w = stepG.exec P main true fr cs none w := by
    intro cs w
    unfold stepG
    simp only [hm]
  have hi := hf.todo
  have hr := hf.round
  cases ht : fr.todo with
  | nil => exact .inl ⟨_, by simp only [ctl, ht]; rfl⟩
  | cons it k =>
    have h0 := hi it (by rw [ht]; simp)
    cases it with
    | inBlock id => exact .inl ⟨_, by simp only [ctl, ht]; rfl⟩
    | inLoop b => exact .inl ⟨_, by simp only [ctl, ht]; rfl⟩
    | inScope b => exact .inl ⟨_, by simp only [ctl, ht]; rfl⟩
    | inRangeFunc l => exact h0.elim
    | endRangeFunc l => exact h0.elim
    | beginRound => exact h0.elim
    | call => exact h0.elim
    | extern => exact h0.elim
    | inRegion ops todo =>
      cases todo with
      | nil => exact .inl ⟨_, by simp only [ctl, ht]; rfl⟩
      | cons i rest =>
        by_cases hw : ((ops[i]?).map (Region.wanted · (yielded ops fr.tmps))).getD false = true
        · cases ho : ops[i]? with
          | none => rw [ho] at hw; simp at hw
          | some o =>
            rw [ho] at hw
            refine .inr (.inr (.inl ⟨ops, i, rest, k, o, rfl, ho, by simpa using hw, h0 o ?_⟩))
            have := Array.mem_of_getElem? ho
            simpa using this
        · exact .inl ⟨_, by simp only [ctl, ht, if_neg hw]; rfl⟩
    | code c =>
      cases c with
      | skip => exact .inl ⟨_, by simp only [ctl, ht]; rfl⟩
      | ret => exact .inl ⟨_, by simp only [ctl, ht]; rfl⟩
      | label l => exact .inl ⟨_, by simp only [ctl, ht]; rfl⟩
      | seq a b => exact .inl ⟨_, by simp only [ctl, ht]; rfl⟩
      | block id b => exact .inl ⟨_, by simp only [ctl, ht]; rfl⟩
      | loop b => exact .inl ⟨_, by simp only [ctl, ht]; rfl⟩
      | scope b => exact .inl ⟨_, by simp only [ctl, ht]; rfl⟩
      | rangeFunc => exact h0.elim
      | refuse why =>
        refine .inr (.inr (.inr fun cs w => ?_))
        rw [hx]
        unfold stepG.exec
        simp only [ht]
        exact ⟨_, _, rfl⟩
      | region id ops draw =>
        cases draw with
        | false => exact .inl ⟨_, by simp only [ctl, ht]; rfl⟩
        | true => exact .inr (.inl ⟨id, ops, k, rfl, h0⟩)
      | cond c a b =>
        by_cases hb : ∃ b, fr.eval c = .bool b
        · obtain ⟨v, hv⟩ := hb
          cases v <;> exact .inl ⟨_, by simp only [ctl, ht, hv]; rfl⟩
        · refine .inr (.inr (.inr fun cs w => ?_))
          rw [hx]
          unfold stepG.exec
          simp only [ht]
          split
          · rename_i v hv; exact absurd ⟨v, hv⟩ hb
          · exact ⟨_, _, rfl⟩
      | exit id =>
        cases he : exitTo id k with
        | some k' => exact .inl ⟨_, by simp only [ctl, ht, he]; rfl⟩
        | none =>
          refine .inr (.inr (.inr fun cs w => ?_))
          rw [hx]
          unfold stepG.exec
          simp only [ht, he, hr]
          exact ⟨_, _, rfl⟩
      | goto l =>
        cases he : gotoIn l k with
        | some k' => exact .inl ⟨_, by simp only [ctl, ht, he]; rfl⟩
        | none =>
          refine .inr (.inr (.inr fun cs w => ?_))
          rw [hx]
          unfold stepG.exec
          simp only [ht, he, hr]
          exact ⟨_, _, rfl⟩
end
end Go.Proofs.Ytgeoffpcmkofkaa
