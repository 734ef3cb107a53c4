/- A piece of a function's code that has a lone contract, beside goroutines that only leave. -/
import Derived.Test.YtgeoffpcmkofkaaMi
namespace Go.Proofs.Ytgeoffpcmkofkaa
open Go Go.Conc

/-- More to do behind it. -/
def more (k : List Item) (fr : Frame) : Frame := { fr with todo := fr.todo ++ k }
/-- .. in the frame under all. -/
def moreL (k : List Item) : List Frame → List Frame
  | [] => []
  | [x] => [more k x]
  | x :: y :: l => x :: moreL k (y :: l)
def moreF (k : List Item) (fr : Frame) : List Frame → Frame
  | [] => more k fr
  | _ :: _ => fr
theorem moreL_cons (k : List Item) (fr : Frame) : ∀ l : List Frame, moreL k (fr :: l) = moreF k fr l :: moreL k l
  | [] => rfl
  | _ :: _ => rfl
theorem exitTo_more {id : Nat} (k2 : List Item) : ∀ {k k' : List Item}, exitTo id k = some k' → exitTo id (k ++ k2) = some (k' ++ k2)
  | [], k', h => by simp [exitTo] at h
  | it :: k, k', h => by
    cases it with
    | inBlock id' =>
      simp only [exitTo, List.cons_append] at h ⊢
      split at h
      · rename_i e; injection h with h; subst h; rw [if_pos e]
      · rename_i e; rw [if_neg e]; exact exitTo_more k2 h
    | _ => simpa only [exitTo, List.cons_append] using exitTo_more k2 (by simpa only [exitTo] using h)
theorem more_finish {fr : Frame} {ops : Array Oper} {i : Nat} {rest : List Nat} {k0 : List Item} (k : List Item) (ht : fr.todo = .inRegion ops (i :: rest) :: k0) (v : Value) : (more k fr).finish v = more k (fr.finish v) := by
  unfold more Frame.finish
  simp only [ht, List.cons_append]
section
variable {P : Program} {FS : FuncId → Prop} {Post : Value → World → Prop}
theorem ctl_more {fr fr1 : Frame} (k2 : List Item) (hf : FP P FS fr) (hne : fr.todo ≠ []) (hc : ctl fr = some fr1) : ctl (more k2 fr) = some (more k2 fr1) := by
  have hi := hf.todo
  unfold ctl at hc ⊢
  cases ht : fr.todo with
  | nil => exact absurd ht hne
  | cons it k =>
    have h0 := hi it (by rw [ht]; simp)
    rw [ht] at hc
    have e : (more k2 fr).todo = it :: (k ++ k2) := by simp [more, ht]
    rw [e]
    cases it with
    | inBlock id => injection hc with hc; subst hc; rfl
    | inLoop b => injection hc with hc; subst hc; rfl
    | inScope b => exact h0.elim
    | inRangeFunc l => exact h0.elim
    | endRangeFunc l => exact h0.elim
    | beginRound => exact h0.elim
    | call => exact h0.elim
    | extern => exact h0.elim
    | inRegion ops todo =>
      cases todo with
      | nil => injection hc with hc; subst hc; rfl
      | cons i rest =>
        simp only at hc ⊢
        split at hc
        · cases hc
        · rename_i hw
          injection hc with hc
          subst hc
          rw [if_neg (by exact hw), more_finish k2 ht]
    | code c =>
      cases c with
      | skip => injection hc with hc; subst hc; rfl
      | ret => injection hc with hc; subst hc; simp [more]
      | label l => exact h0.elim
      | seq a b => injection hc with hc; subst hc; rfl
      | block id b => injection hc with hc; subst hc; rfl
      | loop b => injection hc with hc; subst hc; rfl
      | scope b => exact h0.elim
      | rangeFunc => exact h0.elim
      | refuse why => exact h0.elim
      | goto l => exact h0.elim
      | region id ops draw =>
        cases draw with
        | false => injection hc with hc; subst hc; rfl
        | true => cases hc
      | cond c a b =>
        have ee : (more k2 fr).eval c = fr.eval c := by cases c <;> rfl
        simp only at hc ⊢
        rw [ee]
        split at hc
        · injection hc with hc; subst hc; rfl
        · injection hc with hc; subst hc; rfl
        · cases hc
      | exit id =>
        simp only at hc ⊢
        cases he : exitTo id k with
        | none => rw [he] at hc; cases hc
        | some k' =>
          rw [he] at hc
          injection hc with hc
          subst hc
          rw [exitTo_more k2 he]
          rfl
theorem more_eval (k : List Item) (fr : Frame) : (more k fr).eval = fr.eval := funext fun x => by cases x <;> rfl
/-- The steps of a lone run, with more to do behind. -/
theorem StepP.more {fr fr1 : Frame} {l l1 c : List Frame} {w w1 : World} {es : Array Event} (k : List Item) (hf : FP P FS fr) (hl : FPs P FS l) (h : StepP P fr (l ++ [shut P]) w fr1 (l1 ++ [shut P]) w1 es) (hend : fr.mode = .returning → l ≠ []) (hne : l = [] → fr.todo ≠ []) :
    StepP P (moreF k fr l) (moreL k l ++ c) w (moreF k fr1 l1) (moreL k l1 ++ c) w1 es := by
  generalize hcs : l ++ [shut P] = x at h
  generalize hcs1 : l1 ++ [shut P] = y at h
  cases h with
  | ctl h1 h2 =>
    have : l1 = l := by rw [← hcs] at hcs1; simpa using hcs1
    subst this
    cases l1 with
    | nil => exact .ctl h1 (ctl_more k hf (hne rfl) h2)
    | cons y l => exact .ctl h1 h2
  | draw h1 h2 h3 =>
    have : l1 = l := by rw [← hcs] at hcs1; simpa using hcs1
    subst this
    cases l1 with
    | nil =>
      refine StepP.draw (fr := Ytgeoffpcmkofkaa.more k fr) h1 ?_ h3
      show fr.todo ++ k = _
      rw [h2]
      rfl
    | cons y l => exact .draw h1 h2 h3
  | oper h1 h2 h3 h4 h5 h6 =>
    rename_i ops i rest k0 o n es0
    have key : ∀ fr' : Frame, fr' = moreF k fr l → after P fr' (moreL k l ++ c) n = some (moreF k fr1 l1, moreL k l1 ++ c) := by
      rintro fr' rfl
      cases n <;> simp only [after, reduceCtorEq, Option.some.injEq, Prod.mk.injEq] at h6 ⊢
      · obtain ⟨rfl, h7⟩ := h6
        have : l1 = l := by rw [← hcs1, ← hcs] at h7; simpa using h7.symm
        subst this
        cases l1 with
        | nil => exact ⟨more_finish k h2 _, rfl⟩
        | cons y l => exact ⟨rfl, rfl⟩
      · obtain ⟨rfl, h7⟩ := h6
        have : l1 = l := by rw [← hcs1, ← hcs] at h7; simpa using h7.symm
        subst this
        cases l1 with
        | nil => exact ⟨more_finish k h2 _, rfl⟩
        | cons y l => exact ⟨rfl, rfl⟩
      · obtain ⟨rfl, h7⟩ := h6
        have : l1 = fr :: l := by
          rw [← hcs1, ← hcs, ← List.cons_append] at h7
          exact (List.append_cancel_right h7).symm
        subst this
        exact ⟨rfl, by rw [moreL_cons]; rfl⟩
    cases l with
    | nil =>
      have e := more_eval k fr
      refine StepP.oper (fr := Ytgeoffpcmkofkaa.more k fr) (ops := ops) (i := i) (rest := rest) (k := k0 ++ k) h1 ?_ h3 h4 (by rw [e]; exact h5) (key _ rfl)
      show fr.todo ++ k = _
      rw [h2]
      rfl
    | cons z l => exact .oper h1 h2 h3 h4 h5 (key _ rfl)
  | ret h1 h2 h3 =>
    rename_i vv _
    cases l with
    | nil => exact absurd rfl (hend h1)
    | cons z l =>
      simp only [List.cons_append, List.cons.injEq] at hcs
      obtain ⟨rfl, hcs⟩ := hcs
      have : l1 = l := by rw [← hcs] at hcs1; simpa using hcs1
      subst this
      obtain ⟨_, _, ops, i, rest, k0, h7⟩ := hl z (by simp)
      rw [moreL_cons]
      have : moreF k (z.finish vv) l1 = (moreF k z l1).finish vv := by
        cases l1 with
        | nil => exact (more_finish k h7 _).symm
        | cons y l => rfl
      rw [this]
      exact .ret h1 h2 h3
theorem StepP.goesN {main : Bool} {fr fr1 : Frame} {cs cs1 : List Frame} {w w1 : World} {st : GoStatus} {off : Option (Array CommCase × CommShape)} {es : Array Event} (hr : fr.roundOf = none) (hk : fr.kind = .normal) (hd : fr.defers = []) (h : StepP P fr cs w fr1 cs1 w1 es) : stepG P main { frame := fr, callers := cs, status := st, dying := none, offers := off } w = .go { frame := fr1, callers := cs1, status := .running, dying := none } w1 es := by
  cases h with
  | ctl h1 h2 => exact step_ctl h1 hr h2
  | draw h1 h2 h3 => exact step_draw h1 h2 h3
  | oper h1 h2 h3 h4 h5 h6 => exact step_oper h1 hr hk h2 h3 h4 h5 h6
  | ret h1 h2 h3 => exact step_retE h1 hd hk h2 h3
theorem ctl_ret {fr fr1 : Frame} (hm : fr.mode = .run) (hne : fr.todo ≠ []) (hc : Ytgeoffpcmkofkaa.ctl fr = some fr1) (h1 : fr1.mode = .returning) : fr1.todo ≠ [] := by
  unfold Ytgeoffpcmkofkaa.ctl at hc
  split at hc
  · rename_i h; exact absurd h hne
  · injection hc with hc; subst hc; exact hne
  all_goals first
    | (injection hc with hc; subst hc; simp only [hm] at h1; cases h1)
    | (split at hc <;> first
        | (injection hc with hc; subst hc; simp only [hm, finish_mode] at h1; cases h1)
        | (injection hc with hc; subst hc; rw [finish_mode, hm] at h1; cases h1)
        | cases hc)
    | (obtain ⟨k', _, rfl⟩ := Option.map_eq_some_iff.1 hc; simp only [hm] at h1; cases h1)
    | cases hc
theorem StepP.stays {fr fr1 : Frame} {l l1 : List Frame} {w w1 : World} {es : Array Event} (hl : FPs P FS l) (h : StepP P fr (l ++ [shut P]) w fr1 (l1 ++ [shut P]) w1 es) (hend : fr.mode = .returning → l ≠ []) (hne : l = [] → fr.todo ≠ []) (hl1 : l1 = []) (hm1 : fr1.mode = .returning) : fr1.todo ≠ [] := by
  generalize hcs : l ++ [shut P] = x at h
  generalize hcs1 : l1 ++ [shut P] = y at h
  cases h with
  | ctl h1 h2 =>
    have : l1 = l := by rw [← hcs] at hcs1; simpa using hcs1
    subst this
    exact ctl_ret h1 (hne hl1) h2 hm1
  | draw h1 h2 h3 =>
    rw [show _ = FrameMode.run from h1] at hm1
    cases hm1
  | oper h1 h2 h3 h4 h5 h6 =>
    rename_i n _
    cases n <;> simp only [after, reduceCtorEq, Option.some.injEq, Prod.mk.injEq] at h6
    · rw [← h6.1, finish_mode, h1] at hm1; cases hm1
    · rw [← h6.1, finish_mode, h1] at hm1; cases hm1
    · rw [← h6.1] at hm1; simp [Frame.enter] at hm1
  | ret h1 h2 h3 =>
    cases l with
    | nil => exact absurd rfl (hend h1)
    | cons z l =>
      simp only [List.cons_append, List.cons.injEq] at hcs
      obtain ⟨rfl, hcs⟩ := hcs
      rw [finish_mode, (hl z (by simp)).2.1] at hm1
      cases hm1
/-- A lone run, as a tree, beside others, with more to do behind. -/
theorem A.of_ends_more (HB : BodP P FS) {PostF : Frame → World → Prop} {fr : Frame} {l cs : List Frame} {w : World} (k : List Item) (he : EndsP P PostF fr l w) : GoodP P FS fr l → (l = [] → fr.mode = .returning → fr.todo ≠ []) →
    (∀ fr w, FP P FS fr → fr.mode = .run → fr.todo = [] → PostF { fr with mode := .returning } w → A P Post (Ytgeoffpcmkofkaa.more k fr) cs w) →
    (∀ fr w, FP P FS fr → fr.mode = .returning → fr.todo ≠ [] → PostF fr w → A P Post (Ytgeoffpcmkofkaa.more k fr) cs w) → A P Post (moreF k fr l) (moreL k l ++ cs) w := by
  induction he with
  | done hm hp => exact fun hg hne _ hR => hR _ _ hg.2.1 hm (hne rfl hm) hp
  | @step fr l w hend hsome hall ih =>
    intro hg hne hN hR
    by_cases hz : l = [] ∧ fr.todo = []
    · obtain ⟨rfl, ht⟩ := hz
      have hrun : fr.mode = .run := hg.1.elim id fun h => absurd rfl (hend h)
      have hs : StepP P fr ([] ++ [shut P]) (on w w.tape) { fr with mode := .returning } ([] ++ [shut P]) (on w w.tape) #[] := .ctl hrun (by unfold Ytgeoffpcmkofkaa.ctl; rw [ht])
      have he := hall w.tape _ [] _ _ hs
      cases he with
      | done h1 h2 => exact hN fr w hg.2.1 hrun ht h2
      | step h1 _ _ => exact absurd rfl (h1 rfl)
    refine .one fun w' hs => ?_
    obtain ⟨fr1, l1, w1, es, hst⟩ := hsome fun i q => w'.tape (w'.drawn + (i - w.drawn)) q
    obtain ⟨h1, h2, h3, h4, h5⟩ := hst.mvP HB hg.2.1
    obtain ⟨l2, e, hg1⟩ := hg.step HB hend hst
    have : l1 = l2 := by simpa using e
    subst this
    have hst' := h5 w'.tape w'.drawn fun i q _ => by
      show w'.tape (w'.drawn + i) q = w'.tape (w'.drawn + (w.drawn + i - w.drawn)) q
      rw [Nat.add_sub_cancel_left]
    have ew : mv (on w fun i q => w'.tape (w'.drawn + (i - w.drawn)) q) w'.tape w'.drawn = w' := by
      obtain ⟨hh, ho, hu⟩ := hs
      cases w'
      cases w
      simp only at hh ho hu
      subst hh ho hu
      rfl
    rw [ew] at hst'
    have hne2 : l = [] → fr.todo ≠ [] := fun a b => hz ⟨a, b⟩
    have hne1 : l1 = [] → fr1.mode = .returning → fr1.todo ≠ [] := hst.stays hg.2.2 hend hne2
    have hA := ih _ fr1 l1 w1 es hst hg1 hne1 hN hR
    refine ⟨moreF k fr1 l1, moreL k l1 ++ cs, _, es, (hst'.more (c := cs) k hg.2.1 hg.2.2 hend hne2).goesN ?_ ?_ ?_, h4, ?_, hA.same ⟨rfl, rfl, rfl⟩⟩
    · cases l <;> exact hg.2.1.round
    · cases l <;> exact hg.2.1.kind
    · cases l <;> exact hg.2.1.defers
    have : w'.heap.size = w.heap.size := by rw [hs.heap]
    rw [this]
    exact h3
/-- What a piece of code ends in. -/
def PostC (b : Frame) (Q : Act → World → Prop) (fr : Frame) (w : World) : Prop := ∃ a, fr = { b.at a [] with mode := .returning } ∧ Q a w
/-- A piece of code with a lone contract on every tape: it is gone through beside others. -/
theorem A.seg (HB : BodP P FS) (HN : NoEarly P) {b : Frame} {fn : Func} (hb : P.funcs[b.fn]? = some fn) (hbk : b.kind = .normal) {c : Code} (hc : CodeP P FS c) {k : List Item} {cs : List Frame} {a : Act} (ha : a.defers = []) {w : World} {Q : Act → World → Prop}
    (hQ : ∀ a w w', Same w w' → Q a w → Q a w') (h : ∀ w', Same w w' → c.wp P (fun e a w => e = .normal ∧ Q a w) a w') (kN : ∀ a' w', Q a' w' → A P Post (b.at a' k) cs w') : A P Post (b.at a (.code c :: k)) cs w := by
  have hg : GoodP P FS (b.at a [.code c]) [] := ⟨.inl rfl, ⟨⟨fn, hb⟩, fun i hi => by simp [Frame.at] at hi; subst hi; exact hc, ha, hbk, rfl⟩, fun x hx => by simp at hx⟩
  have he : EndsP P (PostC b Q) (b.at a [.code c]) [] w := by
    refine ends_of_reachP HB (fun fr w T hp => ?_) hg fun T => ?_
    · obtain ⟨a, h1, h2⟩ := hp
      exact ⟨a, h1, hQ a w (on w T) ⟨rfl, rfl, rfl⟩ h2⟩
    · obtain ⟨e, a', w', ⟨rfl, hq⟩, harr⟩ := h (on w T) ⟨rfl, rfl, rfl⟩ b [] [shut P]
      obtain ⟨n, hn⟩ : Steps P (lone (b.at a [.code c]) [shut P] (on w T)) (lone { b.at a' [] with mode := .returning } [shut P] w') := Steps.trans harr (.one Go.step_end)
      exact reach_of_runP HB HN rfl (Post := PostC b Q) ⟨a', rfl, hq⟩ n hg hn
  have := A.of_ends_more (Post := Post) (cs := cs) HB k he hg (fun _ h => by cases h) (fun fr w hf hm ht hp => ?_) (fun fr w hf hm ht hp => ?_)
  · exact this
  · obtain ⟨a', h1, h2⟩ := hp
    have e : more k fr = b.at a' k := by
      cases fr
      simp only [Frame.at, Frame.mk.injEq] at h1
      simp only at hm
      obtain ⟨rfl, rfl, rfl, rfl, _, rfl, rfl⟩ := h1
      simp [more, Frame.at, hm]
    rw [e]
    exact kN a' w h2
  · obtain ⟨a', h1, h2⟩ := hp
    exact absurd (by rw [h1]; rfl) ht
/-- What the rest of a function's code ends in. -/
def PostR (b : Frame) (Q : Act → World → Prop) (fr : Frame) (w : World) : Prop := ∃ a todo, fr = { b.at a todo with mode := .returning } ∧ Q a w
/-- The rest of a function's code. -/
theorem A.rest (HB : BodP P FS) (HN : NoEarly P) {b : Frame} {fn : Func} (hb : P.funcs[b.fn]? = some fn) (hbk : b.kind = .normal) {c : Code} (hc : CodeP P FS c) {cs : List Frame} {a : Act} (ha : a.defers = []) {w : World} {Q : Act → World → Prop}
    (hQ : ∀ a w w', Same w w' → Q a w → Q a w') (h : ∀ w', Same w w' → c.wp P (fun e a w => (e = .normal ∨ e = .ret) ∧ Q a w) a w') (kR : ∀ a' w' todo, a'.defers = [] → Q a' w' → A P Post { b.at a' todo with mode := .returning } cs w') : A P Post (b.at a [.code c]) cs w := by
  have hg : GoodP P FS (b.at a [.code c]) [] := ⟨.inl rfl, ⟨⟨fn, hb⟩, fun i hi => by simp [Frame.at] at hi; subst hi; exact hc, ha, hbk, rfl⟩, fun x hx => by simp at hx⟩
  have he : EndsP P (PostR b Q) (b.at a [.code c]) [] w := by
    refine ends_of_reachP HB (fun fr w T hp => ?_) hg fun T => ?_
    · obtain ⟨a, todo, h1, h2⟩ := hp
      exact ⟨a, todo, h1, hQ a w (on w T) ⟨rfl, rfl, rfl⟩ h2⟩
    · obtain ⟨e, a', w', ⟨rfl | rfl, hq⟩, harr⟩ := h (on w T) ⟨rfl, rfl, rfl⟩ b [] [shut P]
      · obtain ⟨n, hn⟩ : Steps P (lone (b.at a [.code c]) [shut P] (on w T)) (lone { b.at a' [] with mode := .returning } [shut P] w') := Steps.trans harr (.one Go.step_end)
        exact reach_of_runP HB HN rfl (Post := PostR b Q) ⟨a', [], rfl, hq⟩ n hg hn
      · obtain ⟨todo, n, hn⟩ := harr
        exact reach_of_runP HB HN rfl (Post := PostR b Q) ⟨a', todo, rfl, hq⟩ n hg hn
  have := A.of_ends (Post := Post) (cs := cs) HB he hg fun fr w hf _ hp => ?_
  · exact this
  · obtain ⟨a', todo, rfl, h2⟩ := hp
    exact kR a' w todo hf.defers h2
end
end Go.Proofs.Ytgeoffpcmkofkaa
