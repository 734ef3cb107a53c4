/- One that goes on beside goroutines that only leave. -/
import Derived.Test.YtgeoffpcmkofkaaMf
namespace Go.Proofs.Ytgeoffpcmkofkaa
open Go Go.Conc
open Go.ConcN (sumTo)

/-- The same memory; the tape is of no matter. -/
structure Same (w w' : World) : Prop where
  heap : w'.heap = w.heap
  os : w'.os = w.os
  output : w'.output = w.output
theorem Same.refl (w : World) : Same w w := ⟨rfl, rfl, rfl⟩
theorem Same.trans {w w1 w2 : World} (h : Same w w1) (k : Same w1 w2) : Same w w2 := ⟨k.heap.trans h.heap, k.os.trans h.os, k.output.trans h.output⟩
/-- From here on all goes well, whatever the tape, beside others that only leave. -/
def A (P : Program) (Post : Value → World → Prop) (fr : Frame) (cs : List Frame) (w : World) : Prop :=
  ∀ (gs : Array Goroutine) (w' : World) (sl : Option (Nat × Nat)) (t : Trace) (q : Nat → Nat) (off : Option (Array CommCase × CommShape)), Same w w' → gs[0]? = some { G fr cs with offers := off } → Leavers P t gs q → Past (fun _ => False) w'.heap.size t → Fine P Post (crowd gs w' sl) t
section
variable {P : Program} {Post : Value → World → Prop} {fr fr1 : Frame} {cs cs1 : List Frame} {w w1 : World}
theorem A.same {w2 : World} (h : A P Post fr cs w) (k : Same w w2) : A P Post fr cs w2 := fun gs w' sl t q off hs => h gs w' sl t q off (k.trans hs)
/-- A step of its own. -/
theorem A.one (h : ∀ w', Same w w' → ∃ fr1 cs1 w1 es, stepG P true (G fr cs) w' = .go (G fr1 cs1) w1 es ∧ (∀ e ∈ es, EvP w1.heap.size e) ∧ w'.heap.size ≤ w1.heap.size ∧ A P Post fr1 cs1 w1) : A P Post fr cs w := by
  suffices H : ∀ (M : Nat) (gs : Array Goroutine) (w' : World) (sl : Option (Nat × Nat)) (t : Trace) (q : Nat → Nat) (off : Option (Array CommCase × CommShape)), sumTo gs.size q = M → Same w w' → gs[0]? = some { G fr cs with offers := off } → Leavers P t gs q → Past (fun _ => False) w'.heap.size t → Fine P Post (crowd gs w' sl) t from fun gs w' sl t q off => H _ gs w' sl t q off rfl
  intro M
  induction M using Nat.strongRecOn with
  | ind M ih =>
    intro gs w' sl t q off hM hsame h0 hL hP
    have haw : ∀ g ∈ gs, awake g := by
      intro g hg
      obtain ⟨i, hi, rfl⟩ := Array.mem_iff_getElem.1 hg
      rcases Nat.eq_zero_or_pos i with rfl | hpos
      · have : gs[0] = { G fr cs with offers := off } := by simpa [Array.getElem?_eq_getElem hi] using h0
        rw [this]; exact awake_of (.inl rfl)
      · exact awake_of ((hL.old i _ hpos (Array.getElem?_eq_getElem hi)).status.elim .inl fun x => .inr (.inr x))
    obtain ⟨i, g, d, sl', hi, hg, hst⟩ := crowd_pick (P := P) (w := w') (sl := sl) haw ⟨0, _, h0, rfl⟩
    have hsame' : Same w (w'.at d) := hsame.trans ⟨rfl, rfl, rfl⟩
    have hP' : Past (fun _ => False) (w'.at d).heap.size t := hP
    generalize w'.at d = w2 at hst hsame' hP'
    rcases Nat.eq_zero_or_pos i with rfl | hpos
    · obtain ⟨fr1, cs1, w1, es, hgo, hev, hsz, hA⟩ := h w2 hsame'
      have hrunT := runT_crowd_go (P := P) (sl := sl') (i := 0) (g' := G fr1 cs1) (w' := w1) (es := es) h0 (show stepG P (0 == 0) { G fr cs with offers := off } w2 = _ from hgo)
      have hlt : 0 < gs.size := (Array.getElem?_eq_some_iff.1 h0).1
      refine .step (hst.trans hrunT) (hA _ w1 sl' _ q none (Same.refl _) (set_at _ _ _ hlt) ⟨fun j x hj hx => ?_, fun j hj => ?_⟩ ((hP'.mono hsz).own hev))
      · have hne : 0 ≠ j := by omega
        rw [Array.getElem?_setIfInBounds_ne hne, Array.getElem?_map] at hx
        obtain ⟨y, hy, rfl⟩ := Option.map_eq_some_iff.1 hx
        have hq := hL.old j y hj hy
        rw [woken_quitsD hq, Deaf_other t (by omega) _ (fun op hop => by obtain ⟨e, _, rfl⟩ := Conc.mem_ofEvents hop; rfl)]
        exact hq
      · rw [Deaf_other t (g' := 0) (by simp at hj; omega) _ (fun op hop => by obtain ⟨e, _, rfl⟩ := Conc.mem_ofEvents hop; rfl)]
        exact hL.above j (by simpa using hj)
    · have hq := hL.old i g hpos hi
      have hi0 : (i == 0) = false := by simp; omega
      have hlt : i < gs.size := (Array.getElem?_eq_some_iff.1 hi).1
      cases hqi : q i with
      | zero => rw [hqi] at hq; rw [hq.1] at hg; cases hg
      | succ k =>
        rw [hqi] at hq
        rcases hq with ⟨hf, _⟩ | ⟨_, g', es, hm, hstp, hq'⟩
        · rw [hf] at hg; cases hg
        have hrunT := runT_crowd_go (P := P) (sl := sl') (i := i) hi (by rw [hi0]; exact hstp w2)
        refine .step (hst.trans hrunT) (ih (sumTo gs.size (put q i k)) (by rw [← hM]; exact sum_put hlt hqi) _ w2 sl' _ (put q i k) off (by simp) hsame' ?_ ⟨fun j x hj hx => ?_, fun j hj => ?_⟩ (hP'.mute (by omega) hm))
        · have hne : i ≠ 0 := by omega
          rw [Array.getElem?_setIfInBounds_ne hne, Array.getElem?_map, h0, Option.map_some, woken_run rfl]
        · by_cases hji : i = j
          · subst hji
            rw [Array.getElem?_setIfInBounds_self_of_lt (by simpa using hlt)] at hx
            obtain rfl := Option.some.inj hx
            rw [put_same, Deaf_own]
            exact hq'
          · rw [Array.getElem?_setIfInBounds_ne hji, Array.getElem?_map] at hx
            obtain ⟨y, hy, rfl⟩ := Option.map_eq_some_iff.1 hx
            have hqj := hL.old j y hj hy
            rw [woken_quitsD hqj, put_ne _ _ (Ne.symm hji), Deaf_other t hji _ (fun op hop => by obtain ⟨e, _, rfl⟩ := Conc.mem_ofEvents hop; rfl)]
            exact hqj
        · rw [Deaf_other t (g' := i) (by simp at hj; omega) _ (fun op hop => by obtain ⟨e, _, rfl⟩ := Conc.mem_ofEvents hop; rfl)]
          exact hL.above j (by simpa using hj)
/-- A step that does not look at memory. -/
theorem A.ctl (h : ∀ w, stepG P true (G fr cs) w = .go (G fr1 cs1) w #[]) (k : A P Post fr1 cs1 w) : A P Post fr cs w :=
  .one fun w' hs => ⟨fr1, cs1, w', #[], h w', by simp, Nat.le_refl _, k.same hs⟩
/-- The end. -/
theorem A.fin {v : Value} (h : ∀ w', Same w w' → stepG P true (G fr cs) w' = .ended (.done v) w' #[] ∧ Post v w') : A P Post fr cs w := by
  intro gs w' sl t q off hs h0 hL hP
  have hG : Goes P true AtRel (fun _ _ _ => False) (AtEnd P (fun _ => False) w'.heap.size Post) 0 { G fr cs with offers := off } w' := by
    rintro w1 ⟨d, rfl⟩
    obtain ⟨h1, h2⟩ := h (w'.at d) (hs.trans ⟨rfl, rfl, rfl⟩)
    exact ⟨rfl, v, #[], h1, by simp, h2⟩
  exact beside_ends (D := fun _ _ _ => False) (fun _ _ _ h => h.elim) h0 hL hP hG
/-- The steps of a lone run do not hang on who called. -/
theorem StepP.rebase {l l1 c : List Frame} {es : Array Event} (h : StepP P fr (l ++ [shut P]) w fr1 (l1 ++ [shut P]) w1 es) (hend : fr.mode = .returning → l ≠ []) : StepP P fr (l ++ c) w fr1 (l1 ++ c) w1 es := by
  generalize hcs : l ++ [shut P] = x at h
  generalize hcs1 : l1 ++ [shut P] = y at h
  cases h with
  | ctl h1 h2 =>
    have : l1 = l := by rw [← hcs] at hcs1; simpa using hcs1
    subst this
    exact .ctl h1 h2
  | draw h1 h2 h3 =>
    have : l1 = l := by rw [← hcs] at hcs1; simpa using hcs1
    subst this
    exact .draw h1 h2 h3
  | oper h1 h2 h3 h4 h5 h6 =>
    rename_i n _
    refine .oper h1 h2 h3 h4 h5 ?_
    cases n <;> simp only [after, reduceCtorEq, Option.some.injEq, Prod.mk.injEq] at h6 ⊢
    · obtain ⟨h6, h7⟩ := h6
      have : l1 = l := by rw [← hcs1, ← hcs] at h7; simpa using h7.symm
      subst this
      exact ⟨h6, rfl⟩
    · obtain ⟨h6, h7⟩ := h6
      have : l1 = l := by rw [← hcs1, ← hcs] at h7; simpa using h7.symm
      subst this
      exact ⟨h6, rfl⟩
    · obtain ⟨h6, h7⟩ := h6
      have : l1 = fr :: l := by
        rw [← hcs1, ← hcs, ← List.cons_append] at h7
        exact (List.append_cancel_right h7).symm
      subst this
      exact ⟨h6, rfl⟩
  | ret h1 h2 h3 =>
    cases l with
    | nil => exact absurd rfl (hend h1)
    | cons z l =>
      simp only [List.cons_append, List.cons.injEq] at hcs
      obtain ⟨rfl, hcs⟩ := hcs
      have : l1 = l := by rw [← hcs] at hcs1; simpa using hcs1
      subst this
      exact .ret h1 h2 h3
/-- A lone run, as a tree, beside others. -/
theorem A.of_ends {FS : FuncId → Prop} (HB : BodP P FS) {PostF : Frame → World → Prop} {l : List Frame} (he : EndsP P PostF fr l w) : GoodP P FS fr l → (∀ fr w, FP P FS fr → fr.mode = .returning → PostF fr w → A P Post fr cs w) → A P Post fr (l ++ cs) w := by
  induction he with
  | done hm hp => exact fun hg hf => hf _ _ hg.2.1 hm hp
  | @step fr l w hend hsome hall ih =>
    intro hg hf
    refine .one fun w' hs => ?_
    obtain ⟨fr1, l1, w1, es, hst⟩ := hsome fun i q => w'.tape (w'.drawn + (i - w.drawn)) q
    obtain ⟨h1, h2, h3, h4, h5⟩ := hst.mvP HB hg.2.1
    obtain ⟨l2, e, hg1⟩ := hg.step HB hend hst
    have : l1 = l2 := by simpa using e
    subst this
    have hst' := h5 w'.tape w'.drawn fun i q _ => by
      show w'.tape (w'.drawn + i) q = w'.tape (w'.drawn + (w.drawn + i - w.drawn)) q
      rw [Nat.add_sub_cancel_left]
    have ew : mv (on w fun i q => w'.tape (w'.drawn + (i - w.drawn)) q) w'.tape w'.drawn = w' := by
      obtain ⟨hh, ho, hu⟩ := hs
      cases w'
      cases w
      simp only at hh ho hu
      subst hh ho hu
      rfl
    rw [ew] at hst'
    have hA := ih _ fr1 l1 w1 es hst hg1 hf
    refine ⟨fr1, l1 ++ cs, _, es, (hst'.rebase (c := cs) hend).goes hg.2.1, h4, ?_, hA.same ⟨rfl, rfl, rfl⟩⟩
    have : w'.heap.size = w.heap.size := by rw [hs.heap]
    rw [this]
    exact h3
/-- A call that has a lone contract. -/
theorem A.call {FS : FuncId → Prop} (HB : BodP P FS) (HN : NoEarly P) {f : FuncId} (hf : FS f) {fn : Func} {c : Code} (hfn : P.funcs[f]? = some fn) (hb : fn.body = some c) {xs : Array Value} {Q : Value → World → Prop} (hQ : ∀ v w w', Same w w' → Q v w → Q v w') {x : Frame} (h : ∀ w', Same w w' → Calls P f xs w' fun e w' => ∃ v, e = .returned v ∧ Q v w')
    (k : ∀ v w1, Q v w1 → A P Post (x.finish v) cs w1) : A P Post (Frame.enter P f xs .normal) (x :: cs) w := by
  have he := ends_of_callsP HB HN hf hfn hb (fun v w T q => hQ v w _ ⟨rfl, rfl, rfl⟩ q) (fun T => h (on w T) ⟨rfl, rfl, rfl⟩)
  refine A.of_ends (l := []) (cs := x :: cs) HB he ⟨.inl rfl, FP.enter HB hf hfn hb xs, fun x hx => by simp at hx⟩ fun fr w hfp hm hp => ?_
  obtain ⟨h1, fn', v, h2, h3, h4⟩ := hp
  have hr : (results fn' fr.tmps).runT P w #[] = (.ok v w, ((results fn' fr.tmps).runT P w #[]).2) := by
    have := Sem.runT_fst P (results fn' fr.tmps) w #[]
    rw [h3] at this
    exact Prod.ext this rfl
  have g := (pt_results fn' fr.tmps).run_mv hr
  refine .one fun w2 hs => ?_
  have g2 := g.run w2.tape w2.drawn fun i q hi => by omega
  rw [Nat.sub_self, Nat.add_zero] at g2
  have ew : mv w w2.tape w2.drawn = w2 := by
    obtain ⟨hh, ho, hu⟩ := hs
    cases w2
    cases w
    simp only at hh ho hu
    subst hh ho hu
    rfl
  rw [ew] at g2
  refine ⟨x.finish v, cs, w2, _, step_retE hm hfp.defers hfp.kind (by rw [h1]; exact h2) g2, fun e he => ?_, Nat.le_refl _, (k v w h4).same hs⟩
  rcases g.low e (seen_mem he) with h | h
  · simp at h
  · rw [hs.heap]; exact h
end
end Go.Proofs.Ytgeoffpcmkofkaa
