/- Lone runs as trees, whatever is drawn. -/
import Derived.Test.YtgeoffpcmkofkaaMe
namespace Go.Proofs.Ytgeoffpcmkofkaa
open Go Go.Conc

section
variable {P : Program} {FS : FuncId → Prop}
theorem on_mv (w : World) (T : Nat → Question → Nat) : on w T = mv w T w.drawn := rfl
theorem StepP.mvP (HB : BodP P FS) {fr fr1 : Frame} {cs cs1 : List Frame} {w w1 : World} {es : Array Event} (hf : FP P FS fr) (hs : StepP P fr cs w fr1 cs1 w1 es) :
    w.drawn ≤ w1.drawn ∧ w1.tape = w.tape ∧ w.heap.size ≤ w1.heap.size ∧ (∀ e ∈ es, EvP w1.heap.size e) ∧ ∀ T d, (∀ i q, i < w1.drawn - w.drawn → T (d + i) q = w.tape (w.drawn + i) q) → StepP P fr cs (mv w T d) fr1 cs1 (mv w1 T (d + (w1.drawn - w.drawn))) es := by
  cases hs with
  | ctl hm hc =>
    refine ⟨Nat.le_refl _, rfl, Nat.le_refl _, by simp, fun T d _ => ?_⟩
    rw [Nat.sub_self, Nat.add_zero]
    exact .ctl hm hc
  | draw hm ht hr =>
    rename_i id ops k t
    have hq : (Question.order fr.fn id).forced = false := rfl
    simp only [choose, Sem.run, hq] at hr
    injection hr with h1 h2
    subst h1 h2
    refine ⟨Nat.le_succ _, rfl, Nat.le_refl _, by simp, fun T d hT => ?_⟩
    have e : (choose (.order fr.fn id)).run P (mv w T d) = .ok ((Question.order fr.fn id).cut (w.tape w.drawn (.order fr.fn id))) (mv { w with drawn := w.drawn + 1 } T (d + (w.drawn + 1 - w.drawn))) := by
      simp only [choose, Sem.run, hq]
      have := hT 0 (.order fr.fn id) (by simp)
      simp only [Nat.add_zero] at this
      rw [show w.drawn + 1 - w.drawn = 1 by omega]
      simp [mv, this]
    exact .draw hm ht e
  | oper hm ht ho hwant hr ha =>
    rename_i ops i rest k o n es0
    have hop : OpP P FS o.op := by
      have := hf.todo (.inRegion ops (i :: rest)) (by rw [ht]; simp)
      refine this o ?_
      have := Array.mem_of_getElem? ho
      simpa using this
    have g := (p_execOp HB.func (eval_func fr) hop).run_mv hr
    refine ⟨g.mono, g.same, g.size, fun e he => ?_, fun T d hT => .oper hm ht ho hwant (g.run T d hT) ha⟩
    rcases g.low e (seen_mem he) with h | h
    · simp at h
    · exact h
  | ret hm hfn hr =>
    rename_i fn v es0
    have g := (pt_results fn fr.tmps).run_mv hr
    refine ⟨g.mono, g.same, g.size, fun e he => ?_, fun T d hT => .ret hm hfn (g.run T d hT)⟩
    rcases g.low e (seen_mem he) with h | h
    · simp at h
    · exact h
theorem step1_onP (HB : BodP P FS) {fr fr1 : Frame} {l cs1 : List Frame} {w w1 : World} {es : Array Event} (hf : FP P FS fr) (hs : StepP P fr (l ++ [shut P]) w fr1 cs1 w1 es) :
    w.drawn ≤ w1.drawn ∧ w1.tape = w.tape ∧ ∀ T, (∀ i q, w.drawn ≤ i → i < w1.drawn → T i q = w.tape i q) → ∃ es', StepP P fr (l ++ [shut P]) (on w T) fr1 cs1 (on w1 T) es' := by
  obtain ⟨h1, h2, _, _, h3⟩ := hs.mvP HB hf
  refine ⟨h1, h2, fun T hT => ⟨es, ?_⟩⟩
  have := h3 T w.drawn fun i q hi => hT _ q (by omega) (by omega)
  rw [show w.drawn + (w1.drawn - w.drawn) = w1.drawn by omega] at this
  exact this
/-- A run of such steps to the end. -/
inductive ReachP (P : Program) (Post : Frame → World → Prop) : Frame → List Frame → World → Prop
  | done {fr : Frame} {w : World} : fr.mode = .returning → Post fr w → ReachP P Post fr [] w
  | step {fr fr1 : Frame} {l l1 : List Frame} {w w1 : World} {es : Array Event} : (fr.mode = .returning → l ≠ []) → StepP P fr (l ++ [shut P]) w fr1 (l1 ++ [shut P]) w1 es → ReachP P Post fr1 l1 w1 → ReachP P Post fr l w
inductive EndsP (P : Program) (Post : Frame → World → Prop) : Frame → List Frame → World → Prop
  | done {fr : Frame} {w : World} : fr.mode = .returning → Post fr w → EndsP P Post fr [] w
  | step {fr : Frame} {l : List Frame} {w : World} : (fr.mode = .returning → l ≠ []) → (∀ T, ∃ fr1 l1 w1 es, StepP P fr (l ++ [shut P]) (on w T) fr1 (l1 ++ [shut P]) w1 es) → (∀ T fr1 l1 w1 es, StepP P fr (l ++ [shut P]) (on w T) fr1 (l1 ++ [shut P]) w1 es → EndsP P Post fr1 l1 w1) → EndsP P Post fr l w
structure LinkP (P : Program) (s : Cfg) (T : Nat → Question → Nat) (s1 : Cfg) : Prop where
  far : s.fr.mode = .returning → s.l ≠ []
  step : ∃ es, StepP P s.fr (s.l ++ [shut P]) (on s.w T) s1.fr (s1.l ++ [shut P]) s1.w es
def GoodP (P : Program) (FS : FuncId → Prop) (fr : Frame) (l : List Frame) : Prop := (fr.mode = .run ∨ fr.mode = .returning) ∧ FP P FS fr ∧ FPs P FS l
theorem GoodP.step (HB : BodP P FS) {fr fr1 : Frame} {l cs1 : List Frame} {w w1 : World} {es : Array Event} (h : GoodP P FS fr l) (hend : fr.mode = .returning → l ≠ []) (hs : StepP P fr (l ++ [shut P]) w fr1 cs1 w1 es) : ∃ l1, cs1 = l1 ++ [shut P] ∧ GoodP P FS fr1 l1 := by
  obtain ⟨l1, h1, h2, h3, h4⟩ := h.2.1.step HB h.2.2 hend hs
  exact ⟨l1, h1, h4, h2, h3⟩
theorem thereP (HB : BodP P FS) {f : FuncId} (hf : FS f) : ∃ fn, P.funcs[f]? = some fn := let ⟨fn, h, _⟩ := (HB.func f hf).there; ⟨fn, h⟩
theorem bareP {l : List Frame} (h : FPs P FS l) : ∀ x ∈ l, Bare P x ∧ x.mode = .run := fun x hx => ⟨⟨(h x hx).1.defers, (h x hx).1.fn⟩, (h x hx).2.1⟩
theorem lone_casesP (HB : BodP P FS) (HN : NoEarly P) {fr : Frame} {l : List Frame} {wl : World} (hf : FP P FS fr) (hm : fr.mode = .run ∨ fr.mode = .returning) (hend : fr.mode = .returning → l ≠ []) :
    (∃ fr1 cs1 wl1 es, StepP P fr (l ++ [shut P]) wl fr1 cs1 wl1 es) ∨ (∃ ch wl1, step P (L P fr l wl) = .next (L P { fr with mode := .panicking ch } l wl1)) ∨ (∃ o wl1, step P (L P fr l wl) = .ended o wl1) := by
  rcases hm with hm | hm
  · rcases standsP (main := true) hf hm with ⟨fr1, h⟩ | ⟨id, ops, k, h, _⟩ | ⟨ops, i, rest, k, o, h1, h2, h3, h4⟩ | h
    · exact .inl ⟨_, _, _, _, .ctl hm h⟩
    · have hr : ∃ t w1, (choose (.order fr.fn id)).run P wl = .ok t w1 := by
        simp only [choose, Sem.run]
        split <;> exact ⟨_, _, rfl⟩
      obtain ⟨t, w1, hr⟩ := hr
      exact .inl ⟨_, _, _, _, .draw hm h hr⟩
    · have hsem := p_execOp HB.func (eval_func fr) h4
      have hfst := Sem.runT_fst P (execOp fr.eval o) wl #[]
      cases hr : (execOp fr.eval o).runT P wl #[] with
      | mk r es =>
        rw [hr] at hfst
        simp only at hfst
        cases r with
        | ok n w1 =>
          rcases hsem.post hfst.symm with ⟨v, rfl⟩ | rfl | ⟨f, xs, rfl, _⟩
          · exact .inl ⟨_, _, _, _, .oper hm h1 h2 h3 hr rfl⟩
          · exact .inl ⟨_, _, _, _, .oper hm h1 h2 h3 hr rfl⟩
          · exact .inl ⟨_, _, _, _, .oper hm h1 h2 h3 hr rfl⟩
        | halt x w1 =>
          have hmild := hsem.mild hfst.symm
          have hop : fr.oper? = some o := by simp [Frame.oper?, h1, h2]
          have hg : stepG P true { frame := fr, callers := l ++ [shut P], status := .running, dying := none } wl = stepG.apply P true fr (l ++ [shut P]) none (execOp fr.eval o) wl := by
            unfold stepG
            simp only [hm]
            unfold stepG.exec
            simp only [h1]
            rw [if_pos (by simp [h2, h3])]
            unfold stepG.oper
            simp only [hop, hf.round]
          cases x with
          | stuck why => exact .inr (.inr ⟨_, _, step_end (by rw [hg]; unfold stepG.apply; simp only [if_true, hr]; rfl)⟩)
          | panic v =>
            refine .inr (.inl ⟨[{ v, recovered := false }], w1, ?_⟩)
            refine step_go (es := seen P fr.fn es) ?_
            rw [hg]
            unfold stepG.apply
            simp only [if_true, hr, hf.kind, GStep.after, Frame.raise, hm]
            simp
          | unsupported u =>
            cases u with
            | initOrder g =>
              refine .inr (.inr ⟨.unsupported (.initOrder g) (fr.pos P), w1, ?_⟩)
              refine step_end (es := seen P fr.fn #[]) ?_
              rw [hg]
              unfold stepG.apply
              simp only [if_true, hr, hf.kind, early, HN.follows, HN.none, GStep.after]
              simp
            | _ => exact .inr (.inr ⟨_, _, step_end (by rw [hg]; unfold stepG.apply; simp only [if_true, hr]; rfl)⟩)
          | _ => exact hmild.elim
    · obtain ⟨o, w1, h⟩ := h (l ++ [shut P]) wl
      exact .inr (.inr ⟨o, w1, step_end h⟩)
  · obtain ⟨fn, hfn⟩ := hf.fn
    cases l with
    | nil => exact absurd rfl (hend hm)
    | cons x l =>
      have hfst := Sem.runT_fst P (results fn fr.tmps) wl #[]
      cases hr : (results fn fr.tmps).runT P wl #[] with
      | mk r es =>
        rw [hr] at hfst
        simp only at hfst
        cases r with
        | ok v w1 => exact .inl ⟨_, _, _, _, .ret hm hfn hr⟩
        | halt y w1 =>
          have hmild := (pt_results fn fr.tmps).mild hfst.symm
          have hg : ∃ o, stepG P true { frame := fr, callers := x :: l ++ [shut P], status := .running, dying := none } wl = .ended o w1 (seen P fr.fn es) := by
            cases y <;> (try exact hmild.elim) <;> exact ⟨_, by
              unfold stepG
              simp only [hm]
              unfold unwind
              simp only [hf.defers, hm, hfn, hr]
              simp [GStep.after]
              rfl⟩
          obtain ⟨o, hg⟩ := hg
          exact .inr (.inr ⟨o, w1, step_end hg⟩)
theorem reach_of_runP (HB : BodP P FS) (HN : NoEarly P) {Post : Frame → World → Prop} {frE : Frame} {wE : World} (hE : frE.mode = .returning) (hP : Post frE wE) : ∀ (n : Nat) {fr : Frame} {l : List Frame} {w : World}, GoodP P FS fr l → runN P n (L P fr l w) = .next (L P frE [] wE) → ReachP P Post fr l w
  | 0, fr, l, w, hg, h => by
    simp only [runN, L, lone, Stepped.next.injEq, Machine.mk.injEq] at h
    obtain ⟨h1, h2, _⟩ := h
    simp at h2
    obtain ⟨rfl, rfl⟩ := h2
    subst h1
    exact .done hE hP
  | n + 1, fr, l, w, hg, h => by
    obtain ⟨hm, hf, hl⟩ := id hg
    by_cases hend : fr.mode = .returning → l ≠ []
    · rcases lone_casesP HB HN (wl := w) hf hm hend with ⟨fr1, cs1, w1, es, hs⟩ | ⟨ch, w1, hs⟩ | ⟨o, w1, hs⟩
      · obtain ⟨l1, rfl, hg1⟩ := hg.step HB hend hs
        have := step_go (hs.goes (main := true) (st := .running) (off := none) hf)
        simp only [runN, this] at h
        exact .step hend hs (reach_of_runP HB HN hE hP n hg1 h)
      · simp only [runN, hs] at h
        exact absurd h (no_way_back n l { fr with mode := .panicking ch } ch w1 (bareP hl) ⟨hf.defers, hf.fn⟩ rfl frE wE hE)
      · simp only [runN, hs] at h
        cases h
    · simp only [Classical.not_imp, Classical.not_not] at hend
      obtain ⟨hr, rfl⟩ := hend
      exfalso
      obtain ⟨fn, hfn⟩ := hf.fn
      have hfst := Sem.runT_fst P (results fn fr.tmps) w #[]
      cases hres : (results fn fr.tmps).runT P w #[] with
      | mk r es =>
        rw [hres] at hfst
        simp only at hfst
        cases r with
        | ok v w1 =>
          have := step_go (P := P) (step_retE (main := true) (st := .running) (off := none) (c := shut P) (cs := []) (w := w) hr hf.defers hf.kind hfn hres)
          simp only [runN, L, List.nil_append, this] at h
          exact not_behind n frE wE h
        | halt y w1 =>
          have hmild := (pt_results fn fr.tmps).mild hfst.symm
          have hg : ∃ o, stepG P true { frame := fr, callers := [shut P], status := .running, dying := none } w = .ended o w1 (seen P fr.fn es) := by
            cases y <;> (try exact hmild.elim) <;> exact ⟨_, by
              unfold stepG
              simp only [hr]
              unfold unwind
              simp only [hf.defers, hr, hfn, hres]
              simp [GStep.after]
              rfl⟩
          obtain ⟨o, hg⟩ := hg
          have := step_end hg
          simp only [runN, L, List.nil_append, this] at h
          cases h
theorem reach_onP (HB : BodP P FS) {Post : Frame → World → Prop} (hT : ∀ fr w T, Post fr w → Post fr (on w T)) {fr : Frame} {l : List Frame} {w : World} (h : ReachP P Post fr l w) : GoodP P FS fr l → ∀ T, (∀ k q, w.drawn ≤ k → T k q = w.tape k q) → ReachP P Post fr l (on w T) := by
  induction h with
  | done hm hp => exact fun _ T _ => .done hm (hT _ _ T hp)
  | @step fr fr1 l l1 w w1 es hend hs _ ih =>
    intro hg T hk
    obtain ⟨h1, h2, h3⟩ := step1_onP HB hg.2.1 hs
    obtain ⟨es', hs'⟩ := h3 T fun i q a _ => hk i q a
    obtain ⟨l2, e, hg1⟩ := hg.step HB hend hs
    have : l1 = l2 := by simpa using e
    subst this
    exact .step hend hs' (ih hg1 T fun k q a => by rw [h2]; exact hk k q (Nat.le_trans h1 a))

/-- A state whose every run ends, and which is yet no tree. -/
def LostP (P : Program) (FS : FuncId → Prop) (Post : Frame → World → Prop) (s : Cfg) : Prop := GoodP P FS s.fr s.l ∧ (∀ T, ReachP P Post s.fr s.l (on s.w T)) ∧ ¬EndsP P Post s.fr s.l s.w
theorem LostP.next (HB : BodP P FS) {Post : Frame → World → Prop} (hT : ∀ fr w T, Post fr w → Post fr (on w T)) {s : Cfg} (h : LostP P FS Post s) : ∃ T s1, LinkP P s T s1 ∧ LostP P FS Post s1 := by
  obtain ⟨hg, hr, hn⟩ := h
  have far : s.fr.mode = .returning → s.l ≠ [] := by
    intro hm hl
    apply hn
    have := hr s.w.tape
    have e : on s.w s.w.tape = s.w := rfl
    rw [e] at this
    rw [hl] at this ⊢
    cases this with
    | done h1 h2 => exact .done h1 h2
    | step h1 => exact absurd rfl (h1 hm)
  have some : ∀ T, ∃ fr1 l1 w1 es, StepP P s.fr (s.l ++ [shut P]) (on s.w T) fr1 (l1 ++ [shut P]) w1 es := by
    intro T
    have := hr T
    generalize hl : s.l = l at this far ⊢
    cases this with
    | done h1 h2 => exact absurd rfl (far h1)
    | step h1 h2 h3 => exact ⟨_, _, _, _, h2⟩
  have : ∃ T fr1 l1 w1 es, StepP P s.fr (s.l ++ [shut P]) (on s.w T) fr1 (l1 ++ [shut P]) w1 es ∧ ¬EndsP P Post fr1 l1 w1 := by
    apply Classical.byContradiction
    intro hno
    apply hn
    refine .step far some fun T fr1 l1 w1 es hs => ?_
    apply Classical.byContradiction
    intro hne
    exact hno ⟨T, fr1, l1, w1, es, hs, hne⟩
  obtain ⟨T, fr1, l1, w1, es, hs, hne⟩ := this
  obtain ⟨l2, e, hg1⟩ := hg.step HB far hs
  have : l1 = l2 := by simpa using e
  subst this
  refine ⟨T, ⟨fr1, l1, w1⟩, ⟨far, es, hs⟩, hg1, fun T' => ?_, hne⟩
  obtain ⟨h1, h2, h3⟩ := step1_onP HB hg.2.1 hs
  obtain ⟨es', hs'⟩ := h3 (fun k q => if k < w1.drawn then T k q else T' k q) fun i q _ b => by simp only [b, if_true]; rfl
  rw [on_on] at hs'
  have hr' := hr (fun k q => if k < w1.drawn then T k q else T' k q)
  have : ReachP P Post fr1 l1 (on w1 fun k q => if k < w1.drawn then T k q else T' k q) := by
    generalize hl : s.l = l at hr' far hs'
    cases hr' with
    | done k1 k2 => exact absurd rfl (far k1)
    | @step _ fr2 _ l2 _ w2 es2 k1 k2 k3 =>
      obtain ⟨e1, e2, e3⟩ := StepP.same hg.2.1 hs' k2
      have e2 : l2 = l1 := by simpa using e2
      subst e1 e2 e3
      exact k3
  have := reach_onP HB hT this hg1 T' fun k q a => by
    show T' k q = if k < w1.drawn then T k q else T' k q
    rw [if_neg (by have : w1.drawn ≤ k := a; omega)]
  exact this
theorem ends_of_reachP (HB : BodP P FS) {Post : Frame → World → Prop} (hT : ∀ fr w T, Post fr w → Post fr (on w T)) {fr : Frame} {l : List Frame} {w : World} (hg : GoodP P FS fr l) (hr : ∀ T, ReachP P Post fr l (on w T)) : EndsP P Post fr l w := by
  apply Classical.byContradiction
  intro hn
  have s0 : { s : Cfg // LostP P FS Post s } := ⟨⟨fr, l, w⟩, hg, hr, hn⟩
  have nx : ∀ s : { s : Cfg // LostP P FS Post s }, ∃ x : (Nat → Question → Nat) × { s : Cfg // LostP P FS Post s }, LinkP P s.1 x.1 x.2.1 := fun s => by
    obtain ⟨T, s1, h1, h2⟩ := s.2.next HB hT
    exact ⟨(T, ⟨s1, h2⟩), h1⟩
  let f : Nat → { s : Cfg // LostP P FS Post s } := fun n => Nat.rec s0 (fun _ s => (Classical.choose (nx s)).2) n
  let tp : Nat → Nat → Question → Nat := fun n => (Classical.choose (nx (f n))).1
  have lk : ∀ n, LinkP P (f n).1 (tp n) (f (n + 1)).1 := fun n => Classical.choose_spec (nx (f n))
  have mono1 : ∀ n, (f n).1.w.drawn ≤ (f (n + 1)).1.w.drawn := by
    intro n
    obtain ⟨es, hs⟩ := (lk n).step
    exact (step1_onP HB (f n).2.1.2.1 hs).1
  have mono : ∀ d n, (f n).1.w.drawn ≤ (f (n + d)).1.w.drawn := by
    intro d
    induction d with
    | zero => exact fun n => Nat.le_refl _
    | succ d ih => exact fun n => Nat.le_trans (ih n) (mono1 (n + d))
  let at_ : Nat → Nat → Prop := fun k i => (f i).1.w.drawn ≤ k ∧ k < (f (i + 1)).1.w.drawn
  have uniq : ∀ k i j, at_ k i → at_ k j → i = j := by
    intro k i j hi hj
    rcases Nat.lt_trichotomy i j with h | h | h
    · have := mono (j - (i + 1)) (i + 1)
      rw [show i + 1 + (j - (i + 1)) = j by omega] at this
      have h1 := hi.2
      have h2 := hj.1
      omega
    · exact h
    · have := mono (i - (j + 1)) (j + 1)
      rw [show j + 1 + (i - (j + 1)) = i by omega] at this
      have h1 := hj.2
      have h2 := hi.1
      omega
  let T : Nat → Question → Nat := fun k q => open Classical in if h : ∃ i, at_ k i then tp (Classical.choose h) k q else 0
  have agree : ∀ i k q, at_ k i → T k q = tp i k q := by
    intro i k q h
    have h' : ∃ i, at_ k i := ⟨i, h⟩
    have e : T k q = tp (Classical.choose h') k q := dif_pos h'
    rw [e, uniq k _ i (Classical.choose_spec h') h]
  have lkT : ∀ n, ∃ es, StepP P (f n).1.fr ((f n).1.l ++ [shut P]) (on (f n).1.w T) (f (n + 1)).1.fr ((f (n + 1)).1.l ++ [shut P]) (on (f (n + 1)).1.w T) es := by
    intro n
    obtain ⟨es, hs⟩ := (lk n).step
    exact (step1_onP HB (f n).2.1.2.1 hs).2.2 T fun k q a b => agree n k q ⟨a, b⟩
  have never : ∀ {fr : Frame} {l : List Frame} {w : World}, ReachP P Post fr l w → ∀ n, fr = (f n).1.fr → l = (f n).1.l → w = on (f n).1.w T → False := by
    intro fr l w h
    induction h with
    | done h1 h2 => intro n e1 e2 e3; exact (lk n).far (by rw [← e1]; exact h1) e2.symm
    | @step fr fr1 l l1 w w1 es hend hs _ ih =>
      intro n e1 e2 e3
      subst e1 e2 e3
      obtain ⟨es', hs'⟩ := lkT n
      obtain ⟨k1, k2, k3⟩ := StepP.same (f n).2.1.2.1 hs' hs
      exact ih (n + 1) k1 (by simpa using k2) k3
  exact never (s0.2.2.1 T) 0 rfl rfl rfl

/-- A contract that holds on every tape gives the tree. -/
theorem ends_of_callsP (HB : BodP P FS) (HN : NoEarly P) {f : FuncId} (hf : FS f) {fn : Func} {c : Code} (hfn : P.funcs[f]? = some fn) (hb : fn.body = some c) {xs : Array Value} {w : World} {Q : Value → World → Prop} (hQ : ∀ v w T, Q v w → Q v (on w T))
    (h : ∀ T, Calls P f xs (on w T) fun e w' => ∃ v, e = .returned v ∧ Q v w') : EndsP P (PostV P f Q) (Frame.enter P f xs .normal) [] w := by
  have hg : GoodP P FS (Frame.enter P f xs .normal) [] := ⟨.inl rfl, FP.enter HB hf hfn hb xs, fun x hx => by simp at hx⟩
  have hPost : ∀ fr w T, PostV P f Q fr w → PostV P f Q fr (on w T) := by
    rintro fr w T ⟨h1, fn', v, h2, h3, h4⟩
    refine ⟨h1, fn', v, h2, ?_, hQ _ _ T h4⟩
    have hr : (results fn' fr.tmps).runT P w #[] = (.ok v w, ((results fn' fr.tmps).runT P w #[]).2) := by
      have := Sem.runT_fst P (results fn' fr.tmps) w #[]
      rw [h3] at this
      exact Prod.ext this rfl
    have g := ((pt_results fn' fr.tmps).run_mv hr).run T w.drawn fun i q hi => by omega
    rw [Nat.sub_self, Nat.add_zero] at g
    have e := Sem.runT_fst P (results fn' fr.tmps) (mv w T w.drawn) #[]
    rw [g] at e
    exact e.symm
  refine ends_of_reachP HB hPost hg fun T => ?_
  obtain ⟨e, w', fr, ⟨v, rfl, hv⟩, hc, hfn', hl⟩ := h T [shut P]
  obtain ⟨n, hn⟩ : Steps P (lone (Frame.enter P f xs .normal) [shut P] (on w T)) (lone fr [shut P] w') := hc
  obtain ⟨hm, _, _, fn', hfn2, hr⟩ := hl
  exact reach_of_runP HB HN hm (Post := PostV P f Q) ⟨hfn', fn', v, by rw [← hfn']; exact hfn2, hr, hv⟩ n hg hn
end
end Go.Proofs.Ytgeoffpcmkofkaa
