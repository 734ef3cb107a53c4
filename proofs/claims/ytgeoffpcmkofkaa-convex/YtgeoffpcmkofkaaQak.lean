/- Kp; Kq; Kr; Ks; Kt; Ku; Kv; Kw: texts laid into one. -/
import Derived.Test.YtgeoffpcmkofkaaQaj
import Derived.Test.YtgeoffpcmkofkaaProg
/- Lone runs that end on every tape end as a tree: whatever is drawn, step by step. -/
namespace Go.Proofs.Ytgeoffpcmkofkaa
open Go

section
variable (G : Nat) (FS : FuncId → Prop) (Sh : Nat → Prop) (P : Program)
/-- A lone state that has a match. -/
def Good (fr : Frame) (l : List Frame) (w : World) : Prop := (fr.mode = .run ∨ fr.mode = .returning) ∧ ∃ B fr' l' w', FR G FS P B fr fr' ∧ FRs G FS P B l l' ∧ WR G FS Sh B w w'
end
section
variable {G : Nat} {FS : FuncId → Prop} {Sh : Nat → Prop} {P : Program} {B : BR}
theorem WR.on {wl w : World} (h : WR G FS Sh B wl w) (T : Nat → Question → Nat) : WR G FS Sh B (on wl T) (on w fun i q => T (wl.drawn + (i - w.drawn)) q) := by
  refine ⟨h.blk, h.fn, h.inj, h.low, h.glob, fun i q => ?_⟩
  show T (wl.drawn + i) q = T (wl.drawn + (w.drawn + i - w.drawn)) q
  rw [Nat.add_sub_cancel_left]
theorem Good.on {fr : Frame} {l : List Frame} {w : World} (h : Good G FS Sh P fr l w) (T : Nat → Question → Nat) : Good G FS Sh P fr l (on w T) := by
  obtain ⟨hm, B, fr', l', w', h1, h2, h3⟩ := h
  exact ⟨hm, B, fr', l', _, h1, h2, h3.on T⟩
theorem Good.step (H : OpenOK G FS P) (HB : BodiesOK G FS P) {fr fr1 : Frame} {l cs1 : List Frame} {w w1 : World} {es : Array Event} (h : Good G FS Sh P fr l w) (hend : fr.mode = .returning → l ≠ []) (hs : Step1 P fr (l ++ [shut P]) w fr1 cs1 w1 es) : ∃ l1, cs1 = l1 ++ [shut P] ∧ Good G FS Sh P fr1 l1 w1 := by
  obtain ⟨hm, B, fr', l', w', h1, h2, h3⟩ := h
  obtain ⟨B1, fr1', l1, l1', w1', es', k⟩ := Step1.sim H HB (base := []) h1 h2 h3 hs hend
  exact ⟨l1, k.cs1, Step1.mode h2 hs, B1, fr1', l1', w1', k.fr, k.frs, k.wr⟩
theorem on_on (w : World) (T T' : Nat → Question → Nat) : on (on w T) T' = on w T' := rfl
theorem Step1.on (H : OpenOK G FS P) (HB : BodiesOK G FS P) {fr fr1 : Frame} {l cs1 : List Frame} {w w1 : World} {es : Array Event} (h : Good G FS Sh P fr l w) (hs : Step1 P fr (l ++ [shut P]) w fr1 cs1 w1 es) :
    w.drawn ≤ w1.drawn ∧ w1.tape = w.tape ∧ ∀ T, (∀ i q, w.drawn ≤ i → i < w1.drawn → T i q = w.tape i q) → ∃ es', Step1 P fr (l ++ [shut P]) (on w T) fr1 cs1 (on w1 T) es' := by
  obtain ⟨hm, B, fr', l', w', hf, hl, hw⟩ := h
  generalize hcs : l ++ [shut P] = cs at hs ⊢
  cases hs with
  | ctl hm hc => exact ⟨Nat.le_refl _, rfl, fun T _ => ⟨_, .ctl hm hc⟩⟩
  | draw hm ht hr =>
    rename_i id ops k t
    have hsem : SemR (G := G) (FS := FS) P EqQ B (choose (.order fr.fn id)) (choose (.order fr.fn id)) := .choose fun n => .pure rfl
    have g := hsem.run_on hw hr
    exact ⟨g.mono, g.same, fun T hT => ⟨_, .draw hm ht (g.run T hT)⟩⟩
  | oper hm ht ho hwant hr ha =>
    rename_i ops i rest k o n es0
    have htame : OpTame G FS P o.op := by
      have := hf.ft.todo (.inRegion ops (i :: rest)) (by rw [ht]; simp)
      refine this o ?_
      have := Array.mem_of_getElem? ho
      simpa using this
    have hsem := r_execOp H (B := B) (ρ := fr.eval) (ρ' := fr'.eval) hf.eval htame
    have hr' : (execOp fr.eval o).run P w = .ok n w1 := by rw [← Sem.runT_fst P _ w #[], hr]
    have g := hsem.run_on hw hr'
    refine ⟨g.mono, g.same, fun T hT => ?_⟩
    have h1 := g.run T hT
    rw [← Sem.runT_fst P _ _ #[]] at h1
    cases hq : (execOp fr.eval o).runT P (Ytgeoffpcmkofkaa.on w T) #[] with
    | mk r es' =>
      rw [hq] at h1
      simp only at h1
      subst h1
      exact ⟨_, .oper hm ht ho hwant hq ha⟩
  | ret hm hfn hr =>
    rename_i fn v
    refine ⟨Nat.le_refl _, rfl, fun T _ => ⟨_, .ret hm hfn ?_⟩⟩
    obtain ⟨ts, hts⟩ := tmps_of fn.results.toList (HB.res _ hf.ft.fn fn hfn)
    have e := results_tmps hts fr.tmps
    rw [e] at hr ⊢
    have hv : resOf (ts.map fun t => fr.tmps.getD t undef) = v := by
      have := congrArg Prod.fst hr
      simp only [pure, Sem.runT] at this
      injection this
    rw [hv]
    rfl
/-- A run of such steps to the end. -/
inductive Reach (P : Program) (Post : Frame → World → Prop) : Frame → List Frame → World → Prop
  | done {fr : Frame} {w : World} : fr.mode = .returning → Post fr w → Reach P Post fr [] w
  | step {fr fr1 : Frame} {l l1 : List Frame} {w w1 : World} {es : Array Event} : (fr.mode = .returning → l ≠ []) → Step1 P fr (l ++ [shut P]) w fr1 (l1 ++ [shut P]) w1 es → Reach P Post fr1 l1 w1 → Reach P Post fr l w
/-- Whatever is drawn. -/
inductive Ends (P : Program) (Post : Frame → World → Prop) : Frame → List Frame → World → Prop
  | done {fr : Frame} {w : World} : fr.mode = .returning → Post fr w → Ends P Post fr [] w
  | step {fr : Frame} {l : List Frame} {w : World} : (fr.mode = .returning → l ≠ []) → (∀ T, ∃ fr1 l1 w1 es, Step1 P fr (l ++ [shut P]) (on w T) fr1 (l1 ++ [shut P]) w1 es) → (∀ T fr1 l1 w1 es, Step1 P fr (l ++ [shut P]) (on w T) fr1 (l1 ++ [shut P]) w1 es → Ends P Post fr1 l1 w1) → Ends P Post fr l w
theorem FRs.bare (HB : BodiesOK G FS P) : ∀ {l l' : List Frame}, FRs G FS P B l l' → ∀ x ∈ l, Bare P x ∧ x.mode = .run
  | _, _, .nil, x, hx => by simp at hx
  | _, _, .cons h1 h2 _ h4, x, hx => by
    rcases List.mem_cons.1 hx with rfl | hx
    · exact ⟨⟨h1.ft.defers, HB.there _ h1.ft.fn⟩, h2⟩
    · exact h4.bare HB x hx
theorem not_behind {v : Value} {w : World} : ∀ (n : Nat) (fr1 : Frame) (w1 : World), runN P n (lone ((shut P).finish v) [] w) ≠ .next (L P fr1 [] w1)
  | 0, fr1, w1, h => by
    simp only [runN, L, lone, Stepped.next.injEq, Machine.mk.injEq] at h
    have := h.2.1
    simp at this
  | n + 1, fr1, w1, h => by
    have : ∃ o, step P (lone ((shut P).finish v) [] w) = .ended o w := by
      refine ⟨.stuck ("no extern row " ++ "fmt's door, shut") (((shut P).finish v).pos P), step_end (es := #[]) ?_⟩
      unfold stepG
      simp only [Frame.finish, shut]
      unfold stepG.exec
      simp only [shut_row]
      rfl
    obtain ⟨o, this⟩ := this
    simp only [runN, this] at h
    cases h
theorem reach_of_run (H : OpenOK G FS P) (HB : BodiesOK G FS P) (HN : NoEarly P) {Post : Frame → World → Prop} {frE : Frame} {wE : World} (hE : frE.mode = .returning) (hP : Post frE wE) : ∀ (n : Nat) {fr : Frame} {l : List Frame} {w : World}, Good G FS Sh P fr l w → runN P n (L P fr l w) = .next (L P frE [] wE) → Reach P Post fr l w
  | 0, fr, l, w, hg, h => by
    simp only [runN, L, lone, Stepped.next.injEq, Machine.mk.injEq] at h
    obtain ⟨h1, h2, _⟩ := h
    simp at h2
    obtain ⟨rfl, rfl⟩ := h2
    subst h1
    exact .done hE hP
  | n + 1, fr, l, w, hg, h => by
    obtain ⟨hm, B, fr', l', w', hf, hl, hw⟩ := id hg
    by_cases hend : fr.mode = .returning → l ≠ []
    · rcases lone_cases H HB HN hf hl hw hm hend with ⟨fr1, cs1, w1, es, hs⟩ | ⟨ch, w1, hs⟩ | ⟨o, w1, hs⟩
      · obtain ⟨l1, rfl, hg1⟩ := hg.step H HB hend hs
        have := step_go (hs.goes (main := true) (st := .running) (off := none) hf.ft)
        simp only [runN, this] at h
        exact .step hend hs (reach_of_run H HB HN hE hP n hg1 h)
      · simp only [runN, hs] at h
        exact absurd h (no_way_back n l { fr with mode := .panicking ch } ch w1 (hl.bare HB) ⟨hf.ft.defers, HB.there _ hf.ft.fn⟩ rfl frE wE hE)
      · simp only [runN, hs] at h
        cases h
    · simp only [Classical.not_imp, Classical.not_not] at hend
      obtain ⟨hr, rfl⟩ := hend
      exfalso
      obtain ⟨fn, hfn⟩ := HB.there _ hf.ft.fn
      obtain ⟨ts, hts⟩ := tmps_of fn.results.toList (HB.res _ hf.ft.fn fn hfn)
      have e := results_tmps hts fr.tmps
      have := step_go (P := P) (step_ret (main := true) (st := .running) (off := none) (c := shut P) (cs := []) (w := w) hr hf.ft.defers hf.ft.kind hfn (by rw [e]; rfl))
      simp only [runN, L, List.nil_append, this] at h
      exact not_behind n frE wE h
end
end Go.Proofs.Ytgeoffpcmkofkaa
/- The tree of a lone run: if on every tape the run ends, every branch ends. -/
namespace Go.Proofs.Ytgeoffpcmkofkaa
open Go

section
variable {G : Nat} {FS : FuncId → Prop} {Sh : Nat → Prop} {P : Program} {B : BR}
theorem Step1.same {fr a a' : Frame} {cs b b' : List Frame} {w c c' : World} {es es' : Array Event} (hf : FT G FS P fr) (h : Step1 P fr cs w a b c es) (h' : Step1 P fr cs w a' b' c' es') : a' = a ∧ b' = b ∧ c' = c := by
  have e := h.goes (main := true) (st := .running) (off := none) hf
  have e' := h'.goes (main := true) (st := .running) (off := none) hf
  rw [e] at e'
  injection e' with e1 e2 _
  injection e1 with e3 e4
  exact ⟨e3.symm, e4.symm, e2.symm⟩
theorem Good.ft {fr : Frame} {l : List Frame} {w : World} (h : Good G FS Sh P fr l w) : FT G FS P fr := by
  obtain ⟨_, _, _, _, _, h1, _⟩ := h
  exact h1.ft
theorem Reach.on (H : OpenOK G FS P) (HB : BodiesOK G FS P) {Post : Frame → World → Prop} (hT : ∀ fr w T, Post fr w → Post fr (on w T)) {fr : Frame} {l : List Frame} {w : World} (h : Reach P Post fr l w) : Good G FS Sh P fr l w → ∀ T, (∀ k q, w.drawn ≤ k → T k q = w.tape k q) → Reach P Post fr l (on w T) := by
  induction h with
  | done hm hp => exact fun _ T _ => .done hm (hT _ _ T hp)
  | @step fr fr1 l l1 w w1 es hend hs _ ih =>
    intro hg T hk
    obtain ⟨h1, h2, h3⟩ := hs.on H HB hg
    obtain ⟨es', hs'⟩ := h3 T fun i q a _ => hk i q a
    obtain ⟨l2, e, hg1⟩ := hg.step H HB hend hs
    have : l1 = l2 := by simpa using e
    subst this
    exact .step hend hs' (ih hg1 T fun k q a => by rw [h2]; exact hk k q (Nat.le_trans h1 a))

structure Cfg where
  fr : Frame
  l : List Frame
  w : World
/-- A state whose every run ends, and which is yet no tree. -/
def Lost (G : Nat) (FS : FuncId → Prop) (Sh : Nat → Prop) (P : Program) (Post : Frame → World → Prop) (s : Cfg) : Prop := Good G FS Sh P s.fr s.l s.w ∧ (∀ T, Reach P Post s.fr s.l (on s.w T)) ∧ ¬Ends P Post s.fr s.l s.w
/-- One step on, on a tape. -/
structure Link (P : Program) (s : Cfg) (T : Nat → Question → Nat) (s1 : Cfg) : Prop where
  far : s.fr.mode = .returning → s.l ≠ []
  step : ∃ es, Step1 P s.fr (s.l ++ [shut P]) (on s.w T) s1.fr (s1.l ++ [shut P]) s1.w es
theorem Lost.next (H : OpenOK G FS P) (HB : BodiesOK G FS P) {Post : Frame → World → Prop} (hT : ∀ fr w T, Post fr w → Post fr (on w T)) {s : Cfg} (h : Lost G FS Sh P Post s) : ∃ T s1, Link P s T s1 ∧ Lost G FS Sh P Post s1 := by
  obtain ⟨hg, hr, hn⟩ := h
  have far : s.fr.mode = .returning → s.l ≠ [] := by
    intro hm hl
    apply hn
    have := hr s.w.tape
    have e : on s.w s.w.tape = s.w := rfl
    rw [e] at this
    rw [hl] at this ⊢
    cases this with
    | done h1 h2 => exact .done h1 h2
    | step h1 => exact absurd rfl (h1 hm)
  have some : ∀ T, ∃ fr1 l1 w1 es, Step1 P s.fr (s.l ++ [shut P]) (on s.w T) fr1 (l1 ++ [shut P]) w1 es := by
    intro T
    have := hr T
    generalize hl : s.l = l at this far ⊢
    cases this with
    | done h1 h2 => exact absurd rfl (far h1)
    | step h1 h2 h3 => exact ⟨_, _, _, _, h2⟩
  have : ∃ T fr1 l1 w1 es, Step1 P s.fr (s.l ++ [shut P]) (on s.w T) fr1 (l1 ++ [shut P]) w1 es ∧ ¬Ends P Post fr1 l1 w1 := by
    apply Classical.byContradiction
    intro hno
    apply hn
    refine .step far some fun T fr1 l1 w1 es hs => ?_
    apply Classical.byContradiction
    intro hne
    exact hno ⟨T, fr1, l1, w1, es, hs, hne⟩
  obtain ⟨T, fr1, l1, w1, es, hs, hne⟩ := this
  have hgT := hg.on T
  obtain ⟨l2, e, hg1⟩ := hgT.step H HB far hs
  have : l1 = l2 := by simpa using e
  subst this
  refine ⟨T, ⟨fr1, l1, w1⟩, ⟨far, es, hs⟩, hg1, fun T' => ?_, hne⟩
  obtain ⟨h1, h2, h3⟩ := hs.on H HB hgT
  obtain ⟨es', hs'⟩ := h3 (fun k q => if k < w1.drawn then T k q else T' k q) fun i q _ b => by simp only [b, if_true]; rfl
  rw [on_on] at hs'
  have hr' := hr (fun k q => if k < w1.drawn then T k q else T' k q)
  have : Reach P Post fr1 l1 (on w1 fun k q => if k < w1.drawn then T k q else T' k q) := by
    generalize hl : s.l = l at hr' far hs'
    cases hr' with
    | done k1 k2 => exact absurd rfl (far k1)
    | @step _ fr2 _ l2 _ w2 es2 k1 k2 k3 =>
      obtain ⟨e1, e2, e3⟩ := Step1.same hg.ft hs' k2
      have e2 : l2 = l1 := by simpa using e2
      subst e1 e2 e3
      exact k3
  have := this.on H HB hT (hg1.on _) T' fun k q a => by
    show T' k q = if k < w1.drawn then T k q else T' k q
    rw [if_neg (by have : w1.drawn ≤ k := a; omega)]
  exact this
theorem ends_of_reach (H : OpenOK G FS P) (HB : BodiesOK G FS P) {Post : Frame → World → Prop} (hT : ∀ fr w T, Post fr w → Post fr (on w T)) {fr : Frame} {l : List Frame} {w : World} (hg : Good G FS Sh P fr l w) (hr : ∀ T, Reach P Post fr l (on w T)) : Ends P Post fr l w := by
  apply Classical.byContradiction
  intro hn
  have s0 : { s : Cfg // Lost G FS Sh P Post s } := ⟨⟨fr, l, w⟩, hg, hr, hn⟩
  have nx : ∀ s : { s : Cfg // Lost G FS Sh P Post s }, ∃ x : (Nat → Question → Nat) × { s : Cfg // Lost G FS Sh P Post s }, Link P s.1 x.1 x.2.1 := fun s => by
    obtain ⟨T, s1, h1, h2⟩ := s.2.next H HB hT
    exact ⟨(T, ⟨s1, h2⟩), h1⟩
  let f : Nat → { s : Cfg // Lost G FS Sh P Post s } := fun n => Nat.rec s0 (fun _ s => (Classical.choose (nx s)).2) n
  let tp : Nat → Nat → Question → Nat := fun n => (Classical.choose (nx (f n))).1
  have lk : ∀ n, Link P (f n).1 (tp n) (f (n + 1)).1 := fun n => Classical.choose_spec (nx (f n))
  have mono1 : ∀ n, (f n).1.w.drawn ≤ (f (n + 1)).1.w.drawn := by
    intro n
    obtain ⟨es, hs⟩ := (lk n).step
    exact (hs.on H HB ((f n).2.1.on _)).1
  have mono : ∀ d n, (f n).1.w.drawn ≤ (f (n + d)).1.w.drawn := by
    intro d
    induction d with
    | zero => exact fun n => Nat.le_refl _
    | succ d ih => exact fun n => Nat.le_trans (ih n) (mono1 (n + d))
  let at_ : Nat → Nat → Prop := fun k i => (f i).1.w.drawn ≤ k ∧ k < (f (i + 1)).1.w.drawn
  have uniq : ∀ k i j, at_ k i → at_ k j → i = j := by
    intro k i j hi hj
    rcases Nat.lt_trichotomy i j with h | h | h
    · have := mono (j - (i + 1)) (i + 1)
      rw [show i + 1 + (j - (i + 1)) = j by omega] at this
      have h1 := hi.2
      have h2 := hj.1
      omega
    · exact h
    · have := mono (i - (j + 1)) (j + 1)
      rw [show j + 1 + (i - (j + 1)) = i by omega] at this
      have h1 := hj.2
      have h2 := hi.1
      omega
  let T : Nat → Question → Nat := fun k q => open Classical in if h : ∃ i, at_ k i then tp (Classical.choose h) k q else 0
  have agree : ∀ i k q, at_ k i → T k q = tp i k q := by
    intro i k q h
    have h' : ∃ i, at_ k i := ⟨i, h⟩
    have e : T k q = tp (Classical.choose h') k q := dif_pos h'
    rw [e, uniq k _ i (Classical.choose_spec h') h]
  have lkT : ∀ n, ∃ es, Step1 P (f n).1.fr ((f n).1.l ++ [shut P]) (on (f n).1.w T) (f (n + 1)).1.fr ((f (n + 1)).1.l ++ [shut P]) (on (f (n + 1)).1.w T) es := by
    intro n
    obtain ⟨es, hs⟩ := (lk n).step
    exact (hs.on H HB ((f n).2.1.on _)).2.2 T fun k q a b => agree n k q ⟨a, b⟩
  have never : ∀ {fr : Frame} {l : List Frame} {w : World}, Reach P Post fr l w → ∀ n, fr = (f n).1.fr → l = (f n).1.l → w = on (f n).1.w T → False := by
    intro fr l w h
    induction h with
    | done h1 h2 => intro n e1 e2 e3; exact (lk n).far (by rw [← e1]; exact h1) e2.symm
    | @step fr fr1 l l1 w w1 es hend hs _ ih =>
      intro n e1 e2 e3
      subst e1 e2 e3
      obtain ⟨es', hs'⟩ := lkT n
      obtain ⟨k1, k2, k3⟩ := Step1.same (f n).2.1.ft hs' hs
      exact ih (n + 1) k1 (by simpa using k2) k3
  exact never (s0.2.2.1 T) 0 rfl rfl rfl
end
end Go.Proofs.Ytgeoffpcmkofkaa
/- A contract that holds on every tape gives the tree. -/
namespace Go.Proofs.Ytgeoffpcmkofkaa
open Go

section
variable {G : Nat} {FS : FuncId → Prop} {Sh : Nat → Prop} {P : Program} {B : BR}
/-- What is left at the end: the frame's results are a value of which Q speaks. -/
def PostV (P : Program) (f : FuncId) (Q : Value → World → Prop) (fr : Frame) (w : World) : Prop := fr.fn = f ∧ ∃ fn v, P.funcs[f]? = some fn ∧ (results fn fr.tmps).run P w = .ok v w ∧ Q v w
theorem postV_on (HB : BodiesOK G FS P) {f : FuncId} (hf : FS f) {Q : Value → World → Prop} (hQ : ∀ v w T, Q v w → Q v (on w T)) (fr : Frame) (w : World) (T : Nat → Question → Nat) (h : PostV P f Q fr w) : PostV P f Q fr (on w T) := by
  obtain ⟨h1, fn, v, h2, h3, h4⟩ := h
  refine ⟨h1, fn, v, h2, ?_, hQ _ _ T h4⟩
  obtain ⟨ts, hts⟩ := tmps_of fn.results.toList (HB.res f hf fn h2)
  have e := results_tmps hts fr.tmps
  rw [e] at h3 ⊢
  simp only [pure, Sem.run] at h3 ⊢
  injection h3 with h3 _
  rw [h3]
theorem good_enter (HB : BodiesOK G FS P) {f : FuncId} (hf : FS f) {vas vas' : Array Value} (ha : VRs G FS B vas.toList vas'.toList) {wl w : World} (hw : WR G FS Sh B wl w) : Good G FS Sh P (Frame.enter P f vas .normal) [] wl := ⟨.inl rfl, B, _, [], w, FR.enter HB hf ha, .nil, hw⟩
theorem ends_of_calls (H : OpenOK G FS P) (HB : BodiesOK G FS P) (HN : NoEarly P) {f : FuncId} (hf : FS f) {vas vas' : Array Value} (ha : VRs G FS B vas.toList vas'.toList) {wl w : World} (hw : WR G FS Sh B wl w) {Q : Value → World → Prop} (hQ : ∀ v w T, Q v w → Q v (on w T))
    (h : ∀ T, Calls P f vas (on wl T) fun e w' => ∃ v, e = .returned v ∧ Q v w') : Ends P (PostV P f Q) (Frame.enter P f vas .normal) [] wl := by
  have hg := good_enter HB hf ha hw
  refine ends_of_reach H HB (postV_on HB hf hQ) hg fun T => ?_
  obtain ⟨e, w', fr, ⟨v, rfl, hv⟩, hc, hfn, hl⟩ := h T [shut P]
  obtain ⟨n, hn⟩ : Steps P (lone (Frame.enter P f vas .normal) [shut P] (on wl T)) (lone fr [shut P] w') := hc
  obtain ⟨hm, _, _, fn, hfn', hr⟩ := hl
  exact reach_of_run H HB HN hm (Post := PostV P f Q) ⟨hfn, fn, v, by rw [← hfn]; exact hfn', hr, hv⟩ n (hg.on T) hn
end
end Go.Proofs.Ytgeoffpcmkofkaa
/- Checks for tame code. -/
namespace Go.Proofs.Ytgeoffpcmkofkaa
open Go

def atomB : Value → Bool
  | .bool _ | .int _ _ | .float _ _ | .string _ | .pointer none | .slice none _ _ | .nilFunc | .nilIface | .map none | .chan none => true
  | _ => false
def flatB : Value → Bool
  | .agg cs => cs.toList.all atomB
  | .tuple cs => cs.toList.all atomB
  | v => atomB v
section
variable {G : Nat} {FS : FuncId → Prop} {B : BR}
theorem atom_sound {v : Value} (h : atomB v = true) : VR G FS B v v := by
  unfold atomB at h
  split at h
  · exact .bool _
  · exact .int _ _
  · exact .float _ _
  · exact .string _
  · exact .ptrNil
  · exact .sliceNil _ _
  · exact .nilFunc
  · exact .nilIface
  · exact .mapNil
  · exact .chanNil
  · cases h
theorem atoms_sound : ∀ {l : List Value}, l.all atomB = true → VRs G FS B l l
  | [], _ => .nil
  | v :: l, h => by
    simp only [List.all_cons, Bool.and_eq_true] at h
    exact .cons (atom_sound h.1) (atoms_sound h.2)
theorem flat_sound {v : Value} (h : flatB v = true) : VR G FS B v v := by
  unfold flatB at h
  split at h
  · exact .agg (atoms_sound h)
  · exact .tuple (atoms_sound h)
  · exact atom_sound h
end

section
variable (P : Program) (fs : FuncId → Bool)
def operB : Operand → Bool
  | .tmp _ => true
  | .const v => flatB v
  | .global _ => false
  | .func f => fs f
def optB : Option Operand → Bool
  | none => true
  | some x => operB fs x
def ztB (t : TypeId) : Bool := match P.info? t with
  | none => true
  | some i => match i.zero with
    | none => true
    | some v => flatB v
def szB (t : TypeId) : Bool := match P.underlying t with
  | some (.slice e) => ztB P e
  | _ => true
def numB (t : TypeId) : Bool := match P.underlying t with
  | some (.int _) => true
  | some (.float _) => true
  | _ => false
def plainB (t : TypeId) : Bool := match P.info? t with
  | none => true
  | some i => match i.desc with
    | .named n _ => n != "sync.copyChecker"
    | _ => true
def eqSB (t : TypeId) : Bool := match P.underlying t with
  | some (.int _) => plainB P t
  | some (.float _) => true
  | _ => false
def eqTB (t : TypeId) : Bool := match P.underlying t with
  | some (.int _) => plainB P t
  | some (.float _) => true
  | some (.slice _) => true
  | some (.struct fs) => match fs with
    | ⟨[f, g]⟩ => eqSB P f.type && eqSB P g.type
    | _ => false
  | _ => false
def eqOp : BinOp → Bool
  | .eql | .neq => true
  | _ => false
def fieldB (s : TypeId) (f : Nat) : Bool := match P.underlying s with
  | some (.struct fields) => match fields[f]? with
    | some fl => match P.info? fl.type with
      | some i => i.size != 0
      | none => false
    | none => true
  | _ => true
def argB (ts : Array TypeId) : Bool := match ts[0]? with
  | some t => szB P t
  | none => true
def calleeB (c : Call) : Bool := match c.callee with
  | .value f => operB fs f
  | .builtin .append => argB P c.argTypes
  | .builtin .clear => argB P c.argTypes
  | .builtin .cap => true
  | .builtin .len => true
  | _ => false
def opB : Op → Bool
  | .move x | .assign x | .box _ x | .load _ x | .nilCheck x | .unOp _ _ x | .makeInterface _ x | .extract x _ | .panic x => operB fs x
  | .pick c a b => operB fs c && operB fs a && operB fs b
  | .alloc e => ztB P e
  | .buildSlice t _ ps => szB P t && ps.toList.all fun p => operB fs p.2
  | .makeSlice t a x => szB P t && operB fs a && operB fs x
  | .store _ a x | .indexAddr _ a x | .index _ a x => operB fs a && operB fs x
  | .binOp op t x y _ => operB fs x && operB fs y && (!eqOp op || (eqTB P t && !P.eqGuardType P.depth t))
  | .convert s d x => operB fs x && numB P s && numB P d
  | .slice t x lo hi mx => operB fs x && optB fs lo && optB fs hi && mx.isNone && (match P.underlying t with | some (.slice _) => true | _ => false)
  | .fieldAddr s x f => operB fs x && fieldB P s f
  | .call c => c.args.toList.all (operB fs) && calleeB P fs c
  | _ => false
def codeB : Code → Bool
  | .region _ ops _ => ops.toList.all fun o => opB P fs o.op
  | .seq a b => codeB a && codeB b
  | .cond c a b => operB fs c && codeB a && codeB b
  | .block _ b | .loop b | .scope b => codeB b
  | .rangeFunc .. => false
  | _ => true
end

section
variable {G : Nat} {P : Program} {fs : FuncId → Bool}
abbrev FSof (fs : FuncId → Bool) : FuncId → Prop := fun f => fs f = true
theorem oper_sound {x : Operand} (h : operB fs x = true) : OperOK G (FSof fs) x := by
  cases x with
  | tmp t => trivial
  | const v => exact fun B => flat_sound h
  | global g => cases h
  | func f => exact h
theorem opt_sound {x : Option Operand} (h : optB fs x = true) : OptOK G (FSof fs) x := by
  intro y hy
  subst hy
  exact oper_sound h
theorem zt_sound {t : TypeId} (h : ztB P t = true) : ZT G (FSof fs) P t := by
  intro B i v hi hv
  simp only [ztB, hi, hv] at h
  exact flat_sound h
theorem sz_sound {t : TypeId} (h : szB P t = true) : SZ G (FSof fs) P t := by
  intro e he
  simp only [szB, he] at h
  exact zt_sound h
theorem eqS_sound {t : TypeId} (h : eqSB P t = true) : EqS P t := by
  unfold eqSB at h
  split at h
  · rename_i k hk
    refine .int k hk fun i u hi hd => ?_
    simp [plainB, hi, hd] at h
  · rename_i k hk; exact .float k hk
  · cases h
theorem num_sound {t : TypeId} (h : numB P t = true) : NumT P t := by
  unfold numB at h
  split at h
  · rename_i k hk; exact ⟨_, hk, .inl ⟨_, rfl⟩⟩
  · rename_i k hk; exact ⟨_, hk, .inr ⟨_, rfl⟩⟩
  · cases h
theorem eqT_sound {t : TypeId} (h : eqTB P t = true) : EqT P t := by
  unfold eqTB at h
  split at h
  · rename_i k hk
    refine .int k hk fun i u hi hd => ?_
    simp [plainB, hi, hd] at h
  · rename_i k hk; exact .float k hk
  · rename_i k hk; exact .slice k hk
  · rename_i fs' hk
    split at h
    · rename_i f g
      simp only [Bool.and_eq_true] at h
      exact .two f g hk (eqS_sound h.1) (eqS_sound h.2)
    · cases h
  · cases h
theorem field_sound {s : TypeId} {f : Nat} (h : fieldB P s f = true) : ∀ fields fl, P.underlying s = some (.struct fields) → fields[f]? = some fl → ∃ i, P.info? fl.type = some i ∧ i.size ≠ 0 := by
  intro fields fl h1 h2
  simp only [fieldB, h1, h2] at h
  split at h
  · rename_i i hi; exact ⟨i, hi, by simpa using h⟩
  · cases h
theorem arg_sound {ts : Array TypeId} (h : argB P ts = true) : ∀ t, ts[0]? = some t → SZ G (FSof fs) P t := by
  intro t ht
  simp only [argB, ht] at h
  exact sz_sound h
theorem op_sound {o : Op} (h : opB P fs o = true) : OpTame G (FSof fs) P o := by
  cases o <;> simp only [opB, Bool.and_eq_true, Bool.false_eq_true] at h <;> try exact oper_sound h
  case pick => exact ⟨oper_sound h.1.1, oper_sound h.1.2, oper_sound h.2⟩
  case alloc => exact zt_sound h
  case buildSlice => exact ⟨sz_sound h.1, fun p hp => oper_sound (List.all_eq_true.1 h.2 p hp)⟩
  case makeSlice => exact ⟨sz_sound h.1.1, oper_sound h.1.2, oper_sound h.2⟩
  case store => exact ⟨oper_sound h.1, oper_sound h.2⟩
  case indexAddr => exact ⟨oper_sound h.1, oper_sound h.2⟩
  case index => exact ⟨oper_sound h.1, oper_sound h.2⟩
  case binOp op t x y u =>
    refine ⟨oper_sound h.1.1, oper_sound h.1.2, ?_⟩
    have h2 := h.2
    by_cases he : eqOp op = true
    case neg =>
      refine .inl ⟨fun e => he (by rw [e]; rfl), fun e => he (by rw [e]; rfl)⟩
    rw [he] at h2
    cases op <;> first | (cases he; done) | skip
    all_goals
      simp only [Bool.not_true, Bool.false_or, Bool.and_eq_true, Bool.not_eq_true'] at h2
    · exact .inr ⟨.inl rfl, eqT_sound h2.1, h2.2⟩
    · exact .inr ⟨.inr rfl, eqT_sound h2.1, h2.2⟩
  case convert => exact ⟨oper_sound h.1.1, num_sound h.1.2, num_sound h.2⟩
  case slice t x lo hi mx =>
    obtain ⟨⟨⟨⟨h1, h2⟩, h3⟩, h4⟩, h5⟩ := h
    refine ⟨oper_sound h1, opt_sound h2, opt_sound h3, by simpa using h4, ?_⟩
    split at h5
    · rename_i e he; exact ⟨e, he⟩
    · cases h5
  case fieldAddr => exact ⟨oper_sound h.1, field_sound h.2⟩
  case call c =>
    refine ⟨fun o ho => oper_sound (List.all_eq_true.1 h.1 o ho), ?_⟩
    have h2 := h.2
    unfold calleeB at h2
    split at h2
    · rename_i f hf; rw [hf]; exact oper_sound h2
    · rename_i hf; rw [hf]; exact .inl ⟨rfl, arg_sound h2⟩
    · rename_i hf; rw [hf]; exact .inr (.inr (.inr ⟨rfl, arg_sound h2⟩))
    · rename_i hf; rw [hf]; exact .inr (.inl rfl)
    · rename_i hf; rw [hf]; exact .inr (.inr (.inl rfl))
    · cases h2
theorem code_sound : ∀ {c : Code}, codeB P fs c = true → CodeT G (FSof fs) P c
  | .region _ ops _, h => fun o ho => op_sound (List.all_eq_true.1 (by simpa only [codeB] using h) o ho)
  | .seq a b, h => by
    simp only [codeB, Bool.and_eq_true] at h
    exact ⟨code_sound h.1, code_sound h.2⟩
  | .cond c a b, h => by
    simp only [codeB, Bool.and_eq_true] at h
    exact ⟨oper_sound h.1.1, code_sound h.1.2, code_sound h.2⟩
  | .block _ b, h => code_sound (c := b) (by simpa only [codeB] using h)
  | .loop b, h => code_sound (c := b) (by simpa only [codeB] using h)
  | .scope b, h => code_sound (c := b) (by simpa only [codeB] using h)
  | .rangeFunc .., h => by simp [codeB] at h
  | .skip, _ | .exit _, _ | .label _, _ | .goto _, _ | .ret, _ | .refuse _, _ => trivial
end
end Go.Proofs.Ytgeoffpcmkofkaa
/- The functions that a part's goroutine reaches are tame. -/
namespace Go.Proofs.Ytgeoffpcmkofkaa
open Go
set_option maxRecDepth 100000

def fsB (f : Nat) : Bool := f == 37 || f == 56 || f == 57 || f == 70 || (72 ≤ f && f ≤ 78) || (85 ≤ f && f ≤ 89) || (92 ≤ f && f ≤ 124)
def funcB (P : Program) (fs : FuncId → Bool) (f : FuncId) : Bool := match P.funcs[f]? with
  | none => false
  | some fn => !(fn.name == "runtime.NumGoroutine") && !fn.norace && (fn.results.toList.all fun r => match r with | .tmp _ => true | _ => false) && (match fn.body with | some c => codeB P fs c | none => f == 92 || f == 93 || f == 104)
theorem funcs_ok : ((List.range 125).all fun f => !fsB f || funcB Try.prog fsB f) = true := by decide +kernel
theorem fs_lt {f : Nat} (h : fsB f = true) : f < 125 := by
  simp only [fsB, Bool.or_eq_true, Bool.and_eq_true, beq_iff_eq, decide_eq_true_eq] at h
  omega
theorem func_ok {f : FuncId} (h : fsB f = true) : funcB Try.prog fsB f = true := by
  have := List.all_eq_true.1 funcs_ok f (List.mem_range.2 (fs_lt h))
  simpa [h] using this
theorem func_there {f : FuncId} (h : fsB f = true) : ∃ fn, Try.prog.funcs[f]? = some fn := by
  have := func_ok h
  unfold funcB at this
  split at this
  · cases this
  · rename_i fn hfn; exact ⟨fn, hfn⟩
theorem func_parts {f : FuncId} (h : fsB f = true) {fn : Func} (hfn : Try.prog.funcs[f]? = some fn) : (fn.name == "runtime.NumGoroutine") = false ∧ fn.norace = false ∧ (fn.results.toList.all fun r => match r with | .tmp _ => true | _ => false) = true ∧ (∀ c, fn.body = some c → codeB Try.prog fsB c = true) ∧ (fn.body = none → f = 92 ∨ f = 93 ∨ f = 104) := by
  have := func_ok h
  unfold funcB at this
  rw [hfn] at this
  simp only [Bool.and_eq_true, Bool.not_eq_true'] at this
  obtain ⟨⟨⟨h1, h2⟩, h3⟩, h4⟩ := this
  refine ⟨h1, h2, h3, fun c hc => by rw [hc] at h4; exact h4, fun hn => ?_⟩
  rw [hn] at h4
  simpa [or_assoc] using h4
theorem bodies {G : Nat} : BodiesOK G (FSof fsB) Try.prog where
  body := fun f hf fn hfn c hc => code_sound ((func_parts hf hfn).2.2.2.1 c hc)
  res := fun f hf fn hfn r hr => by
    have := List.all_eq_true.1 (func_parts hf hfn).2.2.1 r hr
    cases r with
    | tmp t => exact ⟨t, rfl⟩
    | cell _ _ => cases this
  loud := fun f hf fn hfn => (func_parts hf hfn).2.1
  there := fun f hf => func_there hf
theorem readies_none : (Try.prog.funcs.toList.all fun f => match f.body with | none => true | some c => (readies c).isEmpty) = true := by decide +kernel
theorem noEarly : NoEarly Try.prog where
  follows := by decide +kernel
  none := fun g => by
    unfold Program.stepOf
    rw [Array.findIdx?_eq_none_iff]
    intro f hf
    have := List.all_eq_true.1 readies_none f (by simpa using hf)
    cases hb : f.body with
    | none => simp
    | some c =>
      rw [hb] at this
      have : readies c = [] := by simpa using this
      simp [this]
section
variable {G : Nat} {FS : FuncId → Prop} {P : Program} {B : BR}
theorem r_frombits {xs xs' : Array Value} (h : VRs G FS B xs.toList xs'.toList) : SemR (G := G) (FS := FS) P (VQ G FS) B (Extern.MathFloatBits.float64frombits xs) (Extern.MathFloatBits.float64frombits xs') := by
  obtain ⟨l⟩ := xs
  obtain ⟨l'⟩ := xs'
  simp only at h
  cases h with
  | nil => exact r_stuck _ _
  | cons hv ht =>
    cases ht with
    | cons h1 h2 => exact r_stuck _ _
    | nil =>
      cases hv <;> first | exact r_stuck _ _ | skip
      rename_i k n
      cases k <;> first | exact r_stuck _ _ | exact r_pure (.float _ _)
theorem r_bits {xs xs' : Array Value} (h : VRs G FS B xs.toList xs'.toList) : SemR (G := G) (FS := FS) P (VQ G FS) B (Extern.MathFloatBits.float64bits xs) (Extern.MathFloatBits.float64bits xs') := by
  obtain ⟨l⟩ := xs
  obtain ⟨l'⟩ := xs'
  simp only at h
  cases h with
  | nil => exact r_stuck _ _
  | cons hv ht =>
    cases ht with
    | cons h1 h2 => exact r_stuck _ _
    | nil =>
      cases hv <;> first | exact r_stuck _ _ | skip
      rename_i k n
      cases k <;> first | exact r_stuck _ _ | exact r_pure (.int _ _)
theorem fma_three (x y z : Nat) : SemR (G := G) (FS := FS) P (VQ G FS) B (Extern.MathFMA.fma #[.float .f64 x, .float .f64 y, .float .f64 z]) (Extern.MathFMA.fma #[.float .f64 x, .float .f64 y, .float .f64 z]) := by
  show SemR P (VQ G FS) B (match FloatKind.f64.format.fma x y z with | some r => pure (.float .f64 r) | none => _) (match FloatKind.f64.format.fma x y z with | some r => pure (.float .f64 r) | none => _)
  cases FloatKind.f64.format.fma x y z with
  | some r => exact r_pure (.float _ _)
  | none => exact .choose fun n => .pure (.float _ _)
theorem r_fma {xs xs' : Array Value} (h : VRs G FS B xs.toList xs'.toList) : SemR (G := G) (FS := FS) P (VQ G FS) B (Extern.MathFMA.fma xs) (Extern.MathFMA.fma xs') := by
  obtain ⟨l⟩ := xs
  obtain ⟨l'⟩ := xs'
  simp only at h
  cases h with
  | nil => exact r_stuck _ _
  | cons h1 h =>
  cases h with
  | nil => exact r_stuck _ _
  | cons h2 h =>
  cases h with
  | nil => exact r_stuck _ _
  | cons h3 h =>
  cases h with
  | cons _ _ => exact r_stuck _ _
  | nil =>
    cases h1 <;> first | exact r_stuck _ _ | skip
    rename_i k1 x
    cases k1 <;> first | exact r_stuck _ _ | skip
    cases h2 <;> first | exact r_stuck _ _ | skip
    rename_i k2 y
    cases k2 <;> first | exact r_stuck _ _ | skip
    cases h3 <;> first | exact r_stuck _ _ | skip
    rename_i k3 z
    cases k3 <;> first | exact r_stuck _ _ | skip
    exact fma_three x y z
end
theorem next92 : Extern.findNext Try.f92 = none := by decide +kernel
theorem next93 : Extern.findNext Try.f93 = none := by decide +kernel
theorem next104 : Extern.findNext Try.f104 = none := by decide +kernel
theorem find92 : Extern.find Try.f92 = some Extern.MathFloatBits.float64frombits := by kernel_rfl
theorem find93 : Extern.find Try.f93 = some Extern.MathFloatBits.float64bits := by kernel_rfl
theorem find104 : Extern.find Try.f104 = some Extern.MathFMA.fma := by kernel_rfl
theorem openOK {G : Nat} (hG : Try.prog.globals.size ≤ G) : OpenOK G (FSof fsB) Try.prog where
  glob := hG
  funcs := fun f hf fn hfn => by
    obtain ⟨h1, _, _, _, h5⟩ := func_parts hf hfn
    refine ⟨h1, ?_⟩
    cases hb : fn.body with
    | some c => exact .inl rfl
    | none =>
      refine .inr ⟨rfl, ?_⟩
      rcases h5 hb with rfl | rfl | rfl
      · have e : fn = Try.f92 := by rw [Try.func92] at hfn; injection hfn with e; exact e.symm
        subst e
        exact ⟨next92, _, find92, fun B xs xs' h => r_frombits h⟩
      · have e : fn = Try.f93 := by rw [Try.func93] at hfn; injection hfn with e; exact e.symm
        subst e
        exact ⟨next93, _, find93, fun B xs xs' h => r_bits h⟩
      · have e : fn = Try.f104 := by rw [Try.func104] at hfn; injection hfn with e; exact e.symm
        subst e
        exact ⟨next104, _, find104, fun B xs xs' h => r_fma h⟩
end Go.Proofs.Ytgeoffpcmkofkaa
/- In company: a goroutine that others leave alone runs to its end, whatever they do elsewhere. -/
namespace Go.Proofs.Ytgeoffpcmkofkaa
open Go

/-- What others do: blocks that are the goroutine's own (O), and those that it reads (S), stay. -/
structure Keeps (O S : Nat → Prop) (w w2 : World) : Prop where
  size : w.heap.size ≤ w2.heap.size
  block : ∀ r, O r ∨ S r → w2.heap[r]? = w.heap[r]?
  os : w2.os = w.os
  output : w2.output = w.output
/-- Its own blocks after a step: those before, and what it made. -/
def own (O : Nat → Prop) (w2 w1 : World) : Nat → Prop := fun r => O r ∨ (w2.heap.size ≤ r ∧ r < w1.heap.size)
/-- What a step of it does. -/
structure DidO (O : Nat → Prop) (w2 w1 : World) : Prop where
  os : w1.os = w2.os
  tape : w1.tape = w2.tape
  output : w1.output = w2.output
  size : w2.heap.size ≤ w1.heap.size
  kept : ∀ r, r < w2.heap.size → ¬O r → w1.heap[r]? = w2.heap[r]?
/-- What it lists. -/
def EvO (O S : Nat → Prop) (e : Event) : Prop :=
  (∃ a : Addr, e = ⟨.cell a, false, false⟩ ∧ (O a.block ∨ S a.block)) ∨ (∃ a : Addr, e = ⟨.cell a, true, false⟩ ∧ O a.block) ∨ (∃ m, e = ⟨.mark m, false, true⟩ ∧ (m = .noRoom ∨ ∃ f, m = .extern f)) ∨ (∃ r, e = ⟨.obj r, false, false⟩ ∧ O r)
inductive Runs (P : Program) (S : Nat → Prop) (base : List Frame) (Fin : (Nat → Prop) → Frame → World → Prop) : (Nat → Prop) → Frame → List Frame → World → Prop
  | done {O : Nat → Prop} {fr : Frame} {w : World} : fr.mode = .returning → (∀ w2, Keeps O S w w2 → Fin O fr w2) → Runs P S base Fin O fr base w
  | step {O : Nat → Prop} {fr : Frame} {cs : List Frame} {w : World} :
      (∀ w2, Keeps O S w w2 → ∃ fr1 cs1 w1 es, Step1 P fr cs w2 fr1 cs1 w1 es ∧ (∀ main st off, stepG P main { frame := fr, callers := cs, status := st, dying := none, offers := off } w2 = .go { frame := fr1, callers := cs1, status := .running, dying := none } w1 es) ∧ DidO O w2 w1 ∧ ∀ e ∈ es, EvO (own O w2 w1) S e) →
      (∀ w2 fr1 cs1 w1 es, Keeps O S w w2 → Step1 P fr cs w2 fr1 cs1 w1 es → Runs P S base Fin (own O w2 w1) fr1 cs1 w1) → Runs P S base Fin O fr cs w

section
variable {G : Nat} {FS : FuncId → Prop} {Sh : Nat → Prop} {P : Program} {B : BR}
/-- Matched, whatever the lone tape. -/
def WRo (G : Nat) (FS : FuncId → Prop) (Sh : Nat → Prop) (B : BR) (wl w : World) : Prop := ∃ T, WR G FS Sh B (on wl T) w
/-- Each block of the match is the goroutine's own or one that it reads. -/
def Has (Sh : Nat → Prop) (B : BR) (O S : Nat → Prop) : Prop := ∀ r r', B r r' → (Sh r → S r') ∧ (¬Sh r → O r')
theorem WRo.keeps {wl w w2 : World} {O S : Nat → Prop} (h : WRo G FS Sh B wl w) (hO : Has Sh B O S) (k : Keeps O S w w2) : ∃ T, WR G FS Sh B (on wl T) w2 := by
  obtain ⟨T, h⟩ := h
  refine ⟨fun i q => w2.tape (w2.drawn + (i - wl.drawn)) q, fun r r' hb => ?_, h.fn, h.inj, h.low, h.glob, fun i q => ?_⟩
  · obtain ⟨o, o', h1, h2, h3⟩ := h.blk r r' hb
    refine ⟨o, o', h1, ?_, h3⟩
    rw [k.block r' ?_]
    · exact h2
    · by_cases hs : Sh r
      · exact .inr ((hO r r' hb).1 hs)
      · exact .inl ((hO r r' hb).2 hs)
  · show w2.tape (w2.drawn + (wl.drawn + i - wl.drawn)) q = w2.tape (w2.drawn + i) q
    rw [Nat.add_sub_cancel_left]
theorem EvO.of {B1 : BR} {w2 w1 : World} {O S : Nat → Prop} (hO : Has Sh B O S) (hd : Did Sh B B1 w2 w1) {e : Event} (h : EvOK Sh B1 e) : EvO (own O w2 w1) S e := by
  have key : ∀ r r', B1 r r' → (Sh r → S r') ∧ (¬Sh r → own O w2 w1 r') := by
    intro r r' hb
    rcases hd.new r r' hb with q | ⟨q1, q2, q3⟩
    · exact ⟨(hO r r' q).1, fun hs => .inl ((hO r r' q).2 hs)⟩
    · exact ⟨fun hs => absurd hs q3, fun _ => .inr ⟨q1, q2⟩⟩
  rcases h with ⟨a, e1, r, hb⟩ | ⟨a, e1, r, hb, hs⟩ | h | ⟨r', e1, r, hb, hs⟩
  · refine .inl ⟨a, e1, ?_⟩
    by_cases hs : Sh r
    · exact .inr ((key _ _ hb).1 hs)
    · exact .inl ((key _ _ hb).2 hs)
  · exact .inr (.inl ⟨a, e1, (key _ _ hb).2 hs⟩)
  · exact .inr (.inr (.inl h))
  · exact .inr (.inr (.inr ⟨r', e1, (key _ _ hb).2 hs⟩))
theorem DidO.of {B1 : BR} {w2 w1 : World} {O S : Nat → Prop} (hO : Has Sh B O S) (hd : Did Sh B B1 w2 w1) : DidO O w2 w1 := by
  refine ⟨hd.os, hd.tape, hd.output, hd.size, fun r hr hn => hd.kept r hr fun q hb => ?_⟩
  by_cases hs : Sh q
  · exact hs
  · exact absurd ((hO q r hb).2 hs) hn
/-- What is there at the end. -/
def FinV (G : Nat) (FS : FuncId → Prop) (Sh : Nat → Prop) (P : Program) (S : Nat → Prop) (Post : Frame → World → Prop) (O : Nat → Prop) (fr' : Frame) (w : World) : Prop := ∃ B fr wl, Has Sh B O S ∧ FR G FS P B fr fr' ∧ WR G FS Sh B wl w ∧ Post fr wl
theorem runs_of_ends (H : OpenOK G FS P) (HB : BodiesOK G FS P) {S : Nat → Prop} {base : List Frame} {Post : Frame → World → Prop} (hT : ∀ fr w T, Post fr w → Post fr (on w T)) {fr : Frame} {l : List Frame} {wl : World} (he : Ends P Post fr l wl) :
    ∀ {B : BR} {fr' : Frame} {l' : List Frame} {w : World} {O : Nat → Prop}, FR G FS P B fr fr' → FRs G FS P B l l' → WRo G FS Sh B wl w → Has Sh B O S → Runs P S base (FinV G FS Sh P S Post) O fr' (l' ++ base) w := by
  induction he with
  | @done fr wl hm hp =>
    intro B fr' l' w O hf hl hw hO
    cases hl
    refine .done (by rw [hf.mode]; exact hm) fun w2 hk => ?_
    obtain ⟨T, hw2⟩ := hw.keeps hO hk
    exact ⟨B, fr, _, hO, hf, hw2, hT _ _ _ hp⟩
  | @step fr l wl hend hsome hall ih =>
    intro B fr' l' w O hf hl hw hO
    have key : ∀ w2, Keeps O S w w2 → ∃ fr1 l1 wl1, Ends P Post fr1 l1 wl1 ∧ (∃ T es, Step1 P fr (l ++ [shut P]) (on wl T) fr1 (l1 ++ [shut P]) wl1 es) ∧ ∃ B1 fr1' l1' w1 es', Step1 P fr' (l' ++ base) w2 fr1' (l1' ++ base) w1 es' ∧ FR G FS P B1 fr1 fr1' ∧ FRs G FS P B1 l1 l1' ∧ WR G FS Sh B1 wl1 w1 ∧ Did Sh B B1 w2 w1 ∧ ∀ e ∈ es', EvOK Sh B1 e := by
      intro w2 hk
      obtain ⟨T, hw2⟩ := hw.keeps hO hk
      obtain ⟨fr1, l1, wl1, es, hs⟩ := hsome T
      obtain ⟨B1, fr1', l2, l1', w1, es', m⟩ := Step1.sim H HB (base := base) hf hl hw2 hs hend
      have e : l1 = l2 := by simpa using m.cs1
      subst e
      exact ⟨fr1, l1, wl1, hall T fr1 l1 wl1 es hs, ⟨T, es, hs⟩, B1, fr1', l1', w1, es', m.step, m.fr, m.frs, m.wr, m.did, m.ev⟩
    have ft' : FT G FS P fr' := by
      have := hf.ft
      refine ⟨by rw [hf.fn]; exact this.fn, by rw [hf.todo]; exact this.todo, ?_, ?_, ?_⟩
      · rw [hf.eq]; exact this.defers
      · rw [hf.eq]; exact this.kind
      · rw [hf.eq]; exact this.round
    refine .step (fun w2 hk => ?_) fun w2 fr1' cs1' w1 es hk hs => ?_
    · obtain ⟨fr1, l1, wl1, _, _, B1, fr1', l1', w1, es', k1, _, _, _, k5, k6⟩ := key w2 hk
      exact ⟨fr1', l1' ++ base, w1, es', k1, fun main st off => k1.goes ft', DidO.of hO k5, fun e he => EvO.of hO k5 (k6 e he)⟩
    · obtain ⟨fr1, l1, wl1, _, ⟨T, es0, hs0⟩, B1, fr2', l1', w2', es', k1, k2, k3, k4, k5, k6⟩ := key w2 hk
      obtain ⟨e1, e2, e3⟩ := Step1.same ft' k1 hs
      subst e1 e2 e3
      refine ih T fr1 l1 wl1 es0 hs0 k2 k3 ⟨wl1.tape, k4⟩ fun r r' hb => ?_
      rcases k5.new r r' hb with q | ⟨q1, q2, q3⟩
      · exact ⟨(hO r r' q).1, fun hs => .inl ((hO r r' q).2 hs)⟩
      · exact ⟨fun hs => absurd hs q3, fun _ => .inr ⟨q1, q2⟩⟩
end
end Go.Proofs.Ytgeoffpcmkofkaa
/- Several at once: at each step one of them gets smaller. -/
namespace Go.Proofs.Ytgeoffpcmkofkaa
open Go

/-- One of a list is replaced by a smaller one. -/
inductive One {α : Type} (R : α → α → Prop) : List α → List α → Prop
  | here {x y : α} {l : List α} : R x y → One R (x :: l) (y :: l)
  | there {x : α} {l m : List α} : One R l m → One R (x :: l) (x :: m)
theorem acc_cons {α : Type} {R : α → α → Prop} {x : α} (hx : Acc R x) : ∀ {l : List α}, Acc (One R) l → Acc (One R) (x :: l) := by
  induction hx with
  | intro x hx ihx =>
    intro l hl
    induction hl with
    | intro l hl ihl =>
      refine .intro _ fun m hm => ?_
      cases hm with
      | here h => exact ihx _ h (.intro l hl)
      | there h => exact ihl _ h
theorem acc_one {α : Type} {R : α → α → Prop} : ∀ {l : List α}, (∀ x ∈ l, Acc R x) → Acc (One R) l
  | [], _ => .intro _ fun m hm => by cases hm
  | x :: l, h => acc_cons (h x (by simp)) (acc_one fun y hy => h y (by simp [hy]))

/-- Where a goroutine stands: its own blocks, its frames, the world at its last step. -/
structure Seat where
  own : Nat → Prop
  fr : Frame
  cs : List Frame
  w : World
/-- One step further, behind what others did. -/
def Later (P : Program) (S : Nat → Prop) (x1 x : Seat) : Prop := ∃ w2 es, Keeps x.own S x.w w2 ∧ Step1 P x.fr x.cs w2 x1.fr x1.cs x1.w es ∧ x1.own = own x.own w2 x1.w
section
variable {P : Program} {S : Nat → Prop} {base : List Frame} {Fin : (Nat → Prop) → Frame → World → Prop}
/-- Not yet at the end. -/
def Under (P : Program) (S : Nat → Prop) (base : List Frame) (Fin : (Nat → Prop) → Frame → World → Prop) (x : Seat) : Prop := Runs P S base Fin x.own x.fr x.cs x.w
/-- Steps that are taken on the way, none at the end. -/
def Way (P : Program) (S : Nat → Prop) (base : List Frame) (x1 x : Seat) : Prop := ¬(x.fr.mode = .returning ∧ x.cs = base) ∧ Later P S x1 x
theorem Under.acc {x : Seat} (h : Under P S base Fin x) : Acc (Way P S base) x := by
  obtain ⟨O, fr, cs, w⟩ := x
  unfold Under at h
  simp only at h
  induction h with
  | done hm _ => exact .intro _ fun y hy => absurd ⟨hm, rfl⟩ hy.1
  | step _ _ ih =>
    refine .intro _ fun y hy => ?_
    obtain ⟨_, w2, es, h1, h2, h3⟩ := hy
    obtain ⟨O1, fr1, cs1, w1⟩ := y
    simp only at h1 h2 h3
    subst h3
    exact ih w2 fr1 cs1 w1 es h1 h2
/-- What others do elsewhere does not matter. -/
theorem Runs.keeps {O : Nat → Prop} {fr : Frame} {cs : List Frame} {w w' : World} (h : Runs P S base Fin O fr cs w) (hk : Keeps O S w w') : Runs P S base Fin O fr cs w' := by
  have tr : ∀ {w2}, Keeps O S w' w2 → Keeps O S w w2 := fun k => ⟨Nat.le_trans hk.size k.size, fun r hr => (k.block r hr).trans (hk.block r hr), k.os.trans hk.os, k.output.trans hk.output⟩
  cases h with
  | done hm hf => exact .done hm fun w2 k => hf w2 (tr k)
  | step h1 h2 => exact .step (fun w2 k => h1 w2 (tr k)) fun w2 fr1 cs1 w1 es k hs => h2 w2 fr1 cs1 w1 es (tr k) hs
end
end Go.Proofs.Ytgeoffpcmkofkaa
/- A call in company: its return. -/
namespace Go.Proofs.Ytgeoffpcmkofkaa
open Go

section
variable {G : Nat} {FS : FuncId → Prop} {Sh : Nat → Prop} {P : Program} {S : Nat → Prop}
/-- At the end of the call: it hands its value back, and the value and the memory are those of which the lone contract speaks, up to the numbers of blocks. -/
theorem fin_ret (HB : BodiesOK G FS P) {f : FuncId} (hf : FS f) {Q : Value → World → Prop} {O : Nat → Prop} {fr' : Frame} {w : World} (h : FinV G FS Sh P S (PostV P f Q) O fr' w) (hm : fr'.mode = .returning) :
    ∃ B v v' wl, Has Sh B O S ∧ WR G FS Sh B wl w ∧ VR G FS B v v' ∧ Q v wl ∧ ∀ main st off c rest, stepG P main { frame := fr', callers := c :: rest, status := st, dying := none, offers := off } w = .go { frame := c.finish v', callers := rest, status := .running, dying := none } w #[] := by
  obtain ⟨B, fr, wl, h1, h2, h3, h4, fn, v, h5, h6, h7⟩ := h
  obtain ⟨ts, hts⟩ := tmps_of fn.results.toList (HB.res f hf fn h5)
  have e := results_tmps hts fr.tmps
  have e' := results_tmps hts fr'.tmps
  have hv : v = resOf (ts.map fun t => fr.tmps.getD t undef) := by
    rw [e] at h6
    simp only [pure, Sem.run] at h6
    injection h6 with h6 _
    exact h6.symm
  subst hv
  refine ⟨B, _, resOf (ts.map fun t => fr'.tmps.getD t undef), wl, h1, h3, resOf_rel h2.tmps ts, h7, fun main st off c rest => ?_⟩
  refine step_ret hm ?_ ?_ (by rw [h2.fn, h4]; exact h5) (by rw [e']; rfl)
  · rw [h2.eq]; exact h2.ft.defers
  · rw [h2.eq]; exact h2.ft.kind
/-- A call that has a lone contract on every tape, in company. -/
theorem runs_of_calls (H : OpenOK G FS P) (HB : BodiesOK G FS P) (HN : NoEarly P) {f : FuncId} (hf : FS f) {B : BR} {xs xs' : Array Value} (ha : VRs G FS B xs.toList xs'.toList) {wl w : World} (hw : WR G FS Sh B wl w) {O : Nat → Prop} (hO : Has Sh B O S) {Q : Value → World → Prop} (hQ : ∀ v w T, Q v w → Q v (on w T))
    (h : ∀ T, Calls P f xs (on wl T) fun e w' => ∃ v, e = .returned v ∧ Q v w') (base : List Frame) : Runs P S base (FinV G FS Sh P S (PostV P f Q)) O (Frame.enter P f xs' .normal) base w :=
  runs_of_ends H HB (postV_on HB hf hQ) (ends_of_calls H HB HN hf ha hw hQ h) (l' := []) (FR.enter HB hf ha) .nil ⟨wl.tape, hw⟩ hO

/-! ### The lone world of a goroutine that reads one row of memory -/
/-- The same world, one row of which may not be written. -/
def iced (w : World) (r0 : Nat) (c : Array Value) (e : TypeId) : World := { w with heap := w.heap.setIfInBounds r0 (.cells c e (0, c.size)) }
theorem iced_at {w : World} {r0 : Nat} {c : Array Value} {e : TypeId} (h : r0 < w.heap.size) : (iced w r0 c e).heap[r0]? = some (.cells c e (0, c.size)) := by
  simp [iced, h]
theorem iced_cell {w : World} {r0 : Nat} {c : Array Value} {e : TypeId} {fr : Nat × Nat} (h : w.heap[r0]? = some (.cells c e fr)) (a : Addr) : (iced w r0 c e).cell? a = w.cell? a := by
  have hlt : r0 < w.heap.size := (Array.getElem?_eq_some_iff.1 h).1
  by_cases ha : a.block = r0
  · subst ha
    simp [World.cell?, iced_at hlt, h]
  · have : (iced w r0 c e).heap[a.block]? = w.heap[a.block]? := by
      simp [iced, Ne.symm ha]
    simp [World.cell?, this]
theorem iced_WR {w : World} {r0 : Nat} {c : Array Value} {e : TypeId} (h : w.heap[r0]? = some (.cells c e (0, 0))) (hG : G ≤ w.heap.size) (hc : ∀ B, VRs G FS B c.toList c.toList) : WR G FS (· = r0) (fun r r' => r = r0 ∧ r' = r0) (iced w r0 c e) w := by
  have hlt : r0 < w.heap.size := (Array.getElem?_eq_some_iff.1 h).1
  refine ⟨fun r r' hb => ?_, fun r r' q' h1 h2 => h1.2.trans h2.2.symm, fun r q r' h1 h2 => h1.1.trans h2.1.symm, fun r hr => ?_, ?_, fun i q => rfl⟩
  · obtain ⟨rfl, rfl⟩ := hb
    exact ⟨_, _, iced_at hlt, h, .cells (hc _) (fun _ => rfl) fun hn => absurd rfl hn⟩
  · subst hr; simpa [iced] using hlt
  · simpa [iced] using hG
end
end Go.Proofs.Ytgeoffpcmkofkaa
