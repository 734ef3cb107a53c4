/- A lone run that comes back takes none but these steps. -/
import Derived.Test.YtgeoffpcmkofkaaKn
namespace Go.Proofs.Ytgeoffpcmkofkaa
open Go

/-- The caller under all: a panic ends the program there, and so does a return. -/
def shut (P : Program) : Frame := { fn := P.funcs.size, tmps := #[], todo := [.call { target := .nil, args := #[] } false "fmt's door, shut" #[]], defers := [], mode := .run, kind := .normal }
theorem shut_row : Extern.next "fmt's door, shut" = none := by decide +kernel
section
variable {G : Nat} {FS : FuncId → Prop} {Sh : Nat → Prop} {P : Program} {B : BR}
/-- The lone machine with this caller under all. -/
abbrev L (P : Program) (fr : Frame) (l : List Frame) (w : World) : Machine := lone fr (l ++ [shut P]) w
theorem step_go {fr fr1 : Frame} {cs cs1 : List Frame} {w w1 : World} {es : Array Event} (h : stepG P true { frame := fr, callers := cs, status := .running, dying := none } w = .go { frame := fr1, callers := cs1, status := .running, dying := none } w1 es) : step P (lone fr cs w) = .next (lone fr1 cs1 w1) := step_lone_go (by rw [h]; rfl)
theorem step_end {fr : Frame} {cs : List Frame} {w w1 : World} {o : Outcome} {es : Array Event} (h : stepG P true { frame := fr, callers := cs, status := .running, dying := none } w = .ended o w1 es) : step P (lone fr cs w) = .ended o w1 := step_lone_ended (by rw [h]; rfl)
/-- Frames that run a body and have nothing deferred. -/
def Bare (P : Program) (fr : Frame) : Prop := fr.defers = [] ∧ ∃ fn, P.funcs[fr.fn]? = some fn
theorem no_way_shut {ch : List PanicEntry} {w : World} : ∀ (n : Nat) (fr1 : Frame) (w1 : World), fr1.mode = .returning → runN P n (lone ((shut P).raise ch) [] w) ≠ .next (L P fr1 [] w1)
  | 0, fr1, w1, hm, h => by
    simp only [runN, L, lone, Stepped.next.injEq, Machine.mk.injEq] at h
    have := h.2.1
    simp at this
  | n + 1, fr1, w1, hm, h => by
    have : step P (lone ((shut P).raise ch) [] w) = .ended (.unsupported (.noEntry "a panic or Goexit out of a method that fmt calls behind a cut's door") (((shut P).raise ch).pos P)) w := by
      refine step_end (es := #[]) ?_
      unfold stepG
      simp only [Frame.raise, shut]
      unfold unwind
      simp [Frame.catches]
    simp only [runN, this] at h
    cases h
theorem no_way_back : ∀ (n : Nat) (l : List Frame) (fr : Frame) (ch : List PanicEntry) (w : World), (∀ x ∈ l, Bare P x ∧ x.mode = .run) → Bare P fr → fr.mode = .panicking ch → ∀ (fr1 : Frame) (w1 : World), fr1.mode = .returning → runN P n (L P fr l w) ≠ .next (L P fr1 [] w1)
  | 0, l, fr, ch, w, _, _, hp, fr1, w1, hm, h => by
    simp only [runN, L, lone, Stepped.next.injEq, Machine.mk.injEq] at h
    have := h.2.1
    simp at this
    rw [this.1] at hp
    rw [hp] at hm
    cases hm
  | n + 1, l, fr, ch, w, hl, hb, hp, fr1, w1, hm, h => by
    obtain ⟨hd, fn, hfn⟩ := hb
    cases l with
    | nil =>
      have : step P (L P fr [] w) = .next (lone ((shut P).raise ch) [] w) := by
        refine step_go (es := #[]) ?_
        unfold stepG
        simp only [hp]
        unfold unwind
        simp [hd, hp, Frame.catches, hfn]
      simp only [runN, this] at h
      exact no_way_shut n fr1 w1 hm h
    | cons x l =>
      have : step P (L P fr (x :: l) w) = .next (L P (x.raise ch) l w) := by
        refine step_go (es := #[]) ?_
        unfold stepG
        simp only [hp]
        unfold unwind
        simp [hd, hp, Frame.catches, hfn]
      simp only [runN, this] at h
      have hx := hl x (by simp)
      refine no_way_back n l (x.raise ch) ch w (fun y hy => hl y (by simp [hy])) ?_ ?_ fr1 w1 hm h
      · simp only [Frame.raise, hx.2]
        exact hx.1
      · simp only [Frame.raise, hx.2]
theorem finish_mode (fr : Frame) (v : Value) : (fr.finish v).mode = fr.mode := by
  unfold Frame.finish
  split <;> rfl
theorem Step1.mode {fr fr1 : Frame} {l l' cs1 : List Frame} {w w1 : World} {es : Array Event} (hl : FRs G FS P B l l') (hs : Step1 P fr (l ++ [shut P]) w fr1 cs1 w1 es) : fr1.mode = .run ∨ fr1.mode = .returning := by
  generalize hcs : l ++ [shut P] = cs at hs
  cases hs with
  | ctl hm hc =>
    unfold Ytgeoffpcmkofkaa.ctl at hc
    split at hc
    all_goals (first | (cases hc; done) | skip)
    all_goals (first | (injection hc with hc; subst hc; first | exact .inr rfl | exact .inl hm) | skip)
    · split at hc
      · injection hc with hc; subst hc; exact .inl hm
      · injection hc with hc; subst hc; exact .inl hm
      · cases hc
    · rename_i id k _
      cases he : exitTo id k with
      | none => rw [he] at hc; cases hc
      | some k' => rw [he] at hc; injection hc with hc; subst hc; exact .inl hm
    · rename_i id k _
      cases he : gotoIn id k with
      | none => rw [he] at hc; cases hc
      | some k' => rw [he] at hc; injection hc with hc; subst hc; exact .inl hm
    · split at hc
      · cases hc
      · injection hc with hc
        subst hc
        exact .inl (by rw [finish_mode]; exact hm)
  | draw hm ht hr => exact .inl hm
  | oper hm ht ho hwant hr ha =>
    rename_i n _
    cases n <;> simp only [after, reduceCtorEq] at ha <;> (injection ha with ha; injection ha with h1 h2; subst h1)
    · exact .inl (by rw [finish_mode]; exact hm)
    · exact .inl (by rw [finish_mode]; exact hm)
    · exact .inl rfl
  | ret hm hfn hr =>
    cases hl with
    | nil =>
      simp only [List.nil_append, List.cons.injEq] at hcs
      rw [← hcs.1]
      exact .inl rfl
    | cons h1 h2 _ _ =>
      rw [List.cons_append] at hcs
      injection hcs with h3 h4
      subst h3
      exact .inl (by rw [finish_mode]; exact h2)
/-- No variable of the program waits for its first value. -/
structure NoEarly (P : Program) : Prop where
  follows : P.follows .staticDataAhead = true
  none : ∀ g, P.stepOf g = Option.none
theorem lone_cases (H : OpenOK G FS P) (HB : BodiesOK G FS P) (HN : NoEarly P) {fr fr' : Frame} {l l' : List Frame} {wl w : World} (hf : FR G FS P B fr fr') (hl : FRs G FS P B l l') (hw : WR G FS Sh B wl w) (hm : fr.mode = .run ∨ fr.mode = .returning) (hend : fr.mode = .returning → l ≠ []) :
    (∃ fr1 cs1 wl1 es, Step1 P fr (l ++ [shut P]) wl fr1 cs1 wl1 es) ∨ (∃ ch wl1, step P (L P fr l wl) = .next (L P { fr with mode := .panicking ch } l wl1)) ∨ (∃ o wl1, step P (L P fr l wl) = .ended o wl1) := by
  rcases hm with hm | hm
  · rcases stands (main := true) hf.ft hm with ⟨fr1, h⟩ | ⟨id, ops, k, h, _⟩ | ⟨ops, i, rest, k, o, h1, h2, h3, h4⟩ | h
    · exact .inl ⟨_, _, _, _, .ctl hm h⟩
    · have hr : ∃ t w1, (choose (.order fr.fn id)).run P wl = .ok t w1 := by
        simp only [choose, Sem.run]
        split <;> exact ⟨_, _, rfl⟩
      obtain ⟨t, w1, hr⟩ := hr
      exact .inl ⟨_, _, _, _, .draw hm h hr⟩
    · have hsem := r_execOp H (B := B) (ρ := fr.eval) (ρ' := fr'.eval) hf.eval h4
      have hfst := Sem.runT_fst P (execOp fr.eval o) wl #[]
      cases hr : (execOp fr.eval o).runT P wl #[] with
      | mk r es =>
        rw [hr] at hfst
        simp only at hfst
        cases r with
        | ok n w1 =>
          obtain ⟨B1, n', w2, es', k1, k2, _⟩ := hsem.run #[] hw hfst.symm
          cases k2 with
          | value hv => exact .inl ⟨_, _, _, _, .oper hm h1 h2 h3 hr rfl⟩
          | skip => exact .inl ⟨_, _, _, _, .oper hm h1 h2 h3 hr rfl⟩
          | enter f hfs has => exact .inl ⟨_, _, _, _, .oper hm h1 h2 h3 hr rfl⟩
        | halt x w1 =>
          have hmild := hsem.halts hw hfst.symm
          have hop : fr.oper? = some o := by simp [Frame.oper?, h1, h2]
          have hg : stepG P true { frame := fr, callers := l ++ [shut P], status := .running, dying := none } wl = stepG.apply P true fr (l ++ [shut P]) none (execOp fr.eval o) wl := by
            unfold stepG
            simp only [hm]
            unfold stepG.exec
            simp only [h1]
            rw [if_pos (by simp [h2, h3])]
            unfold stepG.oper
            simp only [hop, hf.ft.round]
          cases x with
          | stuck why => exact .inr (.inr ⟨_, _, step_end (by rw [hg]; unfold stepG.apply; simp only [if_true, hr]; rfl)⟩)
          | panic v =>
            refine .inr (.inl ⟨[{ v, recovered := false }], w1, ?_⟩)
            refine step_go (es := seen P fr.fn es) ?_
            rw [hg]
            unfold stepG.apply
            simp only [if_true, hr, hf.ft.kind, GStep.after, Frame.raise, hm]
            simp
          | unsupported u =>
            cases u with
            | initOrder g =>
              refine .inr (.inr ⟨.unsupported (.initOrder g) (fr.pos P), w1, ?_⟩)
              refine step_end (es := seen P fr.fn #[]) ?_
              rw [hg]
              unfold stepG.apply
              simp only [if_true, hr, hf.ft.kind, early, HN.follows, HN.none, GStep.after]
              simp
            | _ => exact .inr (.inr ⟨_, _, step_end (by rw [hg]; unfold stepG.apply; simp only [if_true, hr]; rfl)⟩)
          | _ => exact hmild.elim
    · obtain ⟨o, w1, h⟩ := h (l ++ [shut P]) wl
      exact .inr (.inr ⟨o, w1, step_end h⟩)
  · obtain ⟨fn, hfn⟩ := HB.there _ hf.ft.fn
    obtain ⟨ts, hts⟩ := tmps_of fn.results.toList (HB.res _ hf.ft.fn fn hfn)
    have e := results_tmps hts fr.tmps
    cases l with
    | nil => exact absurd rfl (hend hm)
    | cons x l => exact .inl ⟨_, _, _, _, .ret hm hfn (by rw [e]; rfl)⟩
end
end Go.Proofs.Ytgeoffpcmkofkaa
