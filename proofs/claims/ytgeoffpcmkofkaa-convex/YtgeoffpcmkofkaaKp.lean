/- Lone runs that end on every tape end as a tree: whatever is drawn, step by step. -/
import Derived.Test.YtgeoffpcmkofkaaKo
namespace Go.Proofs.Ytgeoffpcmkofkaa
open Go

section
variable (G : Nat) (FS : FuncId → Prop) (Sh : Nat → Prop) (P : Program)
/-- A lone state that has a match. -/
def Good (fr : Frame) (l : List Frame) (w : World) : Prop := (fr.mode = .run ∨ fr.mode = .returning) ∧ ∃ B fr' l' w', FR G FS P B fr fr' ∧ FRs G FS P B l l' ∧ WR G FS Sh B w w'
end
section
variable {G : Nat} {FS : FuncId → Prop} {Sh : Nat → Prop} {P : Program} {B : BR}
theorem WR.on {wl w : World} (h : WR G FS Sh B wl w) (T : Nat → Question → Nat) : WR G FS Sh B (on wl T) (on w fun i q => T (wl.drawn + (i - w.drawn)) q) := by
  refine ⟨h.blk, h.fn, h.inj, h.low, h.glob, fun i q => ?_⟩
  show T (wl.drawn + i) q = T (wl.drawn + (w.drawn + i - w.drawn)) q
  rw [Nat.add_sub_cancel_left]
theorem Good.on {fr : Frame} {l : List Frame} {w : World} (h : Good G FS Sh P fr l w) (T : Nat → Question → Nat) : Good G FS Sh P fr l (on w T) := by
  obtain ⟨hm, B, fr', l', w', h1, h2, h3⟩ := h
  exact ⟨hm, B, fr', l', _, h1, h2, h3.on T⟩
theorem Good.step (H : OpenOK G FS P) (HB : BodiesOK G FS P) {fr fr1 : Frame} {l cs1 : List Frame} {w w1 : World} {es : Array Event} (h : Good G FS Sh P fr l w) (hend : fr.mode = .returning → l ≠ []) (hs : Step1 P fr (l ++ [shut P]) w fr1 cs1 w1 es) : ∃ l1, cs1 = l1 ++ [shut P] ∧ Good G FS Sh P fr1 l1 w1 := by
  obtain ⟨hm, B, fr', l', w', h1, h2, h3⟩ := h
  obtain ⟨B1, fr1', l1, l1', w1', es', k⟩ := Step1.sim H HB (base := []) h1 h2 h3 hs hend
  exact ⟨l1, k.cs1, Step1.mode h2 hs, B1, fr1', l1', w1', k.fr, k.frs, k.wr⟩
theorem on_on (w : World) (T T' : Nat → Question → Nat) : on (on w T) T' = on w T' := rfl
theorem Step1.on (H : OpenOK G FS P) (HB : BodiesOK G FS P) {fr fr1 : Frame} {l cs1 : List Frame} {w w1 : World} {es : Array Event} (h : Good G FS Sh P fr l w) (hs : Step1 P fr (l ++ [shut P]) w fr1 cs1 w1 es) :
    w.drawn ≤ w1.drawn ∧ w1.tape = w.tape ∧ ∀ T, (∀ i q, w.drawn ≤ i → i < w1.drawn → T i q = w.tape i q) → ∃ es', Step1 P fr (l ++ [shut P]) (on w T) fr1 cs1 (on w1 T) es' := by
  obtain ⟨hm, B, fr', l', w', hf, hl, hw⟩ := h
  generalize hcs : l ++ [shut P] = cs at hs ⊢
  cases hs with
  | ctl hm hc => exact ⟨Nat.le_refl _, rfl, fun T _ => ⟨_, .ctl hm hc⟩⟩
  | draw hm ht hr =>
    rename_i id ops k t
    have hsem : SemR (G := G) (FS := FS) P EqQ B (choose (.order fr.fn id)) (choose (.order fr.fn id)) := .choose fun n => .pure rfl
    have g := hsem.run_on hw hr
    exact ⟨g.mono, g.same, fun T hT => ⟨_, .draw hm ht (g.run T hT)⟩⟩
  | oper hm ht ho hwant hr ha =>
    rename_i ops i rest k o n es0
    have htame : OpTame G FS P o.op := by
      have := hf.ft.todo (.inRegion ops (i :: rest)) (by rw [ht]; simp)
      refine this o ?_
      have := Array.mem_of_getElem? ho
      simpa using this
    have hsem := r_execOp H (B := B) (ρ := fr.eval) (ρ' := fr'.eval) hf.eval htame
    have hr' : (execOp fr.eval o).run P w = .ok n w1 := by rw [← Sem.runT_fst P _ w #[], hr]
    have g := hsem.run_on hw hr'
    refine ⟨g.mono, g.same, fun T hT => ?_⟩
    have h1 := g.run T hT
    rw [← Sem.runT_fst P _ _ #[]] at h1
    cases hq : (execOp fr.eval o).runT P (Ytgeoffpcmkofkaa.on w T) #[] with
    | mk r es' =>
      rw [hq] at h1
      simp only at h1
      subst h1
      exact ⟨_, .oper hm ht ho hwant hq ha⟩
  | ret hm hfn hr =>
    rename_i fn v
    refine ⟨Nat.le_refl _, rfl, fun T _ => ⟨_, .ret hm hfn ?_⟩⟩
    obtain ⟨ts, hts⟩ := tmps_of fn.results.toList (HB.res _ hf.ft.fn fn hfn)
    have e := results_tmps hts fr.tmps
    rw [e] at hr ⊢
    have hv : resOf (ts.map fun t => fr.tmps.getD t undef) = v := by
      have := congrArg Prod.fst hr
      simp only [pure, Sem.runT] at this
      injection this
    rw [hv]
    rfl
/-- A run of such steps to the end. -/
inductive Reach (P : Program) (Post : Frame → World → Prop) : Frame → List Frame → World → Prop
  | done {fr : Frame} {w : World} : fr.mode = .returning → Post fr w → Reach P Post fr [] w
  | step {fr fr1 : Frame} {l l1 : List Frame} {w w1 : World} {es : Array Event} : (fr.mode = .returning → l ≠ []) → Step1 P fr (l ++ [shut P]) w fr1 (l1 ++ [shut P]) w1 es → Reach P Post fr1 l1 w1 → Reach P Post fr l w
/-- Whatever is drawn. -/
inductive Ends (P : Program) (Post : Frame → World → Prop) : Frame → List Frame → World → Prop
  | done {fr : Frame} {w : World} : fr.mode = .returning → Post fr w → Ends P Post fr [] w
  | step {fr : Frame} {l : List Frame} {w : World} : (fr.mode = .returning → l ≠ []) → (∀ T, ∃ fr1 l1 w1 es, Step1 P fr (l ++ [shut P]) (on w T) fr1 (l1 ++ [shut P]) w1 es) → (∀ T fr1 l1 w1 es, Step1 P fr (l ++ [shut P]) (on w T) fr1 (l1 ++ [shut P]) w1 es → Ends P Post fr1 l1 w1) → Ends P Post fr l w
theorem FRs.bare (HB : BodiesOK G FS P) : ∀ {l l' : List Frame}, FRs G FS P B l l' → ∀ x ∈ l, Bare P x ∧ x.mode = .run
  | _, _, .nil, x, hx => by simp at hx
  | _, _, .cons h1 h2 _ h4, x, hx => by
    rcases List.mem_cons.1 hx with rfl | hx
    · exact ⟨⟨h1.ft.defers, HB.there _ h1.ft.fn⟩, h2⟩
    · exact h4.bare HB x hx
theorem not_behind {v : Value} {w : World} : ∀ (n : Nat) (fr1 : Frame) (w1 : World), runN P n (lone ((shut P).finish v) [] w) ≠ .next (L P fr1 [] w1)
  | 0, fr1, w1, h => by
    simp only [runN, L, lone, Stepped.next.injEq, Machine.mk.injEq] at h
    have := h.2.1
    simp at this
  | n + 1, fr1, w1, h => by
    have : ∃ o, step P (lone ((shut P).finish v) [] w) = .ended o w := by
      refine ⟨.stuck ("no extern row " ++ "fmt's door, shut") (((shut P).finish v).pos P), step_end (es := #[]) ?_⟩
      unfold stepG
      simp only [Frame.finish, shut]
      unfold stepG.exec
      simp only [shut_row]
      rfl
    obtain ⟨o, this⟩ := this
    simp only [runN, this] at h
    cases h
theorem reach_of_run (H : OpenOK G FS P) (HB : BodiesOK G FS P) (HN : NoEarly P) {Post : Frame → World → Prop} {frE : Frame} {wE : World} (hE : frE.mode = .returning) (hP : Post frE wE) : ∀ (n : Nat) {fr : Frame} {l : List Frame} {w : World}, Good G FS Sh P fr l w → runN P n (L P fr l w) = .next (L P frE [] wE) → Reach P Post fr l w
  | 0, fr, l, w, hg, h => by
    simp only [runN, L, lone, Stepped.next.injEq, Machine.mk.injEq] at h
    obtain ⟨h1, h2, _⟩ := h
    simp at h2
    obtain ⟨rfl, rfl⟩ := h2
    subst h1
    exact .done hE hP
  | n + 1, fr, l, w, hg, h => by
    obtain ⟨hm, B, fr', l', w', hf, hl, hw⟩ := id hg
    by_cases hend : fr.mode = .returning → l ≠ []
    · rcases lone_cases H HB HN hf hl hw hm hend with ⟨fr1, cs1, w1, es, hs⟩ | ⟨ch, w1, hs⟩ | ⟨o, w1, hs⟩
      · obtain ⟨l1, rfl, hg1⟩ := hg.step H HB hend hs
        have := step_go (hs.goes (main := true) (st := .running) (off := none) hf.ft)
        simp only [runN, this] at h
        exact .step hend hs (reach_of_run H HB HN hE hP n hg1 h)
      · simp only [runN, hs] at h
        exact absurd h (no_way_back n l { fr with mode := .panicking ch } ch w1 (hl.bare HB) ⟨hf.ft.defers, HB.there _ hf.ft.fn⟩ rfl frE wE hE)
      · simp only [runN, hs] at h
        cases h
    · simp only [Classical.not_imp, Classical.not_not] at hend
      obtain ⟨hr, rfl⟩ := hend
      exfalso
      obtain ⟨fn, hfn⟩ := HB.there _ hf.ft.fn
      obtain ⟨ts, hts⟩ := tmps_of fn.results.toList (HB.res _ hf.ft.fn fn hfn)
      have e := results_tmps hts fr.tmps
      have := step_go (P := P) (step_ret (main := true) (st := .running) (off := none) (c := shut P) (cs := []) (w := w) hr hf.ft.defers hf.ft.kind hfn (by rw [e]; rfl))
      simp only [runN, L, List.nil_append, this] at h
      exact not_behind n frE wE h
end
end Go.Proofs.Ytgeoffpcmkofkaa
