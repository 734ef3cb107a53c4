/- In company: a goroutine that others leave alone runs to its end, whatever they do elsewhere. -/
import Derived.Test.YtgeoffpcmkofkaaKr
namespace Go.Proofs.Ytgeoffpcmkofkaa
open Go

/-- What others do: blocks that are the goroutine's own (O), and those that it reads (S), stay. -/
structure Keeps (O S : Nat → Prop) (w w2 : World) : Prop where
  size : w.heap.size ≤ w2.heap.size
  block : ∀ r, O r ∨ S r → w2.heap[r]? = w.heap[r]?
  os : w2.os = w.os
  output : w2.output = w.output
/-- Its own blocks after a step: those before, and what it made. -/
def own (O : Nat → Prop) (w2 w1 : World) : Nat → Prop := fun r => O r ∨ (w2.heap.size ≤ r ∧ r < w1.heap.size)
/-- What a step of it does. -/
structure DidO (O : Nat → Prop) (w2 w1 : World) : Prop where
  os : w1.os = w2.os
  tape : w1.tape = w2.tape
  output : w1.output = w2.output
  size : w2.heap.size ≤ w1.heap.size
  kept : ∀ r, r < w2.heap.size → ¬O r → w1.heap[r]? = w2.heap[r]?
/-- What it lists. -/
def EvO (O S : Nat → Prop) (e : Event) : Prop :=
  (∃ a : Addr, e = ⟨.cell a, false, false⟩ ∧ (O a.block ∨ S a.block)) ∨ (∃ a : Addr, e = ⟨.cell a, true, false⟩ ∧ O a.block) ∨ (∃ m, e = ⟨.mark m, false, true⟩ ∧ (m = .noRoom ∨ ∃ f, m = .extern f)) ∨ (∃ r, e = ⟨.obj r, false, false⟩ ∧ O r)
inductive Runs (P : Program) (S : Nat → Prop) (base : List Frame) (Fin : (Nat → Prop) → Frame → World → Prop) : (Nat → Prop) → Frame → List Frame → World → Prop
  | done {O : Nat → Prop} {fr : Frame} {w : World} : fr.mode = .returning → (∀ w2, Keeps O S w w2 → Fin O fr w2) → Runs P S base Fin O fr base w
  | step {O : Nat → Prop} {fr : Frame} {cs : List Frame} {w : World} :
      (∀ w2, Keeps O S w w2 → ∃ fr1 cs1 w1 es, Step1 P fr cs w2 fr1 cs1 w1 es ∧ (∀ main st off, stepG P main { frame := fr, callers := cs, status := st, dying := none, offers := off } w2 = .go { frame := fr1, callers := cs1, status := .running, dying := none } w1 es) ∧ DidO O w2 w1 ∧ ∀ e ∈ es, EvO (own O w2 w1) S e) →
      (∀ w2 fr1 cs1 w1 es, Keeps O S w w2 → Step1 P fr cs w2 fr1 cs1 w1 es → Runs P S base Fin (own O w2 w1) fr1 cs1 w1) → Runs P S base Fin O fr cs w

section
variable {G : Nat} {FS : FuncId → Prop} {Sh : Nat → Prop} {P : Program} {B : BR}
/-- Matched, whatever the lone tape. -/
def WRo (G : Nat) (FS : FuncId → Prop) (Sh : Nat → Prop) (B : BR) (wl w : World) : Prop := ∃ T, WR G FS Sh B (on wl T) w
/-- Each block of the match is the goroutine's own or one that it reads. -/
def Has (Sh : Nat → Prop) (B : BR) (O S : Nat → Prop) : Prop := ∀ r r', B r r' → (Sh r → S r') ∧ (¬Sh r → O r')
theorem WRo.keeps {wl w w2 : World} {O S : Nat → Prop} (h : WRo G FS Sh B wl w) (hO : Has Sh B O S) (k : Keeps O S w w2) : ∃ T, WR G FS Sh B (on wl T) w2 := by
  obtain ⟨T, h⟩ := h
  refine ⟨fun i q => w2.tape (w2.drawn + (i - wl.drawn)) q, fun r r' hb => ?_, h.fn, h.inj, h.low, h.glob, fun i q => ?_⟩
  · obtain ⟨o, o', h1, h2, h3⟩ := h.blk r r' hb
    refine ⟨o, o', h1, ?_, h3⟩
    rw [k.block r' ?_]
    · exact h2
    · by_cases hs : Sh r
      · exact .inr ((hO r r' hb).1 hs)
      · exact .inl ((hO r r' hb).2 hs)
  · show w2.tape (w2.drawn + (wl.drawn + i - wl.drawn)) q = w2.tape (w2.drawn + i) q
    rw [Nat.add_sub_cancel_left]
theorem EvO.of {B1 : BR} {w2 w1 : World} {O S : Nat → Prop} (hO : Has Sh B O S) (hd : Did Sh B B1 w2 w1) {e : Event} (h : EvOK Sh B1 e) : EvO (own O w2 w1) S e := by
  have key : ∀ r r', B1 r r' → (Sh r → S r') ∧ (¬Sh r → own O w2 w1 r') := by
    intro r r' hb
    rcases hd.new r r' hb with q | ⟨q1, q2, q3⟩
    · exact ⟨(hO r r' q).1, fun hs => .inl ((hO r r' q).2 hs)⟩
    · exact ⟨fun hs => absurd hs q3, fun _ => .inr ⟨q1, q2⟩⟩
  rcases h with ⟨a, e1, r, hb⟩ | ⟨a, e1, r, hb, hs⟩ | h | ⟨r', e1, r, hb, hs⟩
  · refine .inl ⟨a, e1, ?_⟩
    by_cases hs : Sh r
    · exact .inr ((key _ _ hb).1 hs)
    · exact .inl ((key _ _ hb).2 hs)
  · exact .inr (.inl ⟨a, e1, (key _ _ hb).2 hs⟩)
  · exact .inr (.inr (.inl h))
  · exact .inr (.inr (.inr ⟨r', e1, (key _ _ hb).2 hs⟩))
theorem DidO.of {B1 : BR} {w2 w1 : World} {O S : Nat → Prop} (hO : Has Sh B O S) (hd : Did Sh B B1 w2 w1) : DidO O w2 w1 := by
  refine ⟨hd.os, hd.tape, hd.output, hd.size, fun r hr hn => hd.kept r hr fun q hb => ?_⟩
  by_cases hs : Sh q
  · exact hs
  · exact absurd ((hO q r hb).2 hs) hn
/-- What is there at the end. -/
def FinV (G : Nat) (FS : FuncId → Prop) (Sh : Nat → Prop) (P : Program) (S : Nat → Prop) (Post : Frame → World → Prop) (O : Nat → Prop) (fr' : Frame) (w : World) : Prop := ∃ B fr wl, Has Sh B O S ∧ FR G FS P B fr fr' ∧ WR G FS Sh B wl w ∧ Post fr wl
theorem runs_of_ends (H : OpenOK G FS P) (HB : BodiesOK G FS P) {S : Nat → Prop} {base : List Frame} {Post : Frame → World → Prop} (hT : ∀ fr w T, Post fr w → Post fr (on w T)) {fr : Frame} {l : List Frame} {wl : World} (he : Ends P Post fr l wl) :
    ∀ {B : BR} {fr' : Frame} {l' : List Frame} {w : World} {O : Nat → Prop}, FR G FS P B fr fr' → FRs G FS P B l l' → WRo G FS Sh B wl w → Has Sh B O S → Runs P S base (FinV G FS Sh P S Post) O fr' (l' ++ base) w := by
  induction he with
  | @done fr wl hm hp =>
    intro B fr' l' w O hf hl hw hO
    cases hl
    refine .done (by rw [hf.mode]; exact hm) fun w2 hk => ?_
    obtain ⟨T, hw2⟩ := hw.keeps hO hk
    exact ⟨B, fr, _, hO, hf, hw2, hT _ _ _ hp⟩
  | @step fr l wl hend hsome hall ih =>
    intro B fr' l' w O hf hl hw hO
    have key : ∀ w2, Keeps O S w w2 → ∃ fr1 l1 wl1, Ends P Post fr1 l1 wl1 ∧ (∃ T es, Step1 P fr (l ++ [shut P]) (on wl T) fr1 (l1 ++ [shut P]) wl1 es) ∧ ∃ B1 fr1' l1' w1 es', Step1 P fr' (l' ++ base) w2 fr1' (l1' ++ base) w1 es' ∧ FR G FS P B1 fr1 fr1' ∧ FRs G FS P B1 l1 l1' ∧ WR G FS Sh B1 wl1 w1 ∧ Did Sh B B1 w2 w1 ∧ ∀ e ∈ es', EvOK Sh B1 e := by
      intro w2 hk
      obtain ⟨T, hw2⟩ := hw.keeps hO hk
      obtain ⟨fr1, l1, wl1, es, hs⟩ := hsome T
      obtain ⟨B1, fr1', l2, l1', w1, es', m⟩ := Step1.sim H HB (base := base) hf hl hw2 hs hend
      have e : l1 = l2 := by simpa using m.cs1
      subst e
      exact ⟨fr1, l1, wl1, hall T fr1 l1 wl1 es hs, ⟨T, es, hs⟩, B1, fr1', l1', w1, es', m.step, m.fr, m.frs, m.wr, m.did, m.ev⟩
    have ft' : FT G FS P fr' := by
      have := hf.ft
      refine ⟨by rw [hf.fn]; exact this.fn, by rw [hf.todo]; exact this.todo, ?_, ?_, ?_⟩
      · rw [hf.eq]; exact this.defers
      · rw [hf.eq]; exact this.kind
      · rw [hf.eq]; exact this.round
    refine .step (fun w2 hk => ?_) fun w2 fr1' cs1' w1 es hk hs => ?_
    · obtain ⟨fr1, l1, wl1, _, _, B1, fr1', l1', w1, es', k1, _, _, _, k5, k6⟩ := key w2 hk
      exact ⟨fr1', l1' ++ base, w1, es', k1, fun main st off => k1.goes ft', DidO.of hO k5, fun e he => EvO.of hO k5 (k6 e he)⟩
    · obtain ⟨fr1, l1, wl1, _, ⟨T, es0, hs0⟩, B1, fr2', l1', w2', es', k1, k2, k3, k4, k5, k6⟩ := key w2 hk
      obtain ⟨e1, e2, e3⟩ := Step1.same ft' k1 hs
      subst e1 e2 e3
      refine ih T fr1 l1 wl1 es0 hs0 k2 k3 ⟨wl1.tape, k4⟩ fun r r' hb => ?_
      rcases k5.new r r' hb with q | ⟨q1, q2, q3⟩
      · exact ⟨(hO r r' q).1, fun hs => .inl ((hO r r' q).2 hs)⟩
      · exact ⟨fun hs => absurd hs q3, fun _ => .inr ⟨q1, q2⟩⟩
end
end Go.Proofs.Ytgeoffpcmkofkaa
