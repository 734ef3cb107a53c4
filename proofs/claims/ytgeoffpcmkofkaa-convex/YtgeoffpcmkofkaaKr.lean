/- A contract that holds on every tape gives the tree. -/
import Derived.Test.YtgeoffpcmkofkaaKq
namespace Go.Proofs.Ytgeoffpcmkofkaa
open Go

section
variable {G : Nat} {FS : FuncId → Prop} {Sh : Nat → Prop} {P : Program} {B : BR}
/-- What is left at the end: the frame's results are a value of which Q speaks. -/
def PostV (P : Program) (f : FuncId) (Q : Value → World → Prop) (fr : Frame) (w : World) : Prop := fr.fn = f ∧ ∃ fn v, P.funcs[f]? = some fn ∧ (results fn fr.tmps).run P w = .ok v w ∧ Q v w
theorem postV_on (HB : BodiesOK G FS P) {f : FuncId} (hf : FS f) {Q : Value → World → Prop} (hQ : ∀ v w T, Q v w → Q v (on w T)) (fr : Frame) (w : World) (T : Nat → Question → Nat) (h : PostV P f Q fr w) : PostV P f Q fr (on w T) := by
  obtain ⟨h1, fn, v, h2, h3, h4⟩ := h
  refine ⟨h1, fn, v, h2, ?_, hQ _ _ T h4⟩
  obtain ⟨ts, hts⟩ := tmps_of fn.results.toList (HB.res f hf fn h2)
  have e := results_tmps hts fr.tmps
  rw [e] at h3 ⊢
  simp only [pure, Sem.run] at h3 ⊢
  injection h3 with h3 _
  rw [h3]
theorem good_enter (HB : BodiesOK G FS P) {f : FuncId} (hf : FS f) {vas vas' : Array Value} (ha : VRs G FS B vas.toList vas'.toList) {wl w : World} (hw : WR G FS Sh B wl w) : Good G FS Sh P (Frame.enter P f vas .normal) [] wl := ⟨.inl rfl, B, _, [], w, FR.enter HB hf ha, .nil, hw⟩
theorem ends_of_calls (H : OpenOK G FS P) (HB : BodiesOK G FS P) (HN : NoEarly P) {f : FuncId} (hf : FS f) {vas vas' : Array Value} (ha : VRs G FS B vas.toList vas'.toList) {wl w : World} (hw : WR G FS Sh B wl w) {Q : Value → World → Prop} (hQ : ∀ v w T, Q v w → Q v (on w T))
    (h : ∀ T, Calls P f vas (on wl T) fun e w' => ∃ v, e = .returned v ∧ Q v w') : Ends P (PostV P f Q) (Frame.enter P f vas .normal) [] wl := by
  have hg := good_enter HB hf ha hw
  refine ends_of_reach H HB (postV_on HB hf hQ) hg fun T => ?_
  obtain ⟨e, w', fr, ⟨v, rfl, hv⟩, hc, hfn, hl⟩ := h T [shut P]
  obtain ⟨n, hn⟩ : Steps P (lone (Frame.enter P f vas .normal) [shut P] (on wl T)) (lone fr [shut P] w') := hc
  obtain ⟨hm, _, _, fn, hfn', hr⟩ := hl
  exact reach_of_run H HB HN hm (Post := PostV P f Q) ⟨hfn, fn, v, by rw [← hfn]; exact hfn', hr, hv⟩ n (hg.on T) hn
end
end Go.Proofs.Ytgeoffpcmkofkaa
