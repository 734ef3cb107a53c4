/- A call in company: its return. -/
import Derived.Test.YtgeoffpcmkofkaaKv
namespace Go.Proofs.Ytgeoffpcmkofkaa
open Go

section
variable {G : Nat} {FS : FuncId → Prop} {Sh : Nat → Prop} {P : Program} {S : Nat → Prop}
/-- At the end of the call: it hands its value back, and the value and the memory are those of which the lone contract speaks, up to the numbers of blocks. -/
theorem fin_ret (HB : BodiesOK G FS P) {f : FuncId} (hf : FS f) {Q : Value → World → Prop} {O : Nat → Prop} {fr' : Frame} {w : World} (h : FinV G FS Sh P S (PostV P f Q) O fr' w) (hm : fr'.mode = .returning) :
    ∃ B v v' wl, Has Sh B O S ∧ WR G FS Sh B wl w ∧ VR G FS B v v' ∧ Q v wl ∧ ∀ main st off c rest, stepG P main { frame := fr', callers := c :: rest, status := st, dying := none, offers := off } w = .go { frame := c.finish v', callers := rest, status := .running, dying := none } w #[] := by
  obtain ⟨B, fr, wl, h1, h2, h3, h4, fn, v, h5, h6, h7⟩ := h
  obtain ⟨ts, hts⟩ := tmps_of fn.results.toList (HB.res f hf fn h5)
  have e := results_tmps hts fr.tmps
  have e' := results_tmps hts fr'.tmps
  have hv : v = resOf (ts.map fun t => fr.tmps.getD t undef) := by
    rw [e] at h6
    simp only [pure, Sem.run] at h6
    injection h6 with h6 _
    exact h6.symm
  subst hv
  refine ⟨B, _, resOf (ts.map fun t => fr'.tmps.getD t undef), wl, h1, h3, resOf_rel h2.tmps ts, h7, fun main st off c rest => ?_⟩
  refine step_ret hm ?_ ?_ (by rw [h2.fn, h4]; exact h5) (by rw [e']; rfl)
  · rw [h2.eq]; exact h2.ft.defers
  · rw [h2.eq]; exact h2.ft.kind
/-- A call that has a lone contract on every tape, in company. -/
theorem runs_of_calls (H : OpenOK G FS P) (HB : BodiesOK G FS P) (HN : NoEarly P) {f : FuncId} (hf : FS f) {B : BR} {xs xs' : Array Value} (ha : VRs G FS B xs.toList xs'.toList) {wl w : World} (hw : WR G FS Sh B wl w) {O : Nat → Prop} (hO : Has Sh B O S) {Q : Value → World → Prop} (hQ : ∀ v w T, Q v w → Q v (on w T))
    (h : ∀ T, Calls P f xs (on wl T) fun e w' => ∃ v, e = .returned v ∧ Q v w') (base : List Frame) : Runs P S base (FinV G FS Sh P S (PostV P f Q)) O (Frame.enter P f xs' .normal) base w :=
  runs_of_ends H HB (postV_on HB hf hQ) (ends_of_calls H HB HN hf ha hw hQ h) (l' := []) (FR.enter HB hf ha) .nil ⟨wl.tape, hw⟩ hO

/-! ### The lone world of a goroutine that reads one row of memory -/
/-- The same world, one row of which may not be written. -/
def iced (w : World) (r0 : Nat) (c : Array Value) (e : TypeId) : World := { w with heap := w.heap.setIfInBounds r0 (.cells c e (0, c.size)) }
theorem iced_at {w : World} {r0 : Nat} {c : Array Value} {e : TypeId} (h : r0 < w.heap.size) : (iced w r0 c e).heap[r0]? = some (.cells c e (0, c.size)) := by
  simp [iced, h]
theorem iced_cell {w : World} {r0 : Nat} {c : Array Value} {e : TypeId} {fr : Nat × Nat} (h : w.heap[r0]? = some (.cells c e fr)) (a : Addr) : (iced w r0 c e).cell? a = w.cell? a := by
  have hlt : r0 < w.heap.size := (Array.getElem?_eq_some_iff.1 h).1
  by_cases ha : a.block = r0
  · subst ha
    simp [World.cell?, iced_at hlt, h]
  · have : (iced w r0 c e).heap[a.block]? = w.heap[a.block]? := by
      simp [iced, Ne.symm ha]
    simp [World.cell?, this]
theorem iced_WR {w : World} {r0 : Nat} {c : Array Value} {e : TypeId} (h : w.heap[r0]? = some (.cells c e (0, 0))) (hG : G ≤ w.heap.size) (hc : ∀ B, VRs G FS B c.toList c.toList) : WR G FS (· = r0) (fun r r' => r = r0 ∧ r' = r0) (iced w r0 c e) w := by
  have hlt : r0 < w.heap.size := (Array.getElem?_eq_some_iff.1 h).1
  refine ⟨fun r r' hb => ?_, fun r r' q' h1 h2 => h1.2.trans h2.2.symm, fun r q r' h1 h2 => h1.1.trans h2.1.symm, fun r hr => ?_, ?_, fun i q => rfl⟩
  · obtain ⟨rfl, rfl⟩ := hb
    exact ⟨_, _, iced_at hlt, h, .cells (hc _) (fun _ => rfl) fun hn => absurd rfl hn⟩
  · subst hr; simpa [iced] using hlt
  · simpa [iced] using hG
end
end Go.Proofs.Ytgeoffpcmkofkaa
