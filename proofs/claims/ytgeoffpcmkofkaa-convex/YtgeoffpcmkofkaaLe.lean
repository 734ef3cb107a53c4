/- Trees are built step by step. -/
import Derived.Test.YtgeoffpcmkofkaaLd
namespace Go.Proofs.Ytgeoffpcmkofkaa
open Go Go.Conc

section
variable {P : Program} {S : Nat → Prop} {c : Nat} {outs : List Value} {O O' : Nat → Prop} {g g1 : Goroutine} {w w' w1 w2 : World} {Fin : Goroutine → World → Prop} {E : Nat → Option (List Value)} {R : Option Nat} {a a1 : Goroutine}
theorem own_same (h : w1.heap.size = w2.heap.size) : own O w2 w1 = O := by
  funext r
  unfold own
  refine propext ⟨fun k => k.elim id fun k => ?_, .inl⟩
  omega
theorem Keeps.sub (h : Keeps O' S w w2) (k : ∀ r, O r → O' r) : Keeps O S w w2 := ⟨h.size, fun r hr => h.block r (hr.imp (k r) id), h.os, h.output⟩
theorem DidO.sub (h : DidO O w2 w1) (k : ∀ r, O r → O' r) : DidO O' w2 w1 := ⟨h.os, h.tape, h.output, h.size, fun r hr hn => h.kept r hr fun ho => hn (k r ho)⟩
theorem EvW.sub {e : Event} (h : EvW O S e) (k : ∀ r, O r → O' r) : EvW O' S e := by
  rcases h with ⟨a, h1, h2⟩ | h | ⟨r, h1, h2⟩
  · exact .inl ⟨a, h1, h2.imp (k _) id⟩
  · exact .inr (.inl h)
  · exact .inr (.inr ⟨r, h1, k r h2⟩)
theorem own_sub (k : ∀ r, O r → O' r) : ∀ r, own O w2 w1 r → own O' w2 w1 r := fun r h => h.imp (k r) id
theorem KT.keeps (h : KT P S c outs O g w) : ∀ {w'}, Keeps O S w w' → KT P S c outs O g w' := by
  induction h with
  | own hr h1 h2 _ => exact fun k => .own hr (fun w2 k2 => h1 w2 (k.trans k2)) fun w2 g1 w1 es k2 hs => h2 w2 g1 w1 es (k.trans k2) hs
  | send hr h1 _ ih => exact fun k => .send hr (fun w2 k2 => h1 w2 (k.trans k2)) (ih k)
  | shut hr hw h1 h2 => exact fun k => .shut hr hw (fun w2 cap s r tm k2 hc => h1 w2 cap s r tm (k.trans k2) hc) h2
theorem MB.keeps (h : MB P S Fin E R O a w) : ∀ {w'}, Keeps O S w w' → MB P S Fin E R O a w' := by
  induction h with
  | own hr h1 h2 _ => exact fun k => .own hr (fun w2 k2 => h1 w2 (k.trans k2)) fun w2 g1 w1 es k2 hs => h2 w2 g1 w1 es (k.trans k2) hs
  | make hr h1 h2 _ => exact fun k => .make hr (fun w2 k2 => h1 w2 (k.trans k2)) fun w2 g1 w1 es k2 hs => h2 w2 g1 w1 es (k.trans k2) hs
  | spawn hr hr1 h1 h2 _ ih => exact fun k => .spawn hr hr1 (fun w2 k2 => h1 w2 (k.trans k2)) (fun w2 k2 => h2 w2 (k.trans k2)) (ih k)
  | recv hr h1 h2 _ ih => exact fun k => .recv hr (fun w2 k2 => h1 w2 (k.trans k2)) h2 (ih k)
  | last hr h1 h2 _ ih => exact fun k => .last hr (fun w2 k2 => h1 w2 (k.trans k2)) h2 (ih k)
  | stop h1 h2 => exact fun k => .stop h1 fun w2 k2 => h2 w2 (k.trans k2)
theorem KT.go1 (hr : g.status = .running) (h : ∀ w2, Keeps O S w w2 → ∃ g1 w1 es, stepG P false g w2 = .go g1 w1 es ∧ DidO O w2 w1 ∧ (∀ e ∈ es, EvW (Ytgeoffpcmkofkaa.own O w2 w1) S e) ∧ KT P S c outs (Ytgeoffpcmkofkaa.own O w2 w1) g1 w1) : KT P S c outs O g w := by
  refine .own hr (fun w2 k => ?_) fun w2 g1 w1 es k hs => ?_
  · obtain ⟨g1, w1, es, h1, h2, h3, _⟩ := h w2 k
    exact ⟨g1, w1, es, h1, h2, h3⟩
  · obtain ⟨g1', w1', es', h1, _, _, h4⟩ := h w2 k
    rw [h1] at hs
    injection hs with e1 e2 _
    subst e1 e2
    exact h4
theorem MB.go1 (hr : a.status = .running) (h : ∀ w2, Keeps O S w w2 → ∃ a1 w1 es, stepG P true a w2 = .go a1 w1 es ∧ a1.status = .running ∧ DidO O w2 w1 ∧ (∀ e ∈ es, EvW (Ytgeoffpcmkofkaa.own O w2 w1) S e) ∧ MB P S Fin E R (Ytgeoffpcmkofkaa.own O w2 w1) a1 w1) : MB P S Fin E R O a w := by
  refine .own hr (fun w2 k => ?_) fun w2 g1 w1 es k hs => ?_
  · obtain ⟨g1, w1, es, h1, h2, h3, h4, _⟩ := h w2 k
    exact ⟨g1, w1, es, h1, h2, h3, h4⟩
  · obtain ⟨g1', w1', es', h1, _, _, _, h4⟩ := h w2 k
    rw [h1] at hs
    injection hs with e1 e2 _
    subst e1 e2
    exact h4
theorem DidO.refl (O : Nat → Prop) (w : World) : DidO O w w := ⟨rfl, rfl, rfl, Nat.le_refl _, fun _ _ _ => rfl⟩
/-- A step that only reads. -/
theorem KT.look (hr : g.status = .running) (h : ∀ w2, Keeps O S w w2 → ∃ es, stepG P false g w2 = .go g1 w2 es ∧ ∀ e ∈ es, EvW O S e) (k : KT P S c outs O g1 w) : KT P S c outs O g w :=
  .go1 hr fun w2 k2 => by
    obtain ⟨es, h1, h2⟩ := h w2 k2
    exact ⟨g1, w2, es, h1, .refl _ _, by rw [own_same rfl]; exact h2, by rw [own_same rfl]; exact k.keeps k2⟩
theorem MB.look (hr : a.status = .running) (hr1 : a1.status = .running) (h : ∀ w2, Keeps O S w w2 → ∃ es, stepG P true a w2 = .go a1 w2 es ∧ ∀ e ∈ es, EvW O S e) (k : MB P S Fin E R O a1 w) : MB P S Fin E R O a w :=
  .go1 hr fun w2 k2 => by
    obtain ⟨es, h1, h2⟩ := h w2 k2
    exact ⟨a1, w2, es, h1, hr1, .refl _ _, by rw [own_same rfl]; exact h2, by rw [own_same rfl]; exact k.keeps k2⟩
/-- A step that does not look at memory. -/
theorem KT.ctl (hr : g.status = .running) (h : ∀ w, stepG P false g w = .go g1 w #[]) (k : KT P S c outs O g1 w) : KT P S c outs O g w := .look hr (fun w2 _ => ⟨#[], h w2, by simp⟩) k
theorem MB.ctl (hr : a.status = .running) (hr1 : a1.status = .running) (h : ∀ w, stepG P true a w = .go a1 w #[]) (k : MB P S Fin E R O a1 w) : MB P S Fin E R O a w := .look hr hr1 (fun w2 _ => ⟨#[], h w2, by simp⟩) k
/-- A call that runs in company. -/
theorem KT.of_runs {base : List Frame} {FinR : (Nat → Prop) → Frame → World → Prop} {fr : Frame} {cs : List Frame} (h : Runs P S base FinR O fr cs w) (hf : ∀ O fr w, fr.mode = .returning → (∀ w2, Keeps O S w w2 → FinR O fr w2) → KT P S c outs O (G fr base) w) : KT P S c outs O (G fr cs) w := by
  induction h with
  | done hm hfin => exact hf _ _ _ hm hfin
  | step h1 _ ih =>
    refine .go1 rfl fun w2 k => ?_
    obtain ⟨fr1, cs1, w1, es, k1, k2, k3, k4⟩ := h1 w2 k
    exact ⟨_, w1, es, k2 false .running none, k3, fun e he => (k4 e he).toW, ih w2 fr1 cs1 w1 es k k1⟩
/-- The return of such a call: the value is the same, whatever the others do meanwhile. -/
theorem fin_ret2 {L : Nat} {FS : FuncId → Prop} {Sh : Nat → Prop} (HB : BodiesOK L FS P) {f : FuncId} (hf : FS f) {Q : Value → World → Prop} {fr' : Frame} (h : ∀ w2, Keeps O S w w2 → FinV L FS Sh P S (PostV P f Q) O fr' w2) (hm : fr'.mode = .returning) :
    ∃ v', (∀ w2, Keeps O S w w2 → ∃ B v wl, Has Sh B O S ∧ WR L FS Sh B wl w2 ∧ VR L FS B v v' ∧ Q v wl) ∧ ∀ w2 main c rest, stepG P main (G fr' (c :: rest)) w2 = .go (G (c.finish v') rest) w2 #[] := by
  obtain ⟨fn, hfn⟩ := HB.there f hf
  obtain ⟨ts, hts⟩ := tmps_of fn.results.toList (HB.res f hf fn hfn)
  refine ⟨resOf (ts.map fun t => fr'.tmps.getD t undef), fun w2 k => ?_, fun w2 main c rest => ?_⟩
  · obtain ⟨B, fr, wl, h1, h2, h3, h4, fn', v, h5, h6, h7⟩ := h w2 k
    rw [hfn] at h5
    injection h5 with h5
    subst h5
    have e := results_tmps hts fr.tmps
    have hv : v = resOf (ts.map fun t => fr.tmps.getD t undef) := by
      rw [e] at h6
      simp only [pure, Sem.run] at h6
      injection h6 with h6 _
      exact h6.symm
    subst hv
    exact ⟨B, _, wl, h1, h3, resOf_rel h2.tmps ts, h7⟩
  · obtain ⟨B, fr, wl, h1, h2, h3, h4, _⟩ := h w (Keeps.refl _ _ _)
    have e' := results_tmps hts fr'.tmps
    refine step_ret hm ?_ ?_ (by rw [h2.fn, h4]; exact hfn) (by rw [e']; rfl)
    · rw [h2.eq]; exact h2.ft.defers
    · rw [h2.eq]; exact h2.ft.kind
theorem Keeps.cell {ad : Addr} (h : Keeps O S w w2) (hb : O ad.block ∨ S ad.block) : w2.cell? ad = w.cell? ad := by
  unfold World.cell?
  rw [h.block ad.block hb]
end
end Go.Proofs.Ytgeoffpcmkofkaa
