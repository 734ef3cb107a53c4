/- Trees of goroutines that send on channels of their own, and of the one that starts them and receives. -/
import Derived.Conc.CrowdComm
import Derived.Test.YtgeoffpcmkofkaaKx
namespace Go.Proofs.Ytgeoffpcmkofkaa
open Go Go.Conc

/-- One value of a function put in another's place. -/
def put {α : Type} (f : Nat → α) (g : Nat) (x : α) : Nat → α := fun i => if i = g then x else f i
theorem put_same {α : Type} (f : Nat → α) (g : Nat) (x : α) : put f g x g = x := if_pos rfl
theorem put_ne {α : Type} (f : Nat → α) {g i : Nat} (x : α) (h : i ≠ g) : put f g x i = f i := if_neg h

/-- What one lists: its own, what nobody writes, and marks. -/
def EvW (O S : Nat → Prop) (e : Event) : Prop :=
  (∃ a : Addr, e.loc = .cell a ∧ (O a.block ∨ (S a.block ∧ e.write = false))) ∨ (∃ m, e = ⟨.mark m, false, true⟩ ∧ (m = .noRoom ∨ ∃ f, m = .extern f)) ∨ (∃ r, e = ⟨.obj r, false, false⟩ ∧ O r)
theorem EvO.toW {O S : Nat → Prop} {e : Event} (h : EvO O S e) : EvW O S e := by
  rcases h with ⟨a, rfl, h⟩ | ⟨a, rfl, h⟩ | h | h
  · exact .inl ⟨a, rfl, h.imp id fun k => ⟨k, rfl⟩⟩
  · exact .inl ⟨a, rfl, .inl h⟩
  · exact .inr (.inl h)
  · exact .inr (.inr h)
/-- One that works, sends these values on c, closes it and leaves. -/
inductive KT (P : Program) (S : Nat → Prop) (c : Nat) : List Value → (Nat → Prop) → Goroutine → World → Prop
  | own {outs : List Value} {O : Nat → Prop} {g : Goroutine} {w : World} : g.status = .running →
      (∀ w2, Keeps O S w w2 → ∃ g1 w1 es, stepG P false g w2 = .go g1 w1 es ∧ DidO O w2 w1 ∧ ∀ e ∈ es, EvW (own O w2 w1) S e) →
      (∀ w2 g1 w1 es, Keeps O S w w2 → stepG P false g w2 = .go g1 w1 es → KT P S c outs (own O w2 w1) g1 w1) → KT P S c outs O g w
  | send {v z : Value} {outs : List Value} {O : Nat → Prop} {g : Goroutine} {w : World} : g.status = .running →
      (∀ w2, Keeps O S w w2 → stepG P false g w2 = .comm g #[scase c v z] true .send w2 #[]) → KT P S c outs O (Conc.served g undef) w → KT P S c (v :: outs) O g w
  | shut {O : Nat → Prop} {g g1 : Goroutine} {w : World} {n : Nat} : g.status = .running → mayWake P g = true →
      (∀ w2 cap s r tm, Keeps O S w w2 → w2.heap[c]? = some (.chan cap #[] false s r tm) → stepG P false g w2 = .go g1 { w2 with heap := w2.heap.setIfInBounds c (.chan cap #[] true s r tm) } #[⟨.obj c, false, true⟩, ⟨.obj c, true, true⟩]) → QuitsIn P n g1 → KT P S c [] O g w
theorem KT.running {P : Program} {S : Nat → Prop} {c : Nat} {outs : List Value} {O : Nat → Prop} {g : Goroutine} {w : World} (h : KT P S c outs O g w) : g.status = .running := by
  cases h <;> assumption
/-- One that starts such, and receives from each till it is closed. -/
inductive MB (P : Program) (S : Nat → Prop) (Fin : Goroutine → World → Prop) : (Nat → Option (List Value)) → Option Nat → (Nat → Prop) → Goroutine → World → Prop
  | own {E : Nat → Option (List Value)} {R : Option Nat} {O : Nat → Prop} {a : Goroutine} {w : World} : a.status = .running →
      (∀ w2, Keeps O S w w2 → ∃ a1 w1 es, stepG P true a w2 = .go a1 w1 es ∧ a1.status = .running ∧ DidO O w2 w1 ∧ ∀ e ∈ es, EvW (own O w2 w1) S e) →
      (∀ w2 a1 w1 es, Keeps O S w w2 → stepG P true a w2 = .go a1 w1 es → MB P S Fin E R (own O w2 w1) a1 w1) → MB P S Fin E R O a w
  | make {E : Nat → Option (List Value)} {O : Nat → Prop} {a : Goroutine} {w : World} {tm : Bool} : a.status = .running →
      (∀ w2, Keeps O S w w2 → ∃ a1, stepG P true a w2 = .go a1 { w2 with heap := w2.heap.push (.chan 0 #[] false 0 0 tm) } #[] ∧ a1.status = .running) →
      (∀ w2 a1 w1 es, Keeps O S w w2 → stepG P true a w2 = .go a1 w1 es → MB P S Fin E (some w2.heap.size) O a1 w1) → MB P S Fin E none O a w
  | spawn {E : Nat → Option (List Value)} {c : Nat} {outs : List Value} {O : Nat → Prop} {a a1 child : Goroutine} {w : World} : a.status = .running → a1.status = .running →
      (∀ w2, Keeps O S w w2 → stepG P true a w2 = .spawn a1 child w2 #[]) → (∀ w2, Keeps O S w w2 → KT P S c outs (fun _ => False) child w2) →
      MB P S Fin (put E c (some outs)) none O a1 w → MB P S Fin E (some c) O a w
  | recv {E : Nat → Option (List Value)} {R : Option Nat} {c : Nat} {v z : Value} {outs : List Value} {O : Nat → Prop} {a : Goroutine} {w : World} : a.status = .running →
      (∀ w2, Keeps O S w w2 → stepG P true a w2 = .comm a #[rcase c z] true (.recv true) w2 #[]) → E c = some (v :: outs) →
      MB P S Fin (put E c (some outs)) R O (Conc.served a (recvd true v true)) w → MB P S Fin E R O a w
  | last {E : Nat → Option (List Value)} {R : Option Nat} {c : Nat} {z : Value} {O : Nat → Prop} {a : Goroutine} {w : World} : a.status = .running →
      (∀ w2, Keeps O S w w2 → stepG P true a w2 = .comm a #[rcase c z] true (.recv true) w2 #[]) → E c = some [] →
      MB P S Fin (put E c none) R O (Conc.served a (recvd true z false)) w → MB P S Fin E R O a w
  | stop {E : Nat → Option (List Value)} {O : Nat → Prop} {a : Goroutine} {w : World} : (∀ c, E c = none) → (∀ w2, Keeps O S w w2 → Fin a w2) → MB P S Fin E none O a w

/-! ### Memory and trace, shared out -/
theorem Keeps.refl (O S : Nat → Prop) (w : World) : Keeps O S w w := ⟨Nat.le_refl _, fun _ _ => rfl, rfl, rfl⟩
theorem Keeps.trans {O S : Nat → Prop} {w w1 w2 : World} (h : Keeps O S w w1) (k : Keeps O S w1 w2) : Keeps O S w w2 := ⟨Nat.le_trans h.size k.size, fun r hr => (k.block r hr).trans (h.block r hr), k.os.trans h.os, k.output.trans h.output⟩
structure Reg (Live : Nat → Prop) (Own : Nat → Nat → Prop) (S Ch : Nat → Prop) (W : Nat → World) (w : World) (t : Trace) : Prop where
  lie : Lie Live Own S Ch
  low : ∀ g b, Live g → Own g b → b < w.heap.size
  sLow : ∀ b, S b → b < w.heap.size
  cLow : ∀ b, Ch b → b < w.heap.size
  keeps : ∀ g, Live g → Keeps (Own g) S (W g) w
  tb : TB Live Own S Ch w.heap.size t
section
variable {Live Live' : Nat → Prop} {Own : Nat → Nat → Prop} {S Ch Ch' : Nat → Prop} {W : Nat → World} {w w1 : World} {t : Trace}
theorem Reg.heap (h : Reg Live Own S Ch W w t) (e : w1.heap = w.heap) (eo : w1.os = w.os) (eu : w1.output = w.output) : Reg Live Own S Ch W w1 t := by
  refine ⟨h.lie, ?_, ?_, ?_, fun g hg => ⟨?_, fun r hr => ?_, eo.trans (h.keeps g hg).os, eu.trans (h.keeps g hg).output⟩, ?_⟩
  · rw [e]; exact h.low
  · rw [e]; exact h.sLow
  · rw [e]; exact h.cLow
  · rw [e]; exact (h.keeps g hg).size
  · rw [e]; exact (h.keeps g hg).block r hr
  · rw [e]; exact h.tb
theorem ok_of_evW {g : Nat} {N : Nat} {fn : FuncId} {pos : String} {e : Event} (h : EvW (Own g) S e) (hlow : ∀ b, Own g b → b < N) (hs : ∀ b, S b → b < N) : OkT Own S Ch N g { g, fn, pos, act := .ofEvent e } := by
  rcases h with ⟨a, ha, hb⟩ | ⟨m, rfl, hm⟩ | ⟨r, rfl, hb⟩
  · obtain ⟨loc, wr, sy⟩ := e
    simp only at ha hb
    subst ha
    refine ⟨rfl, fun x hx _ => ?_, ?_, by simp [MemAct.ofEvent], by simp [MemAct.ofEvent]⟩
    · simp only [MemAct.ofEvent, MemAct.touch?, Option.some.injEq] at hx
      subst hx
      exact ⟨a.block, rfl, hb.imp id .inl⟩
    · exact hb.elim (hlow _) fun k => hs _ k.1
  · rcases hm with rfl | ⟨f, rfl⟩
    · exact ⟨rfl, fun x hx _ => by simp [MemAct.ofEvent, MemAct.touch?] at hx, trivial, by simp [MemAct.ofEvent], by simp [MemAct.ofEvent]⟩
    · exact ⟨rfl, fun x hx _ => by simp [MemAct.ofEvent, MemAct.touch?] at hx, trivial, by simp [MemAct.ofEvent], by simp [MemAct.ofEvent]⟩
  · refine ⟨rfl, fun x hx _ => ?_, ?_, by simp [MemAct.ofEvent], by simp [MemAct.ofEvent]⟩
    · simp only [MemAct.ofEvent, MemAct.touch?, Option.some.injEq] at hx
      subst hx
      exact ⟨r, rfl, .inl hb⟩
    · exact hlow _ hb
/-- A step of one of them. -/
theorem Reg.step (h : Reg Live Own S Ch W w t) {g : Nat} (hg : Live g) (hd : DidO (Own g) w w1) {es : Array Event} (he : ∀ e ∈ es, EvW (own (Own g) w w1) S e) (fn : FuncId) (pos : String) :
    Reg Live (put Own g (own (Own g) w w1)) S Ch (put W g w1) w1 (t ++ MemOp.ofEvents g fn pos es) := by
  have hlow : ∀ g' b, Live g' → put Own g (own (Own g) w w1) g' b → b < w1.heap.size := by
    intro g' b hg' hb
    by_cases e : g' = g
    · subst e
      rw [put_same] at hb
      rcases hb with hb | hb
      · exact Nat.lt_of_lt_of_le (h.low g' b hg hb) hd.size
      · exact hb.2
    · rw [put_ne _ _ e] at hb
      exact Nat.lt_of_lt_of_le (h.low g' b hg' hb) hd.size
  have hsl : ∀ b, S b → b < w1.heap.size := fun b hb => Nat.lt_of_lt_of_le (h.sLow b hb) hd.size
  have hcl : ∀ b, Ch b → b < w1.heap.size := fun b hb => Nat.lt_of_lt_of_le (h.cLow b hb) hd.size
  have key : ∀ g' b, Live g' → g' ≠ g → Own g' b → ¬own (Own g) w w1 b := by
    intro g' b hg' hne hb hb'
    rcases hb' with hb' | hb'
    · exact hne (h.lie.own g' g b hg' hg hb hb')
    · exact absurd (h.low g' b hg' hb) (by omega)
  have lie : Lie Live (put Own g (own (Own g) w w1)) S Ch := by
    refine ⟨fun g1 g2 b l1 l2 o1 o2 => ?_, fun g1 b l1 o1 hs => ?_, fun g1 b l1 o1 hc => ?_, h.lie.chS⟩
    · by_cases e1 : g1 = g <;> by_cases e2 : g2 = g
      · rw [e1, e2]
      · rw [e1, put_same] at o1; rw [put_ne _ _ e2] at o2; exact absurd o1 (key g2 b l2 e2 o2)
      · rw [put_ne _ _ e1] at o1; rw [e2, put_same] at o2; exact absurd o2 (key g1 b l1 e1 o1)
      · rw [put_ne _ _ e1] at o1; rw [put_ne _ _ e2] at o2; exact h.lie.own g1 g2 b l1 l2 o1 o2
    · by_cases e1 : g1 = g
      · rw [e1, put_same] at o1
        rcases o1 with o1 | o1
        · exact h.lie.ownS g b hg o1 hs
        · exact absurd (h.sLow b hs) (by omega)
      · rw [put_ne _ _ e1] at o1; exact h.lie.ownS g1 b l1 o1 hs
    · by_cases e1 : g1 = g
      · rw [e1, put_same] at o1
        rcases o1 with o1 | o1
        · exact h.lie.ownCh g b hg o1 hc
        · exact absurd (h.cLow b hc) (by omega)
      · rw [put_ne _ _ e1] at o1; exact h.lie.ownCh g1 b l1 o1 hc
  refine ⟨lie, hlow, hsl, hcl, fun g' hg' => ?_, ?_⟩
  · by_cases e : g' = g
    · subst e
      rw [put_same, put_same]
      exact Keeps.refl _ _ _
    · rw [put_ne _ _ e, put_ne _ _ e]
      refine (h.keeps g' hg').trans ⟨hd.size, fun r hr => ?_, hd.os, hd.output⟩
      rcases hr with hr | hr
      · exact hd.kept r (h.low g' r hg' hr) fun hx => e (h.lie.own g' g r hg' hg hr hx)
      · exact hd.kept r (h.sLow r hr) fun hx => h.lie.ownS g r hg hx hr
  · refine TB.app lie (h.tb.mono (fun g' b _ hb => ?_) (fun _ hb => hb) hd.size) hg fun op hop => ?_
    · by_cases e : g' = g
      · subst e; rw [put_same]; exact .inl hb
      · rw [put_ne _ _ e]; exact hb
    · obtain ⟨e, he', rfl⟩ := Conc.mem_ofEvents hop
      refine ok_of_evW ?_ (fun b hb => hlow g b hg hb) hsl
      rw [put_same]
      exact he e he'
/-- A channel changes. -/
theorem Reg.chan (h : Reg Live Own S Ch W w t) {c : Nat} (hc : Ch c) {o : Obj} (e : w1.heap = w.heap.setIfInBounds c o) (eo : w1.os = w.os) (eu : w1.output = w.output) : Reg Live Own S Ch W w1 t := by
  have hsz : w1.heap.size = w.heap.size := by rw [e]; simp
  refine ⟨h.lie, ?_, ?_, ?_, fun g hg => ⟨?_, fun r hr => ?_, eo.trans (h.keeps g hg).os, eu.trans (h.keeps g hg).output⟩, ?_⟩
  · rw [hsz]; exact h.low
  · rw [hsz]; exact h.sLow
  · rw [hsz]; exact h.cLow
  · rw [hsz]; exact (h.keeps g hg).size
  · have hne : c ≠ r := by
      rintro rfl
      rcases hr with hr | hr
      · exact h.lie.ownCh g c hg hr hc
      · exact h.lie.chS c hc hr
    rw [e, Array.getElem?_setIfInBounds_ne hne]
    exact (h.keeps g hg).block r hr
  · rw [hsz]; exact h.tb
/-- Something is done that touches nothing. -/
theorem Reg.still (h : Reg Live Own S Ch W w t) {u : Trace} (hu : ∀ op ∈ u, Still w.heap.size op) : Reg Live Own S Ch W w (t ++ u) := ⟨h.lie, h.low, h.sLow, h.cLow, h.keeps, h.tb.still hu⟩
theorem Reg.mute (h : Reg Live Own S Ch W w t) {g : Nat} (hg : ¬Live g) {u : Trace} (hu : ∀ op ∈ u, op.g = g ∧ op.act.touch? = none ∧ op.act.low w.heap.size) : Reg Live Own S Ch W w (t ++ u) := ⟨h.lie, h.low, h.sLow, h.cLow, h.keeps, h.tb.mute hg hu⟩
/-- One more is started; a channel that is nobody's becomes a channel of the company. -/
theorem Reg.fork (h : Reg Live Own S Ch W w t) (h0 : Live 0) {k : Nat} (hk : ¬Live k) (hdeaf : Deaf t k = 0) {x y : MemOp} (hx : x.g = 0 ∧ x.act = .go k) (hy : y.g = k ∧ y.act = .start) (hL : ∀ g, Live' g ↔ Live g ∨ g = k)
    {c : Nat} (hC : ∀ b, Ch' b ↔ Ch b ∨ b = c) (hc : c < w.heap.size) (hco : ∀ g, Live g → ¬Own g c) (hcs : ¬S c) : Reg Live' (put Own k fun _ => False) S Ch' (put W k w) w (t ++ #[x, y]) := by
  have ow : ∀ g b, Live' g → put Own k (fun _ => False) g b → Live g ∧ Own g b := by
    intro g b hg hb
    by_cases e : g = k
    · rw [e, put_same] at hb; exact hb.elim
    · rw [put_ne _ _ e] at hb; exact ⟨((hL g).1 hg).resolve_right e, hb⟩
  refine ⟨⟨fun g g' b l1 l2 o1 o2 => ?_, fun g b l1 o1 => ?_, fun g b l1 o1 hb => ?_, fun b hb => ?_⟩, fun g b hg hb => ?_, h.sLow, fun b hb => ?_, fun g hg => ?_, ?_⟩
  · obtain ⟨a1, a2⟩ := ow g b l1 o1
    obtain ⟨b1, b2⟩ := ow g' b l2 o2
    exact h.lie.own g g' b a1 b1 a2 b2
  · obtain ⟨a1, a2⟩ := ow g b l1 o1
    exact h.lie.ownS g b a1 a2
  · obtain ⟨a1, a2⟩ := ow g b l1 o1
    rcases (hC b).1 hb with hb | rfl
    · exact h.lie.ownCh g b a1 a2 hb
    · exact hco g a1 a2
  · rcases (hC b).1 hb with hb | rfl
    · exact h.lie.chS b hb
    · exact hcs
  · obtain ⟨a1, a2⟩ := ow g b hg hb
    exact h.low g b a1 a2
  · rcases (hC b).1 hb with hb | rfl
    · exact h.cLow b hb
    · exact hc
  · by_cases e : g = k
    · rw [e, put_same, put_same]; exact Keeps.refl _ _ _
    · rw [put_ne _ _ e, put_ne _ _ e]; exact h.keeps g (((hL g).1 hg).resolve_right e)
  · refine TB.fork (h.tb.mono (fun g b hg hb => ?_) (fun b hb => (hC b).2 (.inl hb)) (Nat.le_refl _)) h0 hdeaf hx hy hL
    have hne : g ≠ k := fun e => hk (by rw [← e]; exact hg)
    rw [put_ne _ _ hne]
    exact hb
/-- A new block that is nobody's. -/
theorem Reg.new (h : Reg Live Own S Ch W w t) {o : Obj} (e : w1.heap = w.heap.push o) (eo : w1.os = w.os) (eu : w1.output = w.output) : Reg Live Own S Ch W w1 t := by
  have hsz : w.heap.size ≤ w1.heap.size := by rw [e]; simp
  refine ⟨h.lie, fun g b hg hb => Nat.lt_of_lt_of_le (h.low g b hg hb) hsz, fun b hb => Nat.lt_of_lt_of_le (h.sLow b hb) hsz, fun b hb => Nat.lt_of_lt_of_le (h.cLow b hb) hsz, fun g hg => (h.keeps g hg).trans ⟨hsz, fun r hr => ?_, eo, eu⟩, h.tb.mono (fun _ _ _ hb => hb) (fun _ hb => hb) hsz⟩
  have hr : r < w.heap.size := hr.elim (h.low g r hg) (h.sLow r)
  rw [e, Array.getElem?_push_lt hr]
  simp [hr]
/-- Who goes on as from now. -/
theorem Reg.now (h : Reg Live Own S Ch W w t) (g : Nat) : Reg Live Own S Ch (put W g w) w t := by
  refine ⟨h.lie, h.low, h.sLow, h.cLow, fun g' hg' => ?_, h.tb⟩
  by_cases e : g' = g
  · rw [e, put_same]; exact Keeps.refl _ _ _
  · rw [put_ne _ _ e]; exact h.keeps g' hg'
end
end Go.Proofs.Ytgeoffpcmkofkaa
