/- Ky; Kz; La; Lb; Lc; Ld: texts laid into one. -/
import Derived.Conc.CrowdComm
import Derived.Test.YtgeoffpcmkofkaaRau
/- Trees of goroutines that send on channels of their own, and of the one that starts them and receives. -/
namespace Go.Proofs.Ytgeoffpcmkofkaa
open Go Go.Conc

/-- One value of a function put in another's place. -/
def put {α : Type} (f : Nat → α) (g : Nat) (x : α) : Nat → α := fun i => if i = g then x else f i
theorem put_same {α : Type} (f : Nat → α) (g : Nat) (x : α) : put f g x g = x := if_pos rfl
theorem put_ne {α : Type} (f : Nat → α) {g i : Nat} (x : α) (h : i ≠ g) : put f g x i = f i := if_neg h

/-- What one lists: its own, what nobody writes, and marks. -/
def EvW (O S : Nat → Prop) (e : Event) : Prop :=
  (∃ a : Addr, e.loc = .cell a ∧ (O a.block ∨ (S a.block ∧ e.write = false))) ∨ (∃ m, e = ⟨.mark m, false, true⟩ ∧ (m = .noRoom ∨ ∃ f, m = .extern f)) ∨ (∃ r, e = ⟨.obj r, false, false⟩ ∧ O r)
theorem EvO.toW {O S : Nat → Prop} {e : Event} (h : EvO O S e) : EvW O S e := by
  rcases h with ⟨a, rfl, h⟩ | ⟨a, rfl, h⟩ | h | h
  · exact .inl ⟨a, rfl, h.imp id fun k => ⟨k, rfl⟩⟩
  · exact .inl ⟨a, rfl, .inl h⟩
  · exact .inr (.inl h)
  · exact .inr (.inr h)
/-- One that works, sends these values on c, closes it and leaves. -/
inductive KT (P : Program) (S : Nat → Prop) (c : Nat) : List Value → (Nat → Prop) → Goroutine → World → Prop
  | own {outs : List Value} {O : Nat → Prop} {g : Goroutine} {w : World} : g.status = .running →
      (∀ w2, Keeps O S w w2 → ∃ g1 w1 es, stepG P false g w2 = .go g1 w1 es ∧ DidO O w2 w1 ∧ ∀ e ∈ es, EvW (own O w2 w1) S e) →
      (∀ w2 g1 w1 es, Keeps O S w w2 → stepG P false g w2 = .go g1 w1 es → KT P S c outs (own O w2 w1) g1 w1) → KT P S c outs O g w
  | send {v z : Value} {outs : List Value} {O : Nat → Prop} {g : Goroutine} {w : World} : g.status = .running →
      (∀ w2, Keeps O S w w2 → stepG P false g w2 = .comm g #[scase c v z] true .send w2 #[]) → KT P S c outs O (Conc.served g undef) w → KT P S c (v :: outs) O g w
  | shut {O : Nat → Prop} {g g1 : Goroutine} {w : World} {n : Nat} : g.status = .running → mayWake P g = true →
      (∀ w2 cap s r tm, Keeps O S w w2 → w2.heap[c]? = some (.chan cap #[] false s r tm) → stepG P false g w2 = .go g1 { w2 with heap := w2.heap.setIfInBounds c (.chan cap #[] true s r tm) } #[⟨.obj c, false, true⟩, ⟨.obj c, true, true⟩]) → QuitsIn P n g1 → KT P S c [] O g w
theorem KT.running {P : Program} {S : Nat → Prop} {c : Nat} {outs : List Value} {O : Nat → Prop} {g : Goroutine} {w : World} (h : KT P S c outs O g w) : g.status = .running := by
  cases h <;> assumption
/-- One that starts such, and receives from each till it is closed. -/
inductive MB (P : Program) (S : Nat → Prop) (Fin : Goroutine → World → Prop) : (Nat → Option (List Value)) → Option Nat → (Nat → Prop) → Goroutine → World → Prop
  | own {E : Nat → Option (List Value)} {R : Option Nat} {O : Nat → Prop} {a : Goroutine} {w : World} : a.status = .running →
      (∀ w2, Keeps O S w w2 → ∃ a1 w1 es, stepG P true a w2 = .go a1 w1 es ∧ a1.status = .running ∧ DidO O w2 w1 ∧ ∀ e ∈ es, EvW (own O w2 w1) S e) →
      (∀ w2 a1 w1 es, Keeps O S w w2 → stepG P true a w2 = .go a1 w1 es → MB P S Fin E R (own O w2 w1) a1 w1) → MB P S Fin E R O a w
  | make {E : Nat → Option (List Value)} {O : Nat → Prop} {a : Goroutine} {w : World} {tm : Bool} : a.status = .running →
      (∀ w2, Keeps O S w w2 → ∃ a1, stepG P true a w2 = .go a1 { w2 with heap := w2.heap.push (.chan 0 #[] false 0 0 tm) } #[] ∧ a1.status = .running) →
      (∀ w2 a1 w1 es, Keeps O S w w2 → stepG P true a w2 = .go a1 w1 es → MB P S Fin E (some w2.heap.size) O a1 w1) → MB P S Fin E none O a w
  | spawn {E : Nat → Option (List Value)} {c : Nat} {outs : List Value} {O : Nat → Prop} {a a1 child : Goroutine} {w : World} : a.status = .running → a1.status = .running →
      (∀ w2, Keeps O S w w2 → stepG P true a w2 = .spawn a1 child w2 #[]) → (∀ w2, Keeps O S w w2 → KT P S c outs (fun _ => False) child w2) →
      MB P S Fin (put E c (some outs)) none O a1 w → MB P S Fin E (some c) O a w
  | recv {E : Nat → Option (List Value)} {R : Option Nat} {c : Nat} {v z : Value} {outs : List Value} {O : Nat → Prop} {a : Goroutine} {w : World} : a.status = .running →
      (∀ w2, Keeps O S w w2 → stepG P true a w2 = .comm a #[rcase c z] true (.recv true) w2 #[]) → E c = some (v :: outs) →
      MB P S Fin (put E c (some outs)) R O (Conc.served a (recvd true v true)) w → MB P S Fin E R O a w
  | last {E : Nat → Option (List Value)} {R : Option Nat} {c : Nat} {z : Value} {O : Nat → Prop} {a : Goroutine} {w : World} : a.status = .running →
      (∀ w2, Keeps O S w w2 → stepG P true a w2 = .comm a #[rcase c z] true (.recv true) w2 #[]) → E c = some [] →
      MB P S Fin (put E c none) R O (Conc.served a (recvd true z false)) w → MB P S Fin E R O a w
  | stop {E : Nat → Option (List Value)} {O : Nat → Prop} {a : Goroutine} {w : World} : (∀ c, E c = none) → (∀ w2, Keeps O S w w2 → Fin a w2) → MB P S Fin E none O a w

/-! ### Memory and trace, shared out -/
theorem Keeps.refl (O S : Nat → Prop) (w : World) : Keeps O S w w := ⟨Nat.le_refl _, fun _ _ => rfl, rfl, rfl⟩
theorem Keeps.trans {O S : Nat → Prop} {w w1 w2 : World} (h : Keeps O S w w1) (k : Keeps O S w1 w2) : Keeps O S w w2 := ⟨Nat.le_trans h.size k.size, fun r hr => (k.block r hr).trans (h.block r hr), k.os.trans h.os, k.output.trans h.output⟩
structure Reg (Live : Nat → Prop) (Own : Nat → Nat → Prop) (S Ch : Nat → Prop) (W : Nat → World) (w : World) (t : Trace) : Prop where
  lie : Lie Live Own S Ch
  low : ∀ g b, Live g → Own g b → b < w.heap.size
  sLow : ∀ b, S b → b < w.heap.size
  cLow : ∀ b, Ch b → b < w.heap.size
  keeps : ∀ g, Live g → Keeps (Own g) S (W g) w
  tb : TB Live Own S Ch w.heap.size t
section
variable {Live Live' : Nat → Prop} {Own : Nat → Nat → Prop} {S Ch Ch' : Nat → Prop} {W : Nat → World} {w w1 : World} {t : Trace}
theorem Reg.heap (h : Reg Live Own S Ch W w t) (e : w1.heap = w.heap) (eo : w1.os = w.os) (eu : w1.output = w.output) : Reg Live Own S Ch W w1 t := by
  refine ⟨h.lie, ?_, ?_, ?_, fun g hg => ⟨?_, fun r hr => ?_, eo.trans (h.keeps g hg).os, eu.trans (h.keeps g hg).output⟩, ?_⟩
  · rw [e]; exact h.low
  · rw [e]; exact h.sLow
  · rw [e]; exact h.cLow
  · rw [e]; exact (h.keeps g hg).size
  · rw [e]; exact (h.keeps g hg).block r hr
  · rw [e]; exact h.tb
theorem ok_of_evW {g : Nat} {N : Nat} {fn : FuncId} {pos : String} {e : Event} (h : EvW (Own g) S e) (hlow : ∀ b, Own g b → b < N) (hs : ∀ b, S b → b < N) : OkT Own S Ch N g { g, fn, pos, act := .ofEvent e } := by
  rcases h with ⟨a, ha, hb⟩ | ⟨m, rfl, hm⟩ | ⟨r, rfl, hb⟩
  · obtain ⟨loc, wr, sy⟩ := e
    simp only at ha hb
    subst ha
    refine ⟨rfl, fun x hx _ => ?_, ?_, by simp [MemAct.ofEvent], by simp [MemAct.ofEvent]⟩
    · simp only [MemAct.ofEvent, MemAct.touch?, Option.some.injEq] at hx
      subst hx
      exact ⟨a.block, rfl, hb.imp id .inl⟩
    · exact hb.elim (hlow _) fun k => hs _ k.1
  · rcases hm with rfl | ⟨f, rfl⟩
    · exact ⟨rfl, fun x hx _ => by simp [MemAct.ofEvent, MemAct.touch?] at hx, trivial, by simp [MemAct.ofEvent], by simp [MemAct.ofEvent]⟩
    · exact ⟨rfl, fun x hx _ => by simp [MemAct.ofEvent, MemAct.touch?] at hx, trivial, by simp [MemAct.ofEvent], by simp [MemAct.ofEvent]⟩
  · refine ⟨rfl, fun x hx _ => ?_, ?_, by simp [MemAct.ofEvent], by simp [MemAct.ofEvent]⟩
    · simp only [MemAct.ofEvent, MemAct.touch?, Option.some.injEq] at hx
      subst hx
      exact ⟨r, rfl, .inl hb⟩
    · exact hlow _ hb
/-- A step of one of them. -/
theorem Reg.step (h : Reg Live Own S Ch W w t) {g : Nat} (hg : Live g) (hd : DidO (Own g) w w1) {es : Array Event} (he : ∀ e ∈ es, EvW (own (Own g) w w1) S e) (fn : FuncId) (pos : String) :
    Reg Live (put Own g (own (Own g) w w1)) S Ch (put W g w1) w1 (t ++ MemOp.ofEvents g fn pos es) := by
  have hlow : ∀ g' b, Live g' → put Own g (own (Own g) w w1) g' b → b < w1.heap.size := by
    intro g' b hg' hb
    by_cases e : g' = g
    · subst e
      rw [put_same] at hb
      rcases hb with hb | hb
      · exact Nat.lt_of_lt_of_le (h.low g' b hg hb) hd.size
      · exact hb.2
    · rw [put_ne _ _ e] at hb
      exact Nat.lt_of_lt_of_le (h.low g' b hg' hb) hd.size
  have hsl : ∀ b, S b → b < w1.heap.size := fun b hb => Nat.lt_of_lt_of_le (h.sLow b hb) hd.size
  have hcl : ∀ b, Ch b → b < w1.heap.size := fun b hb => Nat.lt_of_lt_of_le (h.cLow b hb) hd.size
  have key : ∀ g' b, Live g' → g' ≠ g → Own g' b → ¬own (Own g) w w1 b := by
    intro g' b hg' hne hb hb'
    rcases hb' with hb' | hb'
    · exact hne (h.lie.own g' g b hg' hg hb hb')
    · exact absurd (h.low g' b hg' hb) (by omega)
  have lie : Lie Live (put Own g (own (Own g) w w1)) S Ch := by
    refine ⟨fun g1 g2 b l1 l2 o1 o2 => ?_, fun g1 b l1 o1 hs => ?_, fun g1 b l1 o1 hc => ?_, h.lie.chS⟩
    · by_cases e1 : g1 = g <;> by_cases e2 : g2 = g
      · rw [e1, e2]
      · rw [e1, put_same] at o1; rw [put_ne _ _ e2] at o2; exact absurd o1 (key g2 b l2 e2 o2)
      · rw [put_ne _ _ e1] at o1; rw [e2, put_same] at o2; exact absurd o2 (key g1 b l1 e1 o1)
      · rw [put_ne _ _ e1] at o1; rw [put_ne _ _ e2] at o2; exact h.lie.own g1 g2 b l1 l2 o1 o2
    · by_cases e1 : g1 = g
      · rw [e1, put_same] at o1
        rcases o1 with o1 | o1
        · exact h.lie.ownS g b hg o1 hs
        · exact absurd (h.sLow b hs) (by omega)
      · rw [put_ne _ _ e1] at o1; exact h.lie.ownS g1 b l1 o1 hs
    · by_cases e1 : g1 = g
      · rw [e1, put_same] at o1
        rcases o1 with o1 | o1
        · exact h.lie.ownCh g b hg o1 hc
        · exact absurd (h.cLow b hc) (by omega)
      · rw [put_ne _ _ e1] at o1; exact h.lie.ownCh g1 b l1 o1 hc
  refine ⟨lie, hlow, hsl, hcl, fun g' hg' => ?_, ?_⟩
  · by_cases e : g' = g
    · subst e
      rw [put_same, put_same]
      exact Keeps.refl _ _ _
    · rw [put_ne _ _ e, put_ne _ _ e]
      refine (h.keeps g' hg').trans ⟨hd.size, fun r hr => ?_, hd.os, hd.output⟩
      rcases hr with hr | hr
      · exact hd.kept r (h.low g' r hg' hr) fun hx => e (h.lie.own g' g r hg' hg hr hx)
      · exact hd.kept r (h.sLow r hr) fun hx => h.lie.ownS g r hg hx hr
  · refine TB.app lie (h.tb.mono (fun g' b _ hb => ?_) (fun _ hb => hb) hd.size) hg fun op hop => ?_
    · by_cases e : g' = g
      · subst e; rw [put_same]; exact .inl hb
      · rw [put_ne _ _ e]; exact hb
    · obtain ⟨e, he', rfl⟩ := Conc.mem_ofEvents hop
      refine ok_of_evW ?_ (fun b hb => hlow g b hg hb) hsl
      rw [put_same]
      exact he e he'
/-- A channel changes. -/
theorem Reg.chan (h : Reg Live Own S Ch W w t) {c : Nat} (hc : Ch c) {o : Obj} (e : w1.heap = w.heap.setIfInBounds c o) (eo : w1.os = w.os) (eu : w1.output = w.output) : Reg Live Own S Ch W w1 t := by
  have hsz : w1.heap.size = w.heap.size := by rw [e]; simp
  refine ⟨h.lie, ?_, ?_, ?_, fun g hg => ⟨?_, fun r hr => ?_, eo.trans (h.keeps g hg).os, eu.trans (h.keeps g hg).output⟩, ?_⟩
  · rw [hsz]; exact h.low
  · rw [hsz]; exact h.sLow
  · rw [hsz]; exact h.cLow
  · rw [hsz]; exact (h.keeps g hg).size
  · have hne : c ≠ r := by
      rintro rfl
      rcases hr with hr | hr
      · exact h.lie.ownCh g c hg hr hc
      · exact h.lie.chS c hc hr
    rw [e, Array.getElem?_setIfInBounds_ne hne]
    exact (h.keeps g hg).block r hr
  · rw [hsz]; exact h.tb
/-- Something is done that touches nothing. -/
theorem Reg.still (h : Reg Live Own S Ch W w t) {u : Trace} (hu : ∀ op ∈ u, Still w.heap.size op) : Reg Live Own S Ch W w (t ++ u) := ⟨h.lie, h.low, h.sLow, h.cLow, h.keeps, h.tb.still hu⟩
theorem Reg.mute (h : Reg Live Own S Ch W w t) {g : Nat} (hg : ¬Live g) {u : Trace} (hu : ∀ op ∈ u, op.g = g ∧ op.act.touch? = none ∧ op.act.low w.heap.size) : Reg Live Own S Ch W w (t ++ u) := ⟨h.lie, h.low, h.sLow, h.cLow, h.keeps, h.tb.mute hg hu⟩
/-- One more is started; a channel that is nobody's becomes a channel of the company. -/
theorem Reg.fork (h : Reg Live Own S Ch W w t) (h0 : Live 0) {k : Nat} (hk : ¬Live k) (hdeaf : Deaf t k = 0) {x y : MemOp} (hx : x.g = 0 ∧ x.act = .go k) (hy : y.g = k ∧ y.act = .start) (hL : ∀ g, Live' g ↔ Live g ∨ g = k)
    {c : Nat} (hC : ∀ b, Ch' b ↔ Ch b ∨ b = c) (hc : c < w.heap.size) (hco : ∀ g, Live g → ¬Own g c) (hcs : ¬S c) : Reg Live' (put Own k fun _ => False) S Ch' (put W k w) w (t ++ #[x, y]) := by
  have ow : ∀ g b, Live' g → put Own k (fun _ => False) g b → Live g ∧ Own g b := by
    intro g b hg hb
    by_cases e : g = k
    · rw [e, put_same] at hb; exact hb.elim
    · rw [put_ne _ _ e] at hb; exact ⟨((hL g).1 hg).resolve_right e, hb⟩
  refine ⟨⟨fun g g' b l1 l2 o1 o2 => ?_, fun g b l1 o1 => ?_, fun g b l1 o1 hb => ?_, fun b hb => ?_⟩, fun g b hg hb => ?_, h.sLow, fun b hb => ?_, fun g hg => ?_, ?_⟩
  · obtain ⟨a1, a2⟩ := ow g b l1 o1
    obtain ⟨b1, b2⟩ := ow g' b l2 o2
    exact h.lie.own g g' b a1 b1 a2 b2
  · obtain ⟨a1, a2⟩ := ow g b l1 o1
    exact h.lie.ownS g b a1 a2
  · obtain ⟨a1, a2⟩ := ow g b l1 o1
    rcases (hC b).1 hb with hb | rfl
    · exact h.lie.ownCh g b a1 a2 hb
    · exact hco g a1 a2
  · rcases (hC b).1 hb with hb | rfl
    · exact h.lie.chS b hb
    · exact hcs
  · obtain ⟨a1, a2⟩ := ow g b hg hb
    exact h.low g b a1 a2
  · rcases (hC b).1 hb with hb | rfl
    · exact h.cLow b hb
    · exact hc
  · by_cases e : g = k
    · rw [e, put_same, put_same]; exact Keeps.refl _ _ _
    · rw [put_ne _ _ e, put_ne _ _ e]; exact h.keeps g (((hL g).1 hg).resolve_right e)
  · refine TB.fork (h.tb.mono (fun g b hg hb => ?_) (fun b hb => (hC b).2 (.inl hb)) (Nat.le_refl _)) h0 hdeaf hx hy hL
    have hne : g ≠ k := fun e => hk (by rw [← e]; exact hg)
    rw [put_ne _ _ hne]
    exact hb
/-- A new block that is nobody's. -/
theorem Reg.new (h : Reg Live Own S Ch W w t) {o : Obj} (e : w1.heap = w.heap.push o) (eo : w1.os = w.os) (eu : w1.output = w.output) : Reg Live Own S Ch W w1 t := by
  have hsz : w.heap.size ≤ w1.heap.size := by rw [e]; simp
  refine ⟨h.lie, fun g b hg hb => Nat.lt_of_lt_of_le (h.low g b hg hb) hsz, fun b hb => Nat.lt_of_lt_of_le (h.sLow b hb) hsz, fun b hb => Nat.lt_of_lt_of_le (h.cLow b hb) hsz, fun g hg => (h.keeps g hg).trans ⟨hsz, fun r hr => ?_, eo, eu⟩, h.tb.mono (fun _ _ _ hb => hb) (fun _ hb => hb) hsz⟩
  have hr : r < w.heap.size := hr.elim (h.low g r hg) (h.sLow r)
  rw [e, Array.getElem?_push_lt hr]
  simp [hr]
/-- Who goes on as from now. -/
theorem Reg.now (h : Reg Live Own S Ch W w t) (g : Nat) : Reg Live Own S Ch (put W g w) w t := by
  refine ⟨h.lie, h.low, h.sLow, h.cLow, fun g' hg' => ?_, h.tb⟩
  by_cases e : g' = g
  · rw [e, put_same]; exact Keeps.refl _ _ _
  · rw [put_ne _ _ e]; exact h.keeps g' hg'
end
end Go.Proofs.Ytgeoffpcmkofkaa
/- Goroutines that send on channels of their own, one that receives: what the machine holds between two steps. -/
namespace Go.Proofs.Ytgeoffpcmkofkaa
open Go Go.Conc

structure Kid where
  c : Nat
  outs : List Value
  own : Nat → Prop
  g : Goroutine
  w : World
  m : Nat
/-- The first is further on than the second. -/
def KLt (P : Program) (S : Nat → Prop) (y x : Kid) : Prop := x.m = 2 ∧ (y.m < 2 ∨ (y.m = 2 ∧ y.c = x.c ∧ y.outs = x.outs ∧ ∃ w2 es cap s r tm, w2.heap[x.c]? = some (.chan cap #[] false s r tm) ∧ Keeps x.own S x.w w2 ∧ stepG P false x.g w2 = .go y.g y.w es ∧ (∀ e ∈ es, EvW (Ytgeoffpcmkofkaa.own x.own w2 y.w) S e) ∧ y.own = Ytgeoffpcmkofkaa.own x.own w2 y.w))
section
variable {P : Program} {S : Nat → Prop}
theorem kid_acc2 {c : Nat} {outs : List Value} {O : Nat → Prop} {g : Goroutine} {w : World} (h : KT P S c outs O g w) : Acc (KLt P S) ⟨c, outs, O, g, w, 2⟩ := by
  have done : ∀ y : Kid, y.m < 2 → Acc (KLt P S) y := fun y hy => .intro y fun z hz => absurd hz.1 (by omega)
  induction h with
  | own hr h1 h2 ih =>
    refine .intro _ fun y hy => ?_
    obtain ⟨_, hy | ⟨e1, e2, e3, w2, es, cap, s, r, tm, k1, k2, k3, k4, k5⟩⟩ := hy
    · exact done y hy
    · obtain ⟨yc, yo, yw, yg, yW, ym⟩ := y
      simp only at e1 e2 e3 k1 k2 k3 k4 k5
      subst e1 e2 e3 k5
      exact ih w2 yg yW es k2 k3
  | send hr h1 h2 ih =>
    refine .intro _ fun y hy => ?_
    obtain ⟨_, hy | ⟨e1, e2, e3, w2, es, cap, s, r, tm, k1, k2, k3, k4, k5⟩⟩ := hy
    · exact done y hy
    · rw [h1 w2 k2] at k3
      cases k3
  | shut hr _ h1 h2 =>
    refine .intro _ fun y hy => ?_
    obtain ⟨_, hy | ⟨e1, e2, e3, w2, es, cap, s, r, tm, k1, k2, k3, k4, k5⟩⟩ := hy
    · exact done y hy
    · rw [h1 w2 cap s r tm k2 k1] at k3
      injection k3 with _ _ k3
      subst k3
      have := k4 ⟨.obj c, true, true⟩ (by simp)
      rcases this with ⟨a, e, _⟩ | ⟨m, e, _⟩ | ⟨r, e, _⟩ <;> simp at e
theorem kid_acc (x : Kid) (h : x.m = 2 → KT P S x.c x.outs x.own x.g x.w) : Acc (KLt P S) x := by
  by_cases hm : x.m = 2
  · have := kid_acc2 (h hm)
    obtain ⟨c, o, w, g, W, m⟩ := x
    simp only at hm this
    rw [hm]
    exact this
  · exact .intro x fun z hz => absurd hz.1 hm
end

def LiveG (n0 n g : Nat) : Prop := g = 0 ∨ (n0 ≤ g ∧ g < n)
def Chs (kids : List Kid) (b : Nat) : Prop := ∃ (j : Nat) (x : Kid), kids[j]? = some x ∧ x.c = b
/-- An open channel without room. -/
def OpenC (w : World) (c : Nat) : Prop := ∃ s r tm, w.heap[c]? = some (.chan 0 #[] false s r tm)
def ShutC (w : World) (c : Nat) : Prop := ∃ s r tm, w.heap[c]? = some (.chan 0 #[] true s r tm)
def RecvAt (P : Program) (S O : Nat → Prop) (a : Goroutine) (w0 : World) (c : Nat) (z : Value) : Prop := ∀ w2, Keeps O S w0 w2 → stepG P true a w2 = .comm a #[rcase c z] true (.recv true) w2 #[]
/-- One that was started: how it stands. -/
inductive KI (P : Program) (S : Nat → Prop) (n0 : Nat) (E : Nat → Option (List Value)) (q : Nat → Nat) (gs : Array Goroutine) (w : World) (t : Trace) (j : Nat) (x : Kid) : Prop
  | live : x.m = 2 → gs[n0 + j]? = some x.g → KT P S x.c x.outs x.own x.g x.w → OpenC w x.c → E x.c = some x.outs → KI P S n0 E q gs w t j x
  | sits (v z : Value) (outs : List Value) : x.m = 1 → gs[n0 + j]? = some (parked x.g #[scase x.c v z] .send) → x.outs = v :: outs → KT P S x.c outs x.own (Conc.served x.g undef) x.w → OpenC w x.c → E x.c = some x.outs → KI P S n0 E q gs w t j x
  | gone (g : Goroutine) : x.m = 0 → gs[n0 + j]? = some g → QuitsIn P (q (n0 + j)) g → ((E x.c = some [] ∧ ShutC w x.c ∧ ∃ pc, ShutAt (n0 + j) x.c t pc) ∨ (E x.c = none ∧ AllKnown (n0 + j) t)) → KI P S n0 E q gs w t j x
structure CI (P : Program) (S : Nat → Prop) (n0 : Nat) (E : Nat → Option (List Value)) (R : Option Nat) (O : Nat → Prop) (a : Goroutine) (w0 : World) (kids : List Kid) (q : Nat → Nat) (gs : Array Goroutine) (w : World) (t : Trace) (Own : Nat → Nat → Prop) (W : Nat → World) (b : Bool) : Prop where
  pos : 0 < n0
  size : gs.size = n0 + kids.length
  old : ∀ i g, 0 < i → i < n0 → gs[i]? = some g → QuitsD P (q i) (Deaf t i) g
  above : ∀ j, gs.size ≤ j → Deaf t j = 0
  main : (b = true ∧ ∃ off, gs[0]? = some { a with status := .running, offers := off }) ∨ (b = false ∧ ∃ c z, gs[0]? = some (parked a #[rcase c z] (.recv true)) ∧ RecvAt P S O a w0 c z ∧ ∃ (j : Nat) (x : Kid), kids[j]? = some x ∧ x.c = c ∧ x.m = 2)
  own0 : Own 0 = O
  w0 : W 0 = w0
  kid : ∀ (j : Nat) (x : Kid), kids[j]? = some x → KI P S n0 E q gs w t j x
  kown : ∀ (j : Nat) (x : Kid), kids[j]? = some x → Own (n0 + j) = x.own ∧ (1 ≤ x.m → W (n0 + j) = x.w)
  ch : ∀ (i j : Nat) (x y : Kid), kids[i]? = some x → kids[j]? = some y → x.c = y.c → i = j
  res : ∀ c, R = some c → (∃ tm, w.heap[c]? = some (.chan 0 #[] false 0 0 tm)) ∧ ¬S c ∧ (∀ g, LiveG n0 gs.size g → ¬Own g c) ∧ ¬Chs kids c
  exp : ∀ c o, E c = some o → Chs kids c
  reg : Reg (LiveG n0 gs.size) Own S (Chs kids) W w t
section
variable {P : Program} {S : Nat → Prop} {n0 : Nat} {E E' : Nat → Option (List Value)} {R : Option Nat} {O : Nat → Prop} {a : Goroutine} {w0 : World} {kids : List Kid} {q q' : Nat → Nat} {gs gs' : Array Goroutine} {w w1 : World} {t u : Trace} {Own : Nat → Nat → Prop} {W : Nat → World} {b : Bool}
theorem KI.keep {j : Nat} {x : Kid} (h : KI P S n0 E q gs w t j x) (h1 : gs'[n0 + j]? = gs[n0 + j]?) (h2 : w1.heap[x.c]? = w.heap[x.c]?) (h3 : E' x.c = E x.c) (h4 : q' (n0 + j) = q (n0 + j)) (h5 : ∀ op ∈ u, op.g = n0 + j → op.act.touch? = none) : KI P S n0 E' q' gs' w1 (t ++ u) j x := by
  have op : OpenC w x.c → OpenC w1 x.c := fun ⟨s, r, tm, k⟩ => ⟨s, r, tm, by rw [h2]; exact k⟩
  have sh : ShutC w x.c → ShutC w1 x.c := fun ⟨s, r, tm, k⟩ => ⟨s, r, tm, by rw [h2]; exact k⟩
  cases h with
  | live k1 k2 k3 k4 k5 => exact .live k1 (by rw [h1]; exact k2) k3 (op k4) (by rw [h3]; exact k5)
  | sits v z outs k1 k2 k3 k4 k5 k6 => exact .sits v z outs k1 (by rw [h1]; exact k2) k3 k4 (op k5) (by rw [h3]; exact k6)
  | gone g k1 k2 k3 k4 =>
    refine .gone g k1 (by rw [h1]; exact k2) (by rw [h4]; exact k3) ?_
    rcases k4 with ⟨m1, m2, pc, m3⟩ | ⟨m1, m2⟩
    · exact .inl ⟨by rw [h3]; exact m1, sh m2, pc, m3.app h5⟩
    · exact .inr ⟨by rw [h3]; exact m1, m2.app h5⟩
theorem KI.openC {j : Nat} {x : Kid} (h : KI P S n0 E q gs w t j x) (hm : 1 ≤ x.m) : OpenC w x.c := by
  cases h with
  | live _ _ _ k _ => exact k
  | sits _ _ _ _ _ _ _ k _ => exact k
  | gone _ k => omega
theorem KI.exp {j : Nat} {x : Kid} (h : KI P S n0 E q gs w t j x) (hm : 1 ≤ x.m) : E x.c = some x.outs := by
  cases h with
  | live _ _ _ _ k => exact k
  | sits _ _ _ _ _ _ _ _ k => exact k
  | gone _ k => omega
theorem CI.heap (h : CI P S n0 E R O a w0 kids q gs w t Own W b) (e : w1.heap = w.heap) (eo : w1.os = w.os) (eu : w1.output = w.output) : CI P S n0 E R O a w0 kids q gs w1 t Own W b :=
  { h with
    kid := fun j x hx => by
      have := (h.kid j x hx).keep (gs' := gs) (w1 := w1) (E' := E) (q' := q) (u := #[]) rfl (by rw [e]) rfl rfl (by simp)
      simpa using this
    res := fun c hc => by rw [e]; exact h.res c hc
    reg := h.reg.heap e eo eu }
theorem CI.liveK (h : CI P S n0 E R O a w0 kids q gs w t Own W b) {j : Nat} {x : Kid} (hx : kids[j]? = some x) : LiveG n0 gs.size (n0 + j) := by
  have : j < kids.length := (List.getElem?_eq_some_iff.1 hx).1
  exact .inr ⟨by omega, by rw [h.size]; omega⟩
theorem CI.lowC (h : CI P S n0 E R O a w0 kids q gs w t Own W b) {j : Nat} {x : Kid} (hx : kids[j]? = some x) : x.c < w.heap.size := h.reg.cLow x.c ⟨j, x, hx, rfl⟩
/-- Who can wake by a step that leaves open channels open? Nobody. -/
theorem CI.woken (h : CI P S n0 E R O a w0 kids q gs w t Own W b) (ho : ∀ (j : Nat) (x : Kid), kids[j]? = some x → 1 ≤ x.m → OpenC w1 x.c) (g g' : Goroutine) : ∀ (i : Nat) (x : Goroutine), gs[i]? = some x → Conc.woken P g g' w1 x = x := by
  intro i x hx
  have hlt : i < gs.size := (Array.getElem?_eq_some_iff.1 hx).1
  rcases Nat.eq_zero_or_pos i with rfl | hpos
  · rcases h.main with ⟨_, off, hm⟩ | ⟨_, c, z, hm, _, j, y, hy, hc, hm2⟩
    · rw [hm] at hx; injection hx with hx; subst hx; exact woken_run rfl
    · rw [hm] at hx; injection hx with hx; subst hx
      obtain ⟨s, r, tm, k⟩ := ho j y hy (by omega)
      rw [hc] at k
      exact woken_recv_open _ _ k
  · by_cases hn : i < n0
    · exact woken_quitsD (h.old i x hpos hn hx)
    · obtain ⟨j, rfl⟩ : ∃ j, i = n0 + j := ⟨i - n0, by omega⟩
      have hj : j < kids.length := by rw [h.size] at hlt; omega
      have hk := h.kid j kids[j] (List.getElem?_eq_getElem hj)
      cases hk with
      | live k1 k2 k3 k4 k5 => rw [k2] at hx; injection hx with hx; subst hx; exact woken_run k3.running
      | sits v z outs k1 k2 k3 k4 k5 k6 =>
        rw [k2] at hx; injection hx with hx; subst hx
        obtain ⟨s, r, tm, k⟩ := ho j _ (List.getElem?_eq_getElem hj) (by omega)
        exact woken_send_open _ _ k
      | gone g k1 k2 k3 k4 => rw [k2] at hx; injection hx with hx; subst hx; exact woken_quits k3
theorem set_get (gs : Array Goroutine) (f : Goroutine → Goroutine) (k : Nat) (g : Goroutine) (hf : ∀ (i : Nat) (x : Goroutine), i ≠ k → gs[i]? = some x → f x = x) : ∀ i, i ≠ k → ((gs.map f).setIfInBounds k g)[i]? = gs[i]? := by
  intro i hi
  rw [Array.getElem?_setIfInBounds_ne (Ne.symm hi), Array.getElem?_map]
  cases hx : gs[i]? with
  | none => rfl
  | some x => rw [Option.map_some, hf i x hi hx]
theorem set_at (gs : Array Goroutine) (f : Goroutine → Goroutine) {k : Nat} (g : Goroutine) (hk : k < gs.size) : ((gs.map f).setIfInBounds k g)[k]? = some g := by simp [hk]
theorem CI.awake (h : CI P S n0 E R O a w0 kids q gs w t Own W b) : ∀ g ∈ gs, Conc.awake g := by
  intro g hg
  obtain ⟨i, hi, rfl⟩ := Array.mem_iff_getElem.1 hg
  have hx := Array.getElem?_eq_getElem hi
  rcases Nat.eq_zero_or_pos i with rfl | hpos
  · rcases h.main with ⟨_, off, hm⟩ | ⟨_, c, z, hm, _⟩
    · rw [hm] at hx; injection hx with hx; rw [← hx]; exact awake_of (.inl rfl)
    · rw [hm] at hx; injection hx with hx; rw [← hx]; exact awake_of (.inr (.inl rfl))
  · by_cases hn : i < n0
    · exact awake_of ((h.old i _ hpos hn hx).status.elim .inl fun x => .inr (.inr x))
    · obtain ⟨j, rfl⟩ : ∃ j, i = n0 + j := ⟨i - n0, by omega⟩
      have hj : j < kids.length := by rw [h.size] at hi; omega
      have hk := h.kid j kids[j] (List.getElem?_eq_getElem hj)
      cases hk with
      | live k1 k2 k3 k4 k5 => rw [k2] at hx; injection hx with hx; rw [← hx]; exact awake_of (.inl k3.running)
      | sits v z outs k1 k2 k3 k4 k5 k6 => rw [k2] at hx; injection hx with hx; rw [← hx]; exact awake_of (.inr (.inl rfl))
      | gone g k1 k2 k3 k4 => rw [k2] at hx; injection hx with hx; rw [← hx]; exact awake_of (k3.status.elim .inl fun x => .inr (.inr x))
theorem CI.some1 (h : CI P S n0 E R O a w0 kids q gs w t Own W b) : ∃ (i : Nat) (g : Goroutine), gs[i]? = some g ∧ g.status = .running := by
  rcases h.main with ⟨_, off, hm⟩ | ⟨_, c, z, hm, _, j, x, hx, _, hm2⟩
  · exact ⟨0, _, hm, rfl⟩
  · have hk := h.kid j x hx
    cases hk with
    | live k1 k2 k3 k4 k5 => exact ⟨_, _, k2, k3.running⟩
    | sits v z outs k1 => omega
    | gone g k1 => omega
/-- Who offers to send on a channel? Only one that sits there. -/
theorem CI.noSend (h : CI P S n0 E R O a w0 kids q gs w t Own W b) {c : Nat} (hc : ∀ (j : Nat) (x : Kid), kids[j]? = some x → x.c = c → x.m ≠ 1) : ∀ (i : Nat) (x : Goroutine), gs[i]? = some x → offersAt x c true = [] := by
  intro i x hx
  have hlt : i < gs.size := (Array.getElem?_eq_some_iff.1 hx).1
  rcases Nat.eq_zero_or_pos i with rfl | hpos
  · rcases h.main with ⟨_, off, hm⟩ | ⟨_, c, z, hm, _⟩
    · rw [hm] at hx; injection hx with hx; rw [← hx]; exact offersAt_of_not_blocked (by simp) _ _
    · rw [hm] at hx; injection hx with hx; rw [← hx]; exact offersAt_parked_recv' _ _ _ _ _
  · by_cases hn : i < n0
    · exact offersAt_of_not_blocked (by rcases (h.old i x hpos hn hx).status with e | e <;> rw [e] <;> simp) _ _
    · obtain ⟨j, rfl⟩ : ∃ j, i = n0 + j := ⟨i - n0, by omega⟩
      have hj : j < kids.length := by rw [h.size] at hlt; omega
      have hg := List.getElem?_eq_getElem hj
      have hk := h.kid j kids[j] hg
      cases hk with
      | live k1 k2 k3 k4 k5 => rw [k2] at hx; injection hx with hx; rw [← hx]; exact offersAt_of_not_blocked (by rw [k3.running]; simp) _ _
      | sits v z outs k1 k2 k3 k4 k5 k6 =>
        rw [k2] at hx; injection hx with hx; rw [← hx, offersAt_parked_send]
        rw [if_neg]
        intro e
        exact hc j _ hg e k1
      | gone g k1 k2 k3 k4 => rw [k2] at hx; injection hx with hx; rw [← hx]; exact offersAt_of_not_blocked (by rcases k3.status with e | e <;> rw [e] <;> simp) _ _
/-- Who offers to receive? Only the main one, where it waits. -/
theorem CI.noRecv (h : CI P S n0 E R O a w0 kids q gs w t Own W b) {c : Nat} (hc : ∀ z, gs[0]? ≠ some (parked a #[rcase c z] (.recv true))) : ∀ (i : Nat) (x : Goroutine), gs[i]? = some x → offersAt x c false = [] := by
  intro i x hx
  have hlt : i < gs.size := (Array.getElem?_eq_some_iff.1 hx).1
  rcases Nat.eq_zero_or_pos i with rfl | hpos
  · rcases h.main with ⟨_, off, hm⟩ | ⟨_, c', z, hm, _⟩
    · rw [hm] at hx; injection hx with hx; rw [← hx]; exact offersAt_of_not_blocked (by simp) _ _
    · have := hx
      rw [hm] at hx; injection hx with hx; rw [← hx, offersAt_parked_recv]
      rw [if_neg]
      rintro rfl
      exact hc z hm
  · by_cases hn : i < n0
    · exact offersAt_of_not_blocked (by rcases (h.old i x hpos hn hx).status with e | e <;> rw [e] <;> simp) _ _
    · obtain ⟨j, rfl⟩ : ∃ j, i = n0 + j := ⟨i - n0, by omega⟩
      have hj : j < kids.length := by rw [h.size] at hlt; omega
      have hg := List.getElem?_eq_getElem hj
      have hk := h.kid j kids[j] hg
      cases hk with
      | live k1 k2 k3 k4 k5 => rw [k2] at hx; injection hx with hx; rw [← hx]; exact offersAt_of_not_blocked (by rw [k3.running]; simp) _ _
      | sits v z outs k1 k2 k3 k4 k5 k6 => rw [k2] at hx; injection hx with hx; rw [← hx]; exact offersAt_parked_send' _ _ _ _ _ _
      | gone g k1 k2 k3 k4 => rw [k2] at hx; injection hx with hx; rw [← hx]; exact offersAt_of_not_blocked (by rcases k3.status with e | e <;> rw [e] <;> simp) _ _
theorem stand_nil {c : Nat} {snd : Bool} {i : Nat} (h : ∀ (k : Nat) (x : Goroutine), k ≠ i → gs[k]? = some x → offersAt x c snd = []) : partners (gs.setIfInBounds i ph) c snd = [] := by
  refine partners_nil fun k x hx => ?_
  rcases getElem?_stand gs i k x hx with ⟨_, rfl⟩ | ⟨hk, hx⟩
  · exact offersAt_ph _ _
  · exact h k x hk hx
theorem deaf_same {g : Nat} (hu : ∀ op ∈ u, op.act ≠ .mark .disable ∧ op.act ≠ .mark .enable) : Deaf (t ++ u) g = Deaf t g := by
  have := deaf_still (g := g) u.toList t fun op hop => hu op (by simpa using hop)
  have e : t ++ u.toList.toArray = t ++ u := by simp
  rwa [e] at this
theorem evW_calm {O S : Nat → Prop} {e : Event} (h : EvW O S e) : MemAct.ofEvent e ≠ .mark .disable ∧ MemAct.ofEvent e ≠ .mark .enable := by
  rcases h with ⟨a, ha, _⟩ | ⟨m, rfl, hm⟩ | ⟨r, rfl, _⟩
  · obtain ⟨loc, wr, sy⟩ := e
    simp only at ha
    subst ha
    simp [MemAct.ofEvent]
  · rcases hm with rfl | ⟨f, rfl⟩ <;> simp [MemAct.ofEvent]
  · simp [MemAct.ofEvent]
end
end Go.Proofs.Ytgeoffpcmkofkaa
/- What a step changes, and what it leaves. -/
namespace Go.Proofs.Ytgeoffpcmkofkaa
open Go Go.Conc

section
variable {P : Program} {S : Nat → Prop} {n0 : Nat} {E E' : Nat → Option (List Value)} {R R' : Option Nat} {O O' : Nat → Prop} {a a' : Goroutine} {w0 w0' : World} {kids : List Kid} {q q' : Nat → Nat} {gs gs' : Array Goroutine} {w w1 : World} {t u : Trace} {Own Own' : Nat → Nat → Prop} {W W' : Nat → World} {b b' : Bool}
theorem chs_set {j : Nat} {x y : Kid} (hx : kids[j]? = some x) (hc : y.c = x.c) : Chs (kids.set j y) = Chs kids := by
  have hj : j < kids.length := (List.getElem?_eq_some_iff.1 hx).1
  funext b
  refine propext ⟨fun ⟨i, z, hz, hb⟩ => ?_, fun ⟨i, z, hz, hb⟩ => ?_⟩
  · by_cases e : j = i
    · subst e
      rw [List.getElem?_set_self hj] at hz
      injection hz with hz
      subst hz
      exact ⟨j, x, hx, by rw [← hc]; exact hb⟩
    · rw [List.getElem?_set_ne e] at hz
      exact ⟨i, z, hz, hb⟩
  · by_cases e : j = i
    · subst e
      rw [hx] at hz
      injection hz with hz
      subst hz
      exact ⟨j, y, List.getElem?_set_self hj, by rw [hc]; exact hb⟩
    · exact ⟨i, z, by rw [List.getElem?_set_ne e]; exact hz, hb⟩
theorem CI.to (h : CI P S n0 E R O a w0 kids q gs w t Own W b) {j : Nat} {x y : Kid} (hx : kids[j]? = some x) (hc : y.c = x.c) (hsz : gs'.size = gs.size) (hgs : ∀ i, i ≠ 0 → i ≠ n0 + j → gs'[i]? = gs[i]?)
    (hheap : ∀ (i : Nat) (z : Kid), kids[i]? = some z → i ≠ j → w1.heap[z.c]? = w.heap[z.c]?) (hu : ∀ op ∈ u, (op.g = 0 ∨ op.g = n0 + j) ∧ op.act ≠ .mark .disable ∧ op.act ≠ .mark .enable) (hq : ∀ i, i ≠ n0 + j → q' i = q i)
    (hE : ∀ (i : Nat) (z : Kid), kids[i]? = some z → i ≠ j → E' z.c = E z.c) (hexp : ∀ c o, E' c = some o → Chs kids c)
    (hmain : (b' = true ∧ ∃ off, gs'[0]? = some { a' with status := .running, offers := off }) ∨ (b' = false ∧ ∃ c z, gs'[0]? = some (parked a' #[rcase c z] (.recv true)) ∧ RecvAt P S O' a' w0' c z ∧ ∃ (i : Nat) (k : Kid), (kids.set j y)[i]? = some k ∧ k.c = c ∧ k.m = 2))
    (hown : Own' 0 = O') (hw0 : W' 0 = w0') (hy : KI P S n0 E' q' gs' w1 (t ++ u) j y) (hk : Own' (n0 + j) = y.own ∧ (1 ≤ y.m → W' (n0 + j) = y.w)) (hO : ∀ i, i ≠ 0 → i ≠ n0 + j → Own' i = Own i ∧ W' i = W i)
    (hres : ∀ c, R' = some c → (∃ tm, w1.heap[c]? = some (.chan 0 #[] false 0 0 tm)) ∧ ¬S c ∧ (∀ g, LiveG n0 gs.size g → ¬Own' g c) ∧ ¬Chs kids c)
    (hreg : Reg (LiveG n0 gs.size) Own' S (Chs kids) W' w1 (t ++ u)) : CI P S n0 E' R' O' a' w0' (kids.set j y) q' gs' w1 (t ++ u) Own' W' b' := by
  have hj : j < kids.length := (List.getElem?_eq_some_iff.1 hx).1
  have hchs := chs_set hx hc
  have hdeaf : ∀ g, Deaf (t ++ u) g = Deaf t g := fun g => deaf_same fun op hop => (hu op hop).2
  have hpos := h.pos
  refine ⟨h.pos, by rw [hsz, h.size]; simp, fun i g h1 h2 hg => ?_, fun i hi => ?_, hmain, hown, hw0, fun i z hz => ?_, fun i z hz => ?_, fun i k x1 y1 h1 h2 he => ?_, fun c hr => ?_, fun c o hc => ?_, ?_⟩
  · rw [hdeaf, hq i (by omega)]
    exact h.old i g h1 h2 (by rw [← hgs i (by omega) (by omega)]; exact hg)
  · rw [hdeaf]; exact h.above i (by rw [← hsz]; exact hi)
  · by_cases e : j = i
    · subst e
      rw [List.getElem?_set_self hj] at hz
      injection hz with hz
      subst hz
      exact hy
    · rw [List.getElem?_set_ne e] at hz
      refine (h.kid i z hz).keep (hgs _ (by omega) (by omega)) (hheap i z hz (Ne.symm e)) (hE i z hz (Ne.symm e)) (hq _ (by omega)) fun op hop hg => ?_
      rcases (hu op hop).1 with e1 | e1 <;> omega
  · by_cases e : j = i
    · subst e
      rw [List.getElem?_set_self hj] at hz
      injection hz with hz
      subst hz
      exact hk
    · rw [List.getElem?_set_ne e] at hz
      obtain ⟨k1, k2⟩ := hO (n0 + i) (by omega) (by omega)
      rw [k1, k2]
      exact h.kown i z hz
  · have key : ∀ (i : Nat) (z : Kid), (kids.set j y)[i]? = some z → ∃ z', kids[i]? = some z' ∧ z'.c = z.c := by
      intro i z hz
      by_cases e : j = i
      · subst e
        rw [List.getElem?_set_self hj] at hz
        injection hz with hz
        subst hz
        exact ⟨x, hx, hc.symm⟩
      · rw [List.getElem?_set_ne e] at hz
        exact ⟨z, hz, rfl⟩
    obtain ⟨x', p1, p2⟩ := key i x1 h1
    obtain ⟨y', p3, p4⟩ := key k y1 h2
    exact h.ch i k x' y' p1 p3 (by rw [p2, p4]; exact he)
  · rw [hsz, hchs]; exact hres c hr
  · rw [hchs]; exact hexp c o hc
  · rw [hsz, hchs]; exact hreg
theorem CI.mainTo (h : CI P S n0 E R O a w0 kids q gs w t Own W b) (hsz : gs'.size = gs.size) (hgs : ∀ i, i ≠ 0 → gs'[i]? = gs[i]?)
    (hheap : ∀ (i : Nat) (z : Kid), kids[i]? = some z → w1.heap[z.c]? = w.heap[z.c]?) (hu : ∀ op ∈ u, op.g = 0 ∧ op.act ≠ .mark .disable ∧ op.act ≠ .mark .enable)
    (hmain : (b' = true ∧ ∃ off, gs'[0]? = some { a' with status := .running, offers := off }) ∨ (b' = false ∧ ∃ c z, gs'[0]? = some (parked a' #[rcase c z] (.recv true)) ∧ RecvAt P S O' a' w0' c z ∧ ∃ (i : Nat) (k : Kid), kids[i]? = some k ∧ k.c = c ∧ k.m = 2))
    (hown : Own' 0 = O') (hw0 : W' 0 = w0') (hO : ∀ i, i ≠ 0 → Own' i = Own i ∧ W' i = W i)
    (hres : ∀ c, R' = some c → (∃ tm, w1.heap[c]? = some (.chan 0 #[] false 0 0 tm)) ∧ ¬S c ∧ (∀ g, LiveG n0 gs.size g → ¬Own' g c) ∧ ¬Chs kids c)
    (hreg : Reg (LiveG n0 gs.size) Own' S (Chs kids) W' w1 (t ++ u)) : CI P S n0 E R' O' a' w0' kids q gs' w1 (t ++ u) Own' W' b' := by
  have hdeaf : ∀ g, Deaf (t ++ u) g = Deaf t g := fun g => deaf_same fun op hop => (hu op hop).2
  have hpos := h.pos
  refine ⟨h.pos, by rw [hsz]; exact h.size, fun i g h1 h2 hg => ?_, fun i hi => ?_, hmain, hown, hw0, fun i z hz => ?_, fun i z hz => ?_, h.ch, fun c hr => by rw [hsz]; exact hres c hr, h.exp, by rw [hsz]; exact hreg⟩
  · rw [hdeaf]
    exact h.old i g h1 h2 (by rw [← hgs i (by omega)]; exact hg)
  · rw [hdeaf]; exact h.above i (by rw [← hsz]; exact hi)
  · refine (h.kid i z hz).keep (hgs _ (by omega)) (hheap i z hz) rfl rfl fun op hop hg => ?_
    have := (hu op hop).1
    omega
  · obtain ⟨k1, k2⟩ := hO (n0 + i) (by omega)
    rw [k1, k2]
    exact h.kown i z hz
theorem ofE_nil (g : Nat) (fn : FuncId) (pos : String) : MemOp.ofEvents g fn pos #[] = #[] := rfl
theorem calm_of {g : Nat} {fn : FuncId} {pos : String} {es : Array Event} {O S : Nat → Prop} (h : ∀ e ∈ es, EvW O S e) : ∀ op ∈ MemOp.ofEvents g fn pos es, op.g = g ∧ op.act ≠ .mark .disable ∧ op.act ≠ .mark .enable := by
  intro op hop
  obtain ⟨e, he, rfl⟩ := Conc.mem_ofEvents hop
  exact ⟨rfl, evW_calm (h e he)⟩
/-- A channel that is reserved stays as it is. -/
theorem CI.res_did (h : CI P S n0 E R O a w0 kids q gs w t Own W b) {g : Nat} (hg : LiveG n0 gs.size g) (hd : DidO (Own g) w w1) : ∀ c, R = some c → (∃ tm, w1.heap[c]? = some (.chan 0 #[] false 0 0 tm)) ∧ ¬S c ∧ (∀ g', LiveG n0 gs.size g' → ¬put Own g (own (Own g) w w1) g' c) ∧ ¬Chs kids c := by
  intro c hr
  obtain ⟨⟨tm, h1⟩, h2, h3, h4⟩ := h.res c hr
  have hlt : c < w.heap.size := (Array.getElem?_eq_some_iff.1 h1).1
  refine ⟨⟨tm, by rw [hd.kept c hlt (h3 g hg)]; exact h1⟩, h2, fun g' hg' hb => ?_, h4⟩
  by_cases e : g' = g
  · rw [e, put_same] at hb
    rcases hb with hb | hb
    · exact h3 g hg hb
    · omega
  · rw [put_ne _ _ e] at hb
    exact h3 g' hg' hb
theorem CI.chan_did (h : CI P S n0 E R O a w0 kids q gs w t Own W b) {g : Nat} (hg : LiveG n0 gs.size g) (hd : DidO (Own g) w w1) : ∀ (i : Nat) (z : Kid), kids[i]? = some z → w1.heap[z.c]? = w.heap[z.c]? :=
  fun i z hz => hd.kept z.c (h.lowC hz) fun hb => h.reg.lie.ownCh g z.c hg hb ⟨i, z, hz, rfl⟩
theorem OpenC.of {c : Nat} (h : OpenC w c) (e : w1.heap[c]? = w.heap[c]?) : OpenC w1 c := let ⟨s, r, tm, k⟩ := h; ⟨s, r, tm, by rw [e]; exact k⟩
/-- One that was started takes a step of its own. -/
theorem CI.kidOwn (h : CI P S n0 E R O a w0 kids q gs w t Own W b) {j : Nat} {x : Kid} (hx : kids[j]? = some x) (hm : x.m = 2) {g1 : Goroutine} {es : Array Event} (hg1 : KT P S x.c x.outs (own x.own w w1) g1 w1) (hd : DidO x.own w w1) (he : ∀ e ∈ es, EvW (own x.own w w1) S e) (fn : FuncId) (pos : String) (f : Goroutine → Goroutine) (hf : ∀ (i : Nat) (z : Goroutine), i ≠ n0 + j → gs[i]? = some z → f z = z) :
    CI P S n0 E R O a w0 (kids.set j { x with own := own x.own w w1, g := g1, w := w1 }) q ((gs.map f).setIfInBounds (n0 + j) g1) w1 (t ++ MemOp.ofEvents (n0 + j) fn pos es) (put Own (n0 + j) (own x.own w w1)) (put W (n0 + j) w1) b := by
  have hL := h.liveK hx
  have hpos := h.pos
  obtain ⟨ho, hW⟩ := h.kown j x hx
  have hd' : DidO (Own (n0 + j)) w w1 := by rw [ho]; exact hd
  have he' : ∀ e ∈ es, EvW (own (Own (n0 + j)) w w1) S e := by rw [ho]; exact he
  have hlt : n0 + j < gs.size := by rw [h.size]; have := (List.getElem?_eq_some_iff.1 hx).1; omega
  have hset := set_get gs f (n0 + j) g1 hf
  have hreg := h.reg.step hL hd' he' fn pos
  have hres := h.res_did hL hd'
  rw [ho] at hreg hres
  refine h.to hx rfl (by simp) (fun i _ hi => hset i hi) (fun i z hz _ => h.chan_did hL hd' i z hz) (fun op hop => ?_) (fun _ _ => rfl) (fun _ _ _ _ => rfl) h.exp ?_ (by rw [put_ne _ _ (by omega)]; exact h.own0) (by rw [put_ne _ _ (by omega)]; exact h.w0) ?_ ⟨put_same _ _ _, fun _ => put_same _ _ _⟩ (fun i _ hi => ⟨put_ne _ _ hi, put_ne _ _ hi⟩) hres hreg
  · exact ⟨.inr (calm_of he op hop).1, (calm_of he op hop).2⟩
  · have e0 : ((gs.map f).setIfInBounds (n0 + j) g1)[0]? = gs[0]? := hset 0 (by omega)
    rw [e0]
    refine h.main.imp id fun ⟨k1, c, z, k2, k3, i, k, k4, k5, k6⟩ => ⟨k1, c, z, k2, k3, ?_⟩
    by_cases e : j = i
    · subst e
      rw [hx] at k4
      injection k4 with k4
      subst k4
      exact ⟨j, _, List.getElem?_set_self (List.getElem?_eq_some_iff.1 hx).1, k5, hm⟩
    · exact ⟨i, k, by rw [List.getElem?_set_ne e]; exact k4, k5, k6⟩
  · exact .live hm (set_at gs f g1 hlt) hg1 (((h.kid j x hx).openC (by omega)).of (h.chan_did hL hd' j x hx)) ((h.kid j x hx).exp (by omega))
/-- It sits down to send. -/
theorem CI.kidSit (h : CI P S n0 E R O a w0 kids q gs w t Own W b) {j : Nat} {x : Kid} (hx : kids[j]? = some x) (hm : x.m = 2) {v z : Value} {outs : List Value} (ho : x.outs = v :: outs) (hk : KT P S x.c outs x.own (Conc.served x.g undef) x.w) (hno : ∀ z, gs[0]? ≠ some (parked a #[rcase x.c z] (.recv true))) :
    CI P S n0 E R O a w0 (kids.set j { x with m := 1 }) q (gs.setIfInBounds (n0 + j) (parked x.g #[scase x.c v z] .send)) w t Own W b := by
  have hpos := h.pos
  have hj := (List.getElem?_eq_some_iff.1 hx).1
  have hlt : n0 + j < gs.size := by rw [h.size]; omega
  have hset : ∀ i, i ≠ n0 + j → (gs.setIfInBounds (n0 + j) (parked x.g #[scase x.c v z] .send))[i]? = gs[i]? := fun i hi => Array.getElem?_setIfInBounds_ne (Ne.symm hi)
  have := h.to (u := #[]) (E' := E) (R' := R) (O' := O) (a' := a) (w0' := w0) (q' := q) (gs' := gs.setIfInBounds (n0 + j) (parked x.g #[scase x.c v z] .send)) (w1 := w) (Own' := Own) (W' := W) (b' := b) hx (y := { x with m := 1 }) rfl (by simp) (fun i _ hi => hset i hi) (fun _ _ _ _ => rfl) (by simp) (fun _ _ => rfl) (fun _ _ _ _ => rfl) h.exp ?_ h.own0 h.w0 ?_ ⟨(h.kown j x hx).1, fun _ => (h.kown j x hx).2 (by omega)⟩ (fun _ _ _ => ⟨rfl, rfl⟩) h.res (by simpa using h.reg)
  · simpa using this
  · rw [hset 0 (by omega)]
    refine h.main.imp id fun ⟨k1, c, z, k2, k3, i, k, k4, k5, k6⟩ => ⟨k1, c, z, k2, k3, i, k, ?_, k5, k6⟩
    have : j ≠ i := by
      rintro rfl
      rw [hx] at k4
      injection k4 with k4
      subst k4
      rw [← k5] at k2
      exact hno z k2
    rw [List.getElem?_set_ne this]
    exact k4
  · exact .sits v z outs rfl (by simp [hlt]) ho hk ((h.kid j x hx).openC (by omega)) ((h.kid j x hx).exp (by omega))
end
end Go.Proofs.Ytgeoffpcmkofkaa
/- The machine takes these steps: those that were started. -/
namespace Go.Proofs.Ytgeoffpcmkofkaa
open Go Go.Conc
open Go.ConcN (sumTo upd sumTo_upd upd_ne upd_same)

section
variable {P : Program} {S : Nat → Prop} {n0 : Nat} {E E' : Nat → Option (List Value)} {R R' : Option Nat} {O O' : Nat → Prop} {a a' : Goroutine} {w0 w0' : World} {kids : List Kid} {q q' : Nat → Nat} {gs gs' : Array Goroutine} {w w1 : World} {t u : Trace} {Own Own' : Nat → Nat → Prop} {W W' : Nat → World} {b b' : Bool}
theorem CI.gsK (h : CI P S n0 E R O a w0 kids q gs w t Own W b) {j : Nat} {x : Kid} (hx : kids[j]? = some x) : n0 + j < gs.size := by
  rw [h.size]; have := (List.getElem?_eq_some_iff.1 hx).1; omega
/-- It closes its channel. -/
theorem CI.kidShut (h : CI P S n0 E R O a w0 kids q gs w t Own W b) {j : Nat} {x : Kid} (hx : kids[j]? = some x) (hm : x.m = 2) (ho : x.outs = []) {g1 : Goroutine} {n : Nat} (hq1 : QuitsIn P n g1) (s r : Nat) (tm : Bool) (fn : FuncId) (pos : String) {g : Goroutine} (hwake : mayWake P g = true) :
    ∃ b', CI P S n0 E R O a w0 (kids.set j { x with m := 0 }) (put q (n0 + j) n) ((gs.map (Conc.woken P g g1 { w with heap := w.heap.setIfInBounds x.c (.chan 0 #[] true s r tm) })).setIfInBounds (n0 + j) g1) { w with heap := w.heap.setIfInBounds x.c (.chan 0 #[] true s r tm) }
      (t ++ MemOp.ofEvents (n0 + j) fn pos #[⟨.obj x.c, false, true⟩, ⟨.obj x.c, true, true⟩]) Own W b' := by
  have hpos := h.pos
  have hL := h.liveK hx
  have hj := (List.getElem?_eq_some_iff.1 hx).1
  have hlt := h.gsK hx
  have hch : Chs kids x.c := ⟨j, x, hx, rfl⟩
  generalize hw1 : ({ w with heap := w.heap.setIfInBounds x.c (.chan 0 #[] true s r tm) } : World) = w1
  have hh1 : w1.heap = w.heap.setIfInBounds x.c (.chan 0 #[] true s r tm) := by rw [← hw1]
  have hclt := h.lowC hx
  have hsame : ∀ r', r' ≠ x.c → w1.heap[r']? = w.heap[r']? := fun r' hr => by rw [hh1, Array.getElem?_setIfInBounds_ne (Ne.symm hr)]
  have hshut : ShutC w1 x.c := ⟨s, r, tm, by rw [hh1]; simp [hclt]⟩
  have hother : ∀ (i : Nat) (z : Kid), kids[i]? = some z → i ≠ j → z.c ≠ x.c := fun i z hz hne e => hne (h.ch i j z x hz hx e)
  -- the others
  have hset : ∀ i, i ≠ 0 → i ≠ n0 + j → ((gs.map (Conc.woken P g g1 w1)).setIfInBounds (n0 + j) g1)[i]? = gs[i]? := by
    intro i hi0 hi
    rw [Array.getElem?_setIfInBounds_ne (Ne.symm hi), Array.getElem?_map]
    cases hz : gs[i]? with
    | none => rfl
    | some z =>
      rw [Option.map_some]
      congr 1
      have hilt : i < gs.size := (Array.getElem?_eq_some_iff.1 hz).1
      by_cases hn : i < n0
      · exact woken_quitsD (h.old i z (by omega) hn hz)
      · obtain ⟨k, rfl⟩ : ∃ k, i = n0 + k := ⟨i - n0, by omega⟩
        have hk' : k < kids.length := by rw [h.size] at hilt; omega
        have hgk := List.getElem?_eq_getElem hk'
        have hk := h.kid k kids[k] hgk
        cases hk with
        | live k1 k2 k3 k4 k5 => rw [k2] at hz; injection hz with hz; subst hz; exact woken_run k3.running
        | sits v zz outs k1 k2 k3 k4 k5 k6 =>
          rw [k2] at hz; injection hz with hz; subst hz
          obtain ⟨s', r', tm', kk⟩ := k5
          exact woken_send_open (cap := 0) (buf := #[]) (s := s') (r := r') (tm := tm') _ _ (by rw [hsame _ (hother k _ hgk (by omega))]; exact kk)
        | gone g k1 k2 k3 k4 => rw [k2] at hz; injection hz with hz; subst hz; exact woken_quits k3
  have hu : MemOp.ofEvents (n0 + j) fn pos #[⟨.obj x.c, false, true⟩, ⟨.obj x.c, true, true⟩] = #[{ g := n0 + j, fn, pos, act := .access ⟨.obj x.c, false, true⟩ }] ++ #[{ g := n0 + j, fn, pos, act := .close x.c }] := by simp [MemOp.ofEvents, MemAct.ofEvent]
  rw [hu]
  have hreg0 := h.reg.chan (w1 := w1) hch hh1 (by rw [← hw1]) (by rw [← hw1])
  have hclt1 : x.c < w1.heap.size := by rw [hh1]; simpa using hclt
  have hreg : Reg (LiveG n0 gs.size) Own S (Chs kids) W w1 (t ++ (#[{ g := n0 + j, fn, pos, act := .access ⟨.obj x.c, false, true⟩ }] ++ #[{ g := n0 + j, fn, pos, act := .close x.c }])) := by
    refine ⟨hreg0.lie, hreg0.low, hreg0.sLow, hreg0.cLow, hreg0.keeps, TB.app hreg0.lie hreg0.tb hL fun op hop => ?_⟩
    have : op = { g := n0 + j, fn, pos, act := .access ⟨.obj x.c, false, true⟩ } ∨ op = { g := n0 + j, fn, pos, act := .close x.c } := by simpa using hop
    rcases this with rfl | rfl
    · refine ⟨rfl, fun y hy _ => ?_, hclt1, by simp, by simp⟩
      simp only [MemAct.touch?, Option.some.injEq] at hy
      subst hy
      exact ⟨x.c, rfl, .inr (.inr ⟨hch, rfl⟩)⟩
    · exact ⟨rfl, fun y hy _ => by simp [MemAct.touch?] at hy, hclt1, by simp, by simp⟩
  have hdeaf : Deaf (t ++ #[({ g := n0 + j, fn, pos, act := .access ⟨.obj x.c, false, true⟩ } : MemOp)]) (n0 + j) = 0 := by
    rw [deaf_same (by simp)]
    exact h.reg.tb.hears _ hL
  have hsat : ShutAt (n0 + j) x.c (t ++ (#[{ g := n0 + j, fn, pos, act := .access ⟨.obj x.c, false, true⟩ }] ++ #[{ g := n0 + j, fn, pos, act := .close x.c }])) (t.size + 1) := by
    have := ShutAt.new (k := n0 + j) (c := x.c) (y := { g := n0 + j, fn, pos, act := .close x.c }) ⟨rfl, rfl⟩ hdeaf
    rw [← Array.append_assoc]
    simpa using this
  -- the main one
  have hmain : ∃ b', (b' = true ∧ ∃ off, ((gs.map (Conc.woken P g g1 w1)).setIfInBounds (n0 + j) g1)[0]? = some { a with status := .running, offers := off }) ∨ (b' = false ∧ ∃ c z, ((gs.map (Conc.woken P g g1 w1)).setIfInBounds (n0 + j) g1)[0]? = some (parked a #[rcase c z] (.recv true)) ∧ RecvAt P S O a w0 c z ∧ ∃ (i : Nat) (k : Kid), (kids.set j { x with m := 0 })[i]? = some k ∧ k.c = c ∧ k.m = 2) := by
    have e0 : ((gs.map (Conc.woken P g g1 w1)).setIfInBounds (n0 + j) g1)[0]? = (gs[0]?).map (Conc.woken P g g1 w1) := by
      rw [Array.getElem?_setIfInBounds_ne (by omega), Array.getElem?_map]
    rw [e0]
    rcases h.main with ⟨_, off, hm0⟩ | ⟨_, c, z, hm0, hr, i, k, k4, k5, k6⟩
    · exact ⟨true, .inl ⟨rfl, off, by rw [hm0, Option.map_some, woken_run rfl]⟩⟩
    · by_cases e : c = x.c
      · subst e
        unfold Conc.woken
        split
        · refine ⟨true, .inl ⟨rfl, some (#[rcase x.c z], .recv true), ?_⟩⟩
          rw [hm0, Option.map_some]
          congr 1
          exact again_recv_closed (cap := 0) (buf := #[]) (s := s) (r := r) (tm := tm) (by rw [hh1]; simp [hclt])
        · rename_i hno
          refine absurd ?_ hno
          rcases hq1.status with e1 | e1 <;> simp [hwake, e1]
      · refine ⟨false, .inr ⟨rfl, c, z, ?_, hr, i, k, ?_, k5, k6⟩⟩
        · rw [hm0, Option.map_some]
          congr 1
          have hk := (h.kid i k k4).openC (by omega)
          obtain ⟨s', r', tm', hk⟩ := hk
          exact woken_recv_open (cap := 0) (buf := #[]) (s := s') (r := r') (tm := tm') _ _ (by rw [hsame c e, ← k5]; exact hk)
        · have : j ≠ i := by
            rintro rfl
            rw [hx] at k4
            injection k4 with k4
            subst k4
            exact e k5.symm
          rw [List.getElem?_set_ne this]
          exact k4
  obtain ⟨b', hmain⟩ := hmain
  refine ⟨b', h.to hx rfl (by simp) hset (fun i z hz hne => hsame _ (hother i z hz hne)) (fun op hop => ?_) (fun i hi => put_ne _ _ hi) (fun _ _ _ _ => rfl) h.exp hmain h.own0 h.w0 ?_ ⟨(h.kown j x hx).1, fun hm0 => absurd hm0 (by simp)⟩ (fun _ _ _ => ⟨rfl, rfl⟩) (fun c hr => ?_) hreg⟩
  · have : op = { g := n0 + j, fn, pos, act := .access ⟨.obj x.c, false, true⟩ } ∨ op = { g := n0 + j, fn, pos, act := .close x.c } := by simpa using hop
    rcases this with rfl | rfl <;> exact ⟨.inr rfl, by simp, by simp⟩
  · refine .gone g1 rfl (set_at _ _ _ hlt) (by rw [put_same]; exact hq1) (.inl ⟨?_, hshut, _, hsat⟩)
    have := (h.kid j x hx).exp (by omega)
    rw [ho] at this
    exact this
  · obtain ⟨⟨tm', h1⟩, h2, h3, h4⟩ := h.res c hr
    refine ⟨⟨tm', ?_⟩, h2, h3, h4⟩
    rw [hsame c fun e => h4 (e ▸ hch)]
    exact h1

/-- One that is only leaving takes a step. -/
theorem CI.slipOld (h : CI P S n0 E R O a w0 kids q gs w t Own W b) {i k : Nat} {g g' : Goroutine} (h0 : 0 < i) (hn : i < n0) {es : Array Event} (hmute : ∀ e ∈ es, Event.mute e = true) (hq : QuitsD P k (deafBehind (Deaf t i) es) g') (fn : FuncId) (pos : String) :
    CI P S n0 E R O a w0 kids (put q i k) ((gs.map (Conc.woken P g g' w)).setIfInBounds i g') w (t ++ MemOp.ofEvents i fn pos es) Own W b := by
  have hpos := h.pos
  have hall := h.woken (w1 := w) (fun j x hx hm => (h.kid j x hx).openC hm) g g'
  have hset := set_get gs (Conc.woken P g g' w) i g' fun k x _ hx => hall k x hx
  have hu : ∀ op ∈ MemOp.ofEvents i fn pos es, op.g = i ∧ op.act.touch? = none ∧ op.act.low w.heap.size := by
    intro op hop
    obtain ⟨e, he, rfl⟩ := Conc.mem_ofEvents hop
    exact ⟨rfl, touch_mute (hmute e he), low_mute (hmute e he) _⟩
  have hd : ∀ k, k ≠ i → Deaf (t ++ MemOp.ofEvents i fn pos es) k = Deaf t k := fun k hk => Deaf_other t (Ne.symm hk) _ fun op hop => (hu op hop).1
  have hilt : i < gs.size := by rw [h.size]; omega
  refine ⟨h.pos, by simp [h.size], fun k x h1 h2 hx => ?_, fun k hk => ?_, ?_, h.own0, h.w0, fun k x hx => ?_, h.kown, h.ch, by simpa using h.res, h.exp, ?_⟩
  · by_cases e : k = i
    · subst e
      rw [set_at _ _ _ hilt] at hx
      injection hx with hx
      subst hx
      rw [put_same, Deaf_own]
      exact hq
    · rw [hset k e] at hx
      rw [put_ne _ _ e, hd k e]
      exact h.old k x h1 h2 hx
  · rw [hd k (by simp at hk; omega)]
    exact h.above k (by simpa using hk)
  · rw [hset 0 (by omega)]
    exact h.main
  · refine (h.kid k x hx).keep (hset _ (by omega)) rfl rfl (put_ne _ _ (by omega)) fun op hop hg => ?_
    exact (hu op hop).2.1
  · have : ¬LiveG n0 gs.size i := by
      rintro (e | e) <;> omega
    simpa using h.reg.mute this hu
theorem CI.slipGone (h : CI P S n0 E R O a w0 kids q gs w t Own W b) {j k : Nat} {x : Kid} {g g' : Goroutine} (hx : kids[j]? = some x) (hm : x.m = 0) (hq : QuitsIn P k g') (fn : FuncId) (pos : String) :
    CI P S n0 E R O a w0 kids (put q (n0 + j) k) ((gs.map (Conc.woken P g g' w)).setIfInBounds (n0 + j) g') w (t ++ MemOp.ofEvents (n0 + j) fn pos #[]) Own W b := by
  have hpos := h.pos
  have hall := h.woken (w1 := w) (fun j x hx hm => (h.kid j x hx).openC hm) g g'
  have hset := set_get gs (Conc.woken P g g' w) (n0 + j) g' fun k x _ hx => hall k x hx
  have hj := (List.getElem?_eq_some_iff.1 hx).1
  have hs : kids.set j x = kids := by
    have : kids[j] = x := (List.getElem?_eq_some_iff.1 hx).2
    rw [← this, List.set_getElem_self]
  have hki := h.kid j x hx
  have := h.to (u := #[]) (E' := E) (R' := R) (O' := O) (a' := a) (w0' := w0) (q' := put q (n0 + j) k) (gs' := (gs.map (Conc.woken P g g' w)).setIfInBounds (n0 + j) g') (w1 := w) (Own' := Own) (W' := W) (b' := b) hx (y := x) rfl (by simp) (fun i _ hi => hset i hi) (fun _ _ _ _ => rfl) (by simp) (fun i hi => put_ne _ _ hi) (fun _ _ _ _ => rfl) h.exp ?_ h.own0 h.w0 ?_ (h.kown j x hx) (fun _ _ _ => ⟨rfl, rfl⟩) h.res (by simpa using h.reg)
  · rw [ofE_nil]
    rw [hs] at this
    exact this
  · rw [hset 0 (by omega), hs]
    exact h.main
  · cases hki with
    | live k1 => omega
    | sits _ _ _ k1 => omega
    | gone g0 k1 k2 k3 k4 => exact .gone g' hm (set_at _ _ _ (h.gsK hx)) (by rw [put_same]; exact hq) (by simpa using k4)
/-- The two meet. -/
theorem CI.meet (h : CI P S n0 E R O a w0 kids q gs w t Own W b) {j : Nat} {x : Kid} (hx : kids[j]? = some x) (hm : 1 ≤ x.m) {v : Value} {outs : List Value} (hk : KT P S x.c outs x.own (Conc.served x.g undef) x.w) {s r : Nat} {tm : Bool} (hw : w1.heap = w.heap.setIfInBounds x.c (.chan 0 #[] false s r tm)) (ho : w1.os = w.os) (hu2 : w1.output = w.output)
    (hsz : gs'.size = gs.size) (h0 : gs'[0]? = some (Conc.served a v)) (hj : gs'[n0 + j]? = some (Conc.served x.g undef)) (hgs : ∀ i, i ≠ 0 → i ≠ n0 + j → gs'[i]? = gs[i]?) (hu : ∀ op ∈ u, (op.g = 0 ∨ op.g = n0 + j) ∧ Still w.heap.size op) :
    CI P S n0 (put E x.c (some outs)) R O (Conc.served a v) w0 (kids.set j { x with outs := outs, g := Conc.served x.g undef, m := 2 }) q gs' w1 (t ++ u) Own W true := by
  have hch : Chs kids x.c := ⟨j, x, hx, rfl⟩
  have hclt := h.lowC hx
  have hsame : ∀ r', r' ≠ x.c → w1.heap[r']? = w.heap[r']? := fun r' hr => by rw [hw, Array.getElem?_setIfInBounds_ne (Ne.symm hr)]
  have hother : ∀ (i : Nat) (z : Kid), kids[i]? = some z → i ≠ j → z.c ≠ x.c := fun i z hz hne e => hne (h.ch i j z x hz hx e)
  have hsz1 : w1.heap.size = w.heap.size := by rw [hw]; simp
  refine h.to hx rfl hsz hgs (fun i z hz hne => hsame _ (hother i z hz hne)) (fun op hop => ⟨(hu op hop).1, (hu op hop).2.dis, (hu op hop).2.ena⟩) (fun _ _ => rfl) (fun i z hz hne => put_ne _ _ (hother i z hz hne)) (fun c o hc => ?_) (.inl ⟨rfl, none, h0⟩) h.own0 h.w0 ?_ ⟨(h.kown j x hx).1, fun _ => (h.kown j x hx).2 hm⟩ (fun _ _ _ => ⟨rfl, rfl⟩) (fun c hr => ?_) ?_
  · by_cases e : c = x.c
    · rw [e]; exact hch
    · rw [put_ne _ _ e] at hc; exact h.exp c o hc
  · exact .live rfl hj hk ⟨s, r, tm, by rw [hw]; simp [hclt]⟩ (put_same _ _ _)
  · obtain ⟨⟨tm', h1⟩, h2, h3, h4⟩ := h.res c hr
    refine ⟨⟨tm', ?_⟩, h2, h3, h4⟩
    rw [hsame c fun e => h4 (e ▸ hch)]
    exact h1
  · exact (h.reg.chan hch hw ho hu2).still fun op hop => by rw [hsz1]; exact (hu op hop).2
/-- The main one finds a channel closed. -/
theorem CI.last (h : CI P S n0 E R O a w0 kids q gs w t Own W b) {j : Nat} {x : Kid} (hx : kids[j]? = some x) (hE : E x.c = some []) (hm : x.m = 0) {v : Value} (hsz : gs'.size = gs.size) (h0 : gs'[0]? = some (Conc.served a v)) (hgs : ∀ i, i ≠ 0 → gs'[i]? = gs[i]?) {y : MemOp} (hy : y.g = 0 ∧ y.act = .recvClosed x.c) :
    CI P S n0 (put E x.c none) R O (Conc.served a v) w0 kids q gs' w (t ++ #[y]) Own W true := by
  have hpos := h.pos
  have hch : Chs kids x.c := ⟨j, x, hx, rfl⟩
  have hj := (List.getElem?_eq_some_iff.1 hx).1
  have hs : kids.set j x = kids := by
    have : kids[j] = x := (List.getElem?_eq_some_iff.1 hx).2
    rw [← this, List.set_getElem_self]
  have hother : ∀ (i : Nat) (z : Kid), kids[i]? = some z → i ≠ j → z.c ≠ x.c := fun i z hz hne e => hne (h.ch i j z x hz hx e)
  have hst : Still w.heap.size y := ⟨by rw [hy.2]; rfl, by rw [hy.2]; exact h.lowC hx, by rw [hy.2]; simp, by rw [hy.2]; simp⟩
  have one : ∀ (op : MemOp), op ∈ #[y] → ∀ {p : MemOp → Prop}, p y → p op := fun op hop p hp => by
    have : op = y := by simpa using hop
    rw [this]; exact hp
  have hki := h.kid j x hx
  have := h.to (u := #[y]) (E' := put E x.c none) (R' := R) (O' := O) (a' := Conc.served a v) (w0' := w0) (q' := q) (gs' := gs') (w1 := w) (Own' := Own) (W' := W) (b' := true) hx (y := x) rfl hsz (fun i hi _ => hgs i hi) (fun _ _ _ _ => rfl) (fun op hop => one op hop (p := fun op => (op.g = 0 ∨ op.g = n0 + j) ∧ op.act ≠ .mark .disable ∧ op.act ≠ .mark .enable) ⟨.inl hy.1, hst.dis, hst.ena⟩) (fun _ _ => rfl) (fun i z hz hne => put_ne _ _ (hother i z hz hne)) (fun c o hc => ?_) (.inl ⟨rfl, none, h0⟩) h.own0 h.w0 ?_ (h.kown j x hx) (fun _ _ _ => ⟨rfl, rfl⟩) h.res (h.reg.still fun op hop => one op hop hst)
  · rw [hs] at this
    exact this
  · by_cases e : c = x.c
    · rw [e]; exact hch
    · rw [put_ne _ _ e] at hc; exact h.exp c o hc
  · cases hki with
    | live k1 => omega
    | sits _ _ _ k1 => omega
    | gone g0 k1 k2 k3 k4 =>
      refine .gone g0 hm (by rw [hgs _ (by omega)]; exact k2) k3 (.inr ⟨put_same _ _ _, ?_⟩)
      rcases k4 with ⟨_, _, pc, k4⟩ | ⟨k4, _⟩
      · exact k4.known hy (h.reg.tb.hears 0 (.inl rfl))
      · rw [hE] at k4; cases k4
end
end Go.Proofs.Ytgeoffpcmkofkaa
/- The machine with one that starts others and receives from them comes to the end, whatever the tape. -/
namespace Go.Proofs.Ytgeoffpcmkofkaa
open Go Go.Conc
open Go.ConcN (sumTo)

section
variable {P : Program} {S : Nat → Prop} {n0 : Nat} {E : Nat → Option (List Value)} {R : Option Nat} {O : Nat → Prop} {a : Goroutine} {w0 : World} {Post : Value → World → Prop}
def Fine (P : Program) (Post : Value → World → Prop) (m : Machine) (t : Trace) : Prop := ∃ N last o w' t', runNT P (N + 1) m t = (.ended o w', t') ∧ runN P N m = .next last ∧ step P last = .ended o w' ∧ Conc.Good P Post last o w' t'
theorem Fine.step {m m' : Machine} {t ops : Trace} (h : stepT P m = (.next m', ops)) (k : Fine P Post m' (t ++ ops)) : Fine P Post m t := by
  obtain ⟨n, last, o, w, t', h1, h2, h3, h4⟩ := k
  exact ⟨n + 1, last, o, w, t', by rw [runNT_succ_next h]; exact h1, by rw [runN_succ_next h]; exact h2, h3, h4⟩
section
variable {kids : List Kid} {q : Nat → Nat} {gs : Array Goroutine} {w : World} {t : Trace} {Own : Nat → Nat → Prop} {W : Nat → World} {b : Bool}
theorem CI.keep0 (h : CI P S n0 E R O a w0 kids q gs w t Own W b) : Keeps O S w0 w := by
  have := h.reg.keeps 0 (.inl rfl)
  rwa [h.own0, h.w0] at this
theorem CI.keepK (h : CI P S n0 E R O a w0 kids q gs w t Own W b) {j : Nat} {x : Kid} (hx : kids[j]? = some x) (hm : 1 ≤ x.m) : Keeps x.own S x.w w := by
  have := h.reg.keeps (n0 + j) (h.liveK hx)
  rwa [(h.kown j x hx).1, (h.kown j x hx).2 hm] at this
theorem CI.noRecvK (h : CI P S n0 E R O a w0 kids q gs w t Own W b) (c : Nat) : ∀ (i : Nat) (x : Goroutine), i ≠ 0 → gs[i]? = some x → offersAt x c false = [] := by
  intro i x h0 hx
  have hlt : i < gs.size := (Array.getElem?_eq_some_iff.1 hx).1
  by_cases hn : i < n0
  · exact offersAt_of_not_blocked (by rcases (h.old i x (by omega) hn hx).status with e | e <;> rw [e] <;> simp) _ _
  · obtain ⟨j, rfl⟩ : ∃ j, i = n0 + j := ⟨i - n0, by omega⟩
    have hj : j < kids.length := by rw [h.size] at hlt; omega
    have hk := h.kid j kids[j] (List.getElem?_eq_getElem hj)
    cases hk with
    | live k1 k2 k3 k4 k5 => rw [k2] at hx; injection hx with hx; rw [← hx]; exact offersAt_of_not_blocked (by rw [k3.running]; simp) _ _
    | sits v z outs k1 k2 k3 k4 k5 k6 => rw [k2] at hx; injection hx with hx; rw [← hx]; exact offersAt_parked_send' _ _ _ _ _ _
    | gone g k1 k2 k3 k4 => rw [k2] at hx; injection hx with hx; rw [← hx]; exact offersAt_of_not_blocked (by rcases k3.status with e | e <;> rw [e] <;> simp) _ _
theorem CI.noSendK (h : CI P S n0 E R O a w0 kids q gs w t Own W b) {j : Nat} {y : Kid} (hy : kids[j]? = some y) : ∀ (i : Nat) (x : Goroutine), i ≠ n0 + j → gs[i]? = some x → offersAt x y.c true = [] := by
  intro i x h0 hx
  have hlt : i < gs.size := (Array.getElem?_eq_some_iff.1 hx).1
  rcases Nat.eq_zero_or_pos i with rfl | hpos
  · rcases h.main with ⟨_, off, hm⟩ | ⟨_, c, z, hm, _⟩
    · rw [hm] at hx; injection hx with hx; rw [← hx]; exact offersAt_of_not_blocked (by simp) _ _
    · rw [hm] at hx; injection hx with hx; rw [← hx]; exact offersAt_parked_recv' _ _ _ _ _
  by_cases hn : i < n0
  · exact offersAt_of_not_blocked (by rcases (h.old i x (by omega) hn hx).status with e | e <;> rw [e] <;> simp) _ _
  · obtain ⟨k, rfl⟩ : ∃ k, i = n0 + k := ⟨i - n0, by omega⟩
    have hj : k < kids.length := by rw [h.size] at hlt; omega
    have hg := List.getElem?_eq_getElem hj
    have hk := h.kid k kids[k] hg
    cases hk with
    | live k1 k2 k3 k4 k5 => rw [k2] at hx; injection hx with hx; rw [← hx]; exact offersAt_of_not_blocked (by rw [k3.running]; simp) _ _
    | sits v z outs k1 k2 k3 k4 k5 k6 =>
      rw [k2] at hx; injection hx with hx; rw [← hx, offersAt_parked_send]
      rw [if_neg]
      intro e
      exact h0 (by rw [h.ch k j _ y hg hy e])
    | gone g k1 k2 k3 k4 => rw [k2] at hx; injection hx with hx; rw [← hx]; exact offersAt_of_not_blocked (by rcases k3.status with e | e <;> rw [e] <;> simp) _ _
theorem CI.acc (h : CI P S n0 E R O a w0 kids q gs w t Own W b) : Acc (One (KLt P S)) kids := by
  refine acc_one fun x hx => kid_acc x fun hm => ?_
  obtain ⟨j, hj⟩ := List.getElem?_of_mem hx
  have hk := h.kid j x hj
  cases hk with
  | live k1 k2 k3 k4 k5 => exact k3
  | sits _ _ _ k1 => omega
  | gone _ k1 => omega
end
theorem one_set {R : Kid → Kid → Prop} {x y : Kid} (hr : R y x) : ∀ {kids : List Kid} {j : Nat}, kids[j]? = some x → One R (kids.set j y) kids
  | [], j, h => by simp at h
  | k :: l, 0, h => by
    simp only [List.getElem?_cons_zero, Option.some.injEq] at h
    subst h
    exact .here hr
  | k :: l, j + 1, h => .there (one_set hr (by simpa using h))
theorem sum_put {q : Nat → Nat} {n i k : Nat} (hi : i < n) (hq : q i = k + 1) : sumTo n (put q i k) < sumTo n q := by
  have e : put q i k = Go.ConcN.upd q i k := by
    funext m
    unfold put Go.ConcN.upd
    rfl
  have := Go.ConcN.sumTo_upd q k id hi
  rw [e]
  have e1 : ∀ f : Nat → Nat, (fun k => id (f k)) = f := fun f => rfl
  simp only [id_eq, hq] at this
  have h2 : ∀ f : Nat → Nat, sumTo n (fun k => f k) = sumTo n f := fun f => rfl
  simp only [h2] at this
  omega
theorem inner
    (main : ∀ (kids : List Kid) (q : Nat → Nat) (gs : Array Goroutine) (w : World) (sl : Option (Nat × Nat)) (t : Trace) (Own : Nat → Nat → Prop) (W : Nat → World), CI P S n0 E R O a w0 kids q gs w t Own W true →
      (∃ m' ops, runT P (crowd gs w sl) 0 = (.next m', ops) ∧ Fine P Post m' (t ++ ops)) ∨ ∃ c z, RecvAt P S O a w0 c z ∧ ∃ (j : Nat) (x : Kid), kids[j]? = some x ∧ x.c = c ∧ x.m = 2)
    (meet : ∀ c z v outs, RecvAt P S O a w0 c z → E c = some (v :: outs) → ∀ (kids : List Kid) (q : Nat → Nat) (gs : Array Goroutine) (w : World) (sl : Option (Nat × Nat)) (t : Trace) (Own : Nat → Nat → Prop) (W : Nat → World),
      CI P S n0 (put E c (some outs)) R O (Conc.served a (recvd true v true)) w0 kids q gs w t Own W true → Fine P Post (crowd gs w sl) t) :
    ∀ kids, Acc (One (KLt P S)) kids → ∀ (M : Nat) (b : Bool) (q : Nat → Nat) (gs : Array Goroutine) (w : World) (sl : Option (Nat × Nat)) (t : Trace) (Own : Nat → Nat → Prop) (W : Nat → World), 2 * sumTo gs.size q + b.toNat = M → CI P S n0 E R O a w0 kids q gs w t Own W b → Fine P Post (crowd gs w sl) t := by
  intro kids hacc
  induction hacc with
  | intro kids _ ihk =>
    intro M
    induction M using Nat.strongRecOn with
    | ind M ih =>
      intro b q gs w sl t Own W hM hI
      obtain ⟨i, g, d, sl', hi, hg, hst⟩ := crowd_pick (P := P) (w := w) (sl := sl) hI.awake hI.some1
      replace hI := hI.heap (w1 := w.at d) rfl rfl rfl
      generalize w.at d = w' at hI hst
      have hpos0 := hI.pos
      rcases Nat.eq_zero_or_pos i with rfl | hpos
      · -- the main one
        rcases hI.main with ⟨rfl, off, hm⟩ | ⟨rfl, c, z, hm, _⟩
        · rcases main kids q gs w' sl' t Own W hI with ⟨m', ops, hr, hf⟩ | ⟨c, z, hr, j, x, hx, hc, hm2⟩
          · exact .step (hst.trans hr) hf
          · have hs : stepG P (0 == 0) { a with status := .running, offers := off } w' = .comm a #[rcase c z] true (.recv true) w' #[] := hr w' hI.keep0
            obtain ⟨s, r, tm, ho⟩ := (hI.kid j x hx).openC (by omega)
            rw [hc] at ho
            have hno : partners (gs.setIfInBounds 0 ph) c true = [] := stand_nil fun k y hk hy => by
              refine hI.noSend (c := c) (fun i z hz hzc hz1 => ?_) k y hy
              have := hI.ch i j z x hz hx (by rw [hzc, hc])
              subst this
              rw [hx] at hz
              injection hz with hz
              subst hz
              omega
            have hw := crowd_waits (P := P) (sl := sl') (i := 0) hm hs (by
              intro cc hcc
              have : cc = rcase c z := by simpa using hcc
              rw [this]
              exact ways_recv_none ho hno)
            rw [ofE_nil] at hw
            refine .step (hst.trans hw) (ih (2 * sumTo gs.size q) (by rw [← hM]; simp) false q _ w' sl' _ Own W (by simp) ?_)
            refine hI.mainTo (by simp) (fun k hk => Array.getElem?_setIfInBounds_ne (Ne.symm hk)) (fun _ _ _ => rfl) (by simp) (.inr ⟨rfl, c, z, ?_, hr, j, x, hx, hc, hm2⟩) hI.own0 hI.w0 (fun _ _ => ⟨rfl, rfl⟩) hI.res (by simpa using hI.reg)
            have : 0 < gs.size := (Array.getElem?_eq_some_iff.1 hm).1
            simp [this]
        · rw [hm] at hi
          injection hi with hi
          rw [← hi] at hg
          cases hg
      · have hi0 : (i == 0) = false := by simp; omega
        have hilt : i < gs.size := (Array.getElem?_eq_some_iff.1 hi).1
        by_cases hn : i < n0
        · -- one that leaves
          have hq := hI.old i g hpos hn hi
          cases hqi : q i with
          | zero => rw [hqi] at hq; rw [hq.1] at hg; cases hg
          | succ k =>
            rw [hqi] at hq
            rcases hq with ⟨hf, _⟩ | ⟨_, g', es, hmu, hstp, hq'⟩
            · rw [hf] at hg; cases hg
            have hrunT := runT_crowd_go (P := P) (sl := sl') (i := i) hi (by rw [hi0]; exact hstp w')
            refine .step (hst.trans hrunT) (ih _ ?_ b (put q i k) _ w' sl' _ Own W rfl (hI.slipOld hpos hn hmu hq' _ _))
            rw [← hM]
            have := sum_put (n := gs.size) hilt hqi
            simp only [Array.size_setIfInBounds, Array.size_map]
            omega
        · obtain ⟨j, rfl⟩ : ∃ j, i = n0 + j := ⟨i - n0, by omega⟩
          have hj : j < kids.length := by rw [hI.size] at hilt; omega
          obtain ⟨x, hx⟩ : ∃ x, kids[j]? = some x := ⟨kids[j], List.getElem?_eq_getElem hj⟩
          have hki := hI.kid j x hx
          cases hki with
          | live k1 k2 k3 k4 k5 =>
            have e : g = x.g := by rw [k2] at hi; injection hi with hi; exact hi.symm
            subst e
            have hkeep := hI.keepK hx (by omega)
            obtain ⟨xo, hxo⟩ : ∃ xo, x.outs = xo := ⟨_, rfl⟩
            rw [hxo] at k3
            cases k3 with
            | own hr h1 h2 =>
              obtain ⟨g1, w1, es, hs, hd, he⟩ := h1 w' hkeep
              have hrunT := runT_crowd_go (P := P) (sl := sl') (i := n0 + j) hi (by rw [hi0]; exact hs)
              have hkt := h2 w' g1 w1 es hkeep hs
              rw [← hxo] at hkt
              have hdL : DidO (Own (n0 + j)) w' w1 := by rw [(hI.kown j x hx).1]; exact hd
              have hch := hI.chan_did (hI.liveK hx) hdL
              have hall := hI.woken (w1 := w1) (fun i z hz hm => ((hI.kid i z hz).openC hm).of (hch i z hz)) x.g g1
              refine .step (hst.trans hrunT) (ihk _ (one_set (y := { x with own := own x.own w' w1, g := g1, w := w1 }) ?_ hx) _ b q _ w1 sl' _ _ _ rfl (hI.kidOwn hx k1 hkt hd he _ _ _ fun i z _ hz => hall i z hz))
              obtain ⟨s, r, tm, ho⟩ := k4
              exact ⟨k1, .inr ⟨k1, rfl, rfl, w', es, 0, s, r, tm, ho, hkeep, hs, he, rfl⟩⟩
            | @send v z outs _ _ _ hr h1 h2 =>
              have hs : stepG P (n0 + j == 0) x.g w' = .comm x.g #[scase x.c v z] true .send w' #[] := by rw [hi0]; exact h1 w' hkeep
              obtain ⟨s, r, tm, ho⟩ := id k4
              by_cases hw : ∃ z, gs[0]? = some (parked a #[rcase x.c z] (.recv true))
              · obtain ⟨z0, hw⟩ := hw
                have hrecv : RecvAt P S O a w0 x.c z0 := by
                  rcases hI.main with ⟨_, off, hm⟩ | ⟨_, c, z, hm, hr, _⟩
                  · rw [hm] at hw
                    injection hw with hw
                    have := congrArg Goroutine.status hw
                    cases this
                  · rw [hm] at hw
                    injection hw with hw
                    have := congrArg Goroutine.offers hw
                    simp only [parked, Option.some.injEq, Prod.mk.injEq, rcase] at this
                    have h3 := this.1
                    simp only [Array.mk.injEq, List.cons.injEq, CommCase.mk.injEq, Value.chan.injEq, Option.some.injEq] at h3
                    obtain ⟨⟨rfl, _, rfl⟩, _⟩ := h3
                    exact hr
                have hp : partners (gs.setIfInBounds (n0 + j) ph) x.c false = [(0, 0)] := by
                  have := partners_one (gs := gs.setIfInBounds (n0 + j) ph) (r := x.c) (send := false) (j := 0) (stand_get (i := n0 + j) (by omega) hw) fun k y hk hy => by
                    rcases getElem?_stand gs (n0 + j) k y hy with ⟨_, rfl⟩ | ⟨_, hy⟩
                    · exact offersAt_ph _ _
                    · exact hI.noRecvK x.c k y hk hy
                  rw [this, offersAt_parked_recv, if_pos rfl]
                  rfl
                have hrunT := crowd_send_meets (P := P) (sl := sl') (i := n0 + j) (j := 0) hi hs ho (by omega) hw hp
                rw [ofE_nil, finishComm_send, finishComm_recv] at hrunT
                refine .step (hst.trans hrunT) (meet x.c z0 v outs hrecv (by rw [k5, hxo]) (kids.set j { x with outs := outs, g := Conc.served x.g undef, m := 2 }) q _ _ sl' _ Own W ?_)
                have h0lt : 0 < gs.size := (Array.getElem?_eq_some_iff.1 hw).1
                refine hI.meet hx (by omega) h2 (w1 := w'.setChan x.c 0 #[] false (s + 1) (r + 1) tm) rfl rfl rfl (by simp) ?_ ?_ (fun i h1 h2 => ?_) fun op hop => ?_
                · rw [Array.getElem?_setIfInBounds_ne (by omega)]
                  simp [h0lt]
                · simp [hilt]
                · rw [Array.getElem?_setIfInBounds_ne (Ne.symm h2), Array.getElem?_setIfInBounds_ne (Ne.symm h1)]
                · have hlow := hI.lowC hx
                  simp only [Array.empty_append, List.mem_toArray, List.mem_cons, List.not_mem_nil, or_false] at hop
                  rcases hop with rfl | rfl | rfl | rfl
                  · exact ⟨.inr rfl, rfl, hlow, by simp, by simp⟩
                  · exact ⟨.inl rfl, rfl, hlow, by simp, by simp⟩
                  · exact ⟨.inr rfl, rfl, hlow, by simp, by simp⟩
                  · exact ⟨.inl rfl, rfl, hlow, by simp, by simp⟩
              · have hno : ∀ z, gs[0]? ≠ some (parked a #[rcase x.c z] (.recv true)) := fun z hz => hw ⟨z, hz⟩
                have hp : partners (gs.setIfInBounds (n0 + j) ph) x.c false = [] := stand_nil fun k y _ hy => hI.noRecv hno k y hy
                have hrunT := crowd_waits (P := P) (sl := sl') (i := n0 + j) hi hs (by
                  intro cc hcc
                  have : cc = scase x.c v z := by simpa using hcc
                  rw [this]
                  exact ways_send_none ho (Nat.le_refl _) hp)
                rw [ofE_nil] at hrunT
                have hsit := hI.kidSit hx k1 (z := z) hxo h2 hno
                refine .step (hst.trans hrunT) (ihk _ (one_set (y := { x with m := 1 }) ⟨k1, .inl (by simp)⟩ hx) _ b q _ w' sl' _ Own W rfl ?_)
                simpa using hsit
            | @shut _ _ g1 _ n hr hwk h1 h2 =>
              obtain ⟨s, r, tm, ho⟩ := id k4
              have hs := h1 w' 0 s r tm hkeep ho
              have hrunT := runT_crowd_go (P := P) (sl := sl') (i := n0 + j) hi (by rw [hi0]; exact hs)
              obtain ⟨b', hc⟩ := hI.kidShut hx k1 hxo h2 s r tm x.g.frame.fn x.g.frame.place hwk
              exact .step (hst.trans hrunT) (ihk _ (one_set (y := { x with m := 0 }) ⟨k1, .inl (by simp)⟩ hx) _ b' _ _ _ sl' _ Own W rfl hc)
          | sits v z outs k1 k2 k3 k4 k5 k6 =>
            rw [k2] at hi
            injection hi with hi
            rw [← hi] at hg
            cases hg
          | gone g0 k1 k2 k3 k4 =>
            have e : g0 = g := by rw [k2] at hi; injection hi
            subst e
            cases hqi : q (n0 + j) with
            | zero => rw [hqi] at k3; rw [show g0.status = .finished from k3] at hg; cases hg
            | succ k =>
              rw [hqi] at k3
              rcases k3 with hf | ⟨_, g', hstp, hq'⟩
              · rw [hf] at hg; cases hg
              have hrunT := runT_crowd_go (P := P) (sl := sl') (i := n0 + j) hi (by rw [hi0]; exact hstp w')
              refine .step (hst.trans hrunT) (ih _ ?_ b (put q (n0 + j) k) _ w' sl' _ Own W rfl (hI.slipGone hx k1 hq' _ _))
              rw [← hM]
              have := sum_put (n := gs.size) hilt hqi
              simp only [Array.size_setIfInBounds, Array.size_map]
              omega
end
end Go.Proofs.Ytgeoffpcmkofkaa
/- The machine with one that starts others and receives from them comes to the end, whatever the tape: the whole. -/
namespace Go.Proofs.Ytgeoffpcmkofkaa
open Go Go.Conc

section
variable {P : Program} {S : Nat → Prop} {n0 : Nat} {E : Nat → Option (List Value)} {R : Option Nat} {O : Nat → Prop} {a : Goroutine} {w0 : World} {Post : Value → World → Prop} {Fin : Goroutine → World → Prop}
theorem recvAt_eq {c c' : Nat} {z z' : Value} (h : RecvAt P S O a w0 c z) (h' : RecvAt P S O a w0 c' z') : c' = c ∧ z' = z := by
  have e := h w0 (Keeps.refl _ _ _)
  rw [h' w0 (Keeps.refl _ _ _)] at e
  injection e with _ e
  simp only [rcase, Array.mk.injEq, List.cons.injEq, CommCase.mk.injEq, Value.chan.injEq, Option.some.injEq] at e
  exact ⟨e.1.1, e.1.2.2⟩
theorem run_eta {a1 : Goroutine} (h : a1.status = .running) : some a1 = some { a1 with status := .running, offers := a1.offers } := by
  obtain ⟨f, c, s, d, o⟩ := a1
  simp only at h
  subst h
  rfl
section
variable {kids : List Kid} {q : Nat → Nat} {gs : Array Goroutine} {w w1 : World} {t : Trace} {Own : Nat → Nat → Prop} {W : Nat → World} {b : Bool}
/-- One more is started. -/
theorem CI.spawn {c : Nat} (h : CI P S n0 E (some c) O a w0 kids q gs w t Own W b) {a1 child : Goroutine} {outs : List Value} (h1 : a1.status = .running) (hk : KT P S c outs (fun _ => False) child w) {x y : MemOp} (hx : x.g = 0 ∧ x.act = .go gs.size) (hy : y.g = gs.size ∧ y.act = .start) :
    CI P S n0 (put E c (some outs)) none O a1 w0 (kids ++ [⟨c, outs, fun _ => False, child, w, 2⟩]) q ((gs.setIfInBounds 0 a1).push child) w (t ++ #[x, y]) (put Own gs.size fun _ => False) (put W gs.size w) true := by
  have hpos := h.pos
  have hsz := h.size
  obtain ⟨⟨tm, c1⟩, c2, c3, c4⟩ := h.res c rfl
  have hclt : c < w.heap.size := (Array.getElem?_eq_some_iff.1 c1).1
  have h0lt : 0 < gs.size := by omega
  have hss : ((gs.setIfInBounds 0 a1).push child).size = gs.size + 1 := by simp
  have hget : ∀ i, i ≠ 0 → i < gs.size → ((gs.setIfInBounds 0 a1).push child)[i]? = gs[i]? := fun i hi hlt => by
    rw [Array.getElem?_push_lt (by simpa using hlt)]
    simp [hlt, Ne.symm hi]
  have hnew : ((gs.setIfInBounds 0 a1).push child)[gs.size]? = some child := by
    have : gs.size = (gs.setIfInBounds 0 a1).size := by simp
    rw [this]
    exact Array.getElem?_push_size
  have hchs : ∀ d, Chs (kids ++ [⟨c, outs, fun _ => False, child, w, 2⟩]) d ↔ Chs kids d ∨ d = c := by
    intro d
    refine ⟨fun ⟨j, z, hz, hd⟩ => ?_, fun hd => ?_⟩
    · rcases Nat.lt_or_ge j kids.length with hj | hj
      · rw [List.getElem?_append_left hj] at hz
        exact .inl ⟨j, z, hz, hd⟩
      · rw [List.getElem?_append_right hj] at hz
        have : j - kids.length = 0 := by
          rcases Nat.eq_zero_or_pos (j - kids.length) with e | e
          · exact e
          · rw [List.getElem?_eq_none (by simp; omega)] at hz; cases hz
        rw [this] at hz
        simp only [List.getElem?_cons_zero, Option.some.injEq] at hz
        subst hz
        exact .inr hd.symm
    · rcases hd with ⟨j, z, hz, hd⟩ | rfl
      · exact ⟨j, z, by rw [List.getElem?_append_left (List.getElem?_eq_some_iff.1 hz).1]; exact hz, hd⟩
      · exact ⟨kids.length, ⟨d, outs, fun _ => False, child, w, 2⟩, by rw [List.getElem?_append_right (Nat.le_refl _)]; simp, rfl⟩
  have kcases : ∀ (j : Nat) (z : Kid), (kids ++ [⟨c, outs, fun _ => False, child, w, 2⟩])[j]? = some z → kids[j]? = some z ∨ (j = kids.length ∧ z = ⟨c, outs, fun _ => False, child, w, 2⟩) := by
    intro j z hz
    rcases Nat.lt_or_ge j kids.length with hj | hj
    · rw [List.getElem?_append_left hj] at hz
      exact .inl hz
    · rw [List.getElem?_append_right hj] at hz
      have : j - kids.length = 0 := by
        rcases Nat.eq_zero_or_pos (j - kids.length) with e | e
        · exact e
        · rw [List.getElem?_eq_none (by simp; omega)] at hz; cases hz
      rw [this] at hz
      simp only [List.getElem?_cons_zero, Option.some.injEq] at hz
      exact .inr ⟨by omega, hz.symm⟩
  have hdeaf : ∀ g, Deaf (t ++ #[x, y]) g = Deaf t g := fun g => deaf_same fun op hop => by
    have : op = x ∨ op = y := by simpa using hop
    rcases this with rfl | rfl
    · rw [hx.2]; simp
    · rw [hy.2]; simp
  have hreg := h.reg.fork (Live' := LiveG n0 (gs.size + 1)) (Ch' := Chs (kids ++ [⟨c, outs, fun _ => False, child, w, 2⟩])) (.inl rfl) (k := gs.size) (by rintro (e | e) <;> omega) (h.above _ (Nat.le_refl _)) hx hy (fun g => by unfold LiveG; omega) hchs hclt c3 c2
  refine ⟨hpos, by simp [hsz]; omega, fun i g k1 k2 hg => ?_, fun j hj => ?_, .inl ⟨rfl, a1.offers, ?_⟩, by rw [put_ne _ _ (by omega)]; exact h.own0, by rw [put_ne _ _ (by omega)]; exact h.w0, fun j z hz => ?_, fun j z hz => ?_, fun i j z z' hz hz' he => ?_, (fun c hc => by cases hc), fun d o hd => ?_, by rw [hss]; exact hreg⟩
  · rw [hdeaf]
    exact h.old i g k1 k2 (by rw [← hget i (by omega) (by omega)]; exact hg)
  · rw [hdeaf]; exact h.above j (by simp at hj; omega)
  · rw [← run_eta h1, Array.getElem?_push_lt (by simpa using h0lt)]
    simp
  · rcases kcases j z hz with hz | ⟨rfl, rfl⟩
    · have hj := (List.getElem?_eq_some_iff.1 hz).1
      have hne : z.c ≠ c := fun e => c4 ⟨j, z, hz, e⟩
      refine (h.kid j z hz).keep (hget _ (by omega) (by omega)) rfl (put_ne _ _ hne) rfl fun op hop hg => ?_
      have : op = x ∨ op = y := by simpa using hop
      rcases this with rfl | rfl
      · omega
      · omega
    · exact .live rfl (by rw [← hsz]; exact hnew) hk ⟨0, 0, tm, c1⟩ (put_same _ _ _)
  · rcases kcases j z hz with hz | ⟨rfl, rfl⟩
    · have hj := (List.getElem?_eq_some_iff.1 hz).1
      rw [put_ne _ _ (by omega), put_ne _ _ (by omega)]
      exact h.kown j z hz
    · rw [← hsz, put_same, put_same]
      exact ⟨rfl, fun _ => rfl⟩
  · rcases kcases i z hz with hz | ⟨rfl, rfl⟩ <;> rcases kcases j z' hz' with hz' | ⟨rfl, rfl⟩
    · exact h.ch i j z z' hz hz' he
    · exact absurd ⟨i, z, hz, he⟩ c4
    · exact absurd ⟨j, z', hz', he.symm⟩ c4
    · rfl
  · rw [hchs]
    by_cases e : d = c
    · exact .inr e
    · rw [put_ne _ _ e] at hd
      exact .inl (h.exp d o hd)
end
theorem crowd_fine
    (fin : ∀ (a : Goroutine) (gs : Array Goroutine) (w : World) (sl : Option (Nat × Nat)) (t : Trace) (q : Nat → Nat) (off : Option (Array CommCase × CommShape)), Fin a w → gs[0]? = some { a with status := .running, offers := off } → Leavers P t gs q → Past (fun _ => False) w.heap.size t → Fine P Post (crowd gs w sl) t)
    (h : MB P S Fin E R O a w0) : ∀ (kids : List Kid) (q : Nat → Nat) (gs : Array Goroutine) (w : World) (sl : Option (Nat × Nat)) (t : Trace) (Own : Nat → Nat → Prop) (W : Nat → World) (b : Bool), CI P S n0 E R O a w0 kids q gs w t Own W b → Fine P Post (crowd gs w sl) t := by
  induction h with
  | @own E R O a w0 hr h1 h2 ih =>
    intro kids q gs w sl t Own W b hI
    refine inner (fun kids q gs w sl t Own W hI => .inl ?_) (fun c z v outs hrec => ?_) kids hI.acc _ b q gs w sl t Own W rfl hI
    · obtain ⟨a1, w1, es, hs, ha1, hd, he⟩ := h1 w hI.keep0
      obtain ⟨off, hm⟩ : ∃ off, gs[0]? = some { a with status := .running, offers := off } := by
        rcases hI.main with ⟨_, k⟩ | ⟨k, _⟩
        · exact k
        · cases k
      have hlt : 0 < gs.size := (Array.getElem?_eq_some_iff.1 hm).1
      have hrunT := runT_crowd_go (P := P) (sl := sl) (i := 0) (g' := a1) (w' := w1) (es := es) hm hs
      refine ⟨_, _, hrunT, ih w a1 w1 es hI.keep0 hs kids q _ w1 sl _ (put Own 0 (own O w w1)) (put W 0 w1) true ?_⟩
      have hdL : DidO (Own 0) w w1 := by rw [hI.own0]; exact hd
      have hch := hI.chan_did (.inl rfl) hdL
      have hres := hI.res_did (.inl rfl) hdL
      have hreg := hI.reg.step (.inl rfl) hdL (es := es) (by rw [hI.own0]; exact he) a.frame.fn a.frame.place
      rw [hI.own0] at hres hreg
      have hall := hI.woken (w1 := w1) (fun i z hz hm => ((hI.kid i z hz).openC hm).of (hch i z hz)) { a with status := .running, offers := off } a1
      refine hI.mainTo (by simp) (set_get _ _ _ _ fun i x _ hx => hall i x hx) hch (calm_of he) (.inl ⟨rfl, a1.offers, ?_⟩) (put_same _ _ _) (put_same _ _ _) (fun i hi => ⟨put_ne _ _ hi, put_ne _ _ hi⟩) hres hreg
      rw [← run_eta ha1]
      exact set_at _ _ _ hlt
    · obtain ⟨a1, w1, es, hs, _⟩ := h1 w0 (Keeps.refl _ _ _)
      have := hrec w0 (Keeps.refl _ _ _)
      rw [hs] at this
      cases this
  | @make E O a w0 tm hr h1 h2 ih =>
    intro kids q gs w sl t Own W b hI
    refine inner (fun kids q gs w sl t Own W hI => .inl ?_) (fun c z v outs hrec => ?_) kids hI.acc _ b q gs w sl t Own W rfl hI
    · obtain ⟨a1, hs, ha1⟩ := h1 w hI.keep0
      obtain ⟨off, hm⟩ : ∃ off, gs[0]? = some { a with status := .running, offers := off } := by
        rcases hI.main with ⟨_, k⟩ | ⟨k, _⟩
        · exact k
        · cases k
      have hlt : 0 < gs.size := (Array.getElem?_eq_some_iff.1 hm).1
      have hrunT := runT_crowd_go (P := P) (sl := sl) (i := 0) (g' := a1) (es := #[]) hm hs
      have hih := ih w a1 _ #[] hI.keep0 hs
      generalize hw1 : ({ w with heap := w.heap.push (.chan 0 #[] false 0 0 tm) } : World) = w1 at hrunT hih
      have hh1 : w1.heap = w.heap.push (.chan 0 #[] false 0 0 tm) := by rw [← hw1]
      refine ⟨_, _, hrunT, hih kids q _ w1 sl _ Own (put W 0 w1) true ?_⟩
      have hch : ∀ (i : Nat) (z : Kid), kids[i]? = some z → w1.heap[z.c]? = w.heap[z.c]? := fun i z hz => by
        have := hI.lowC hz
        rw [hh1, Array.getElem?_push_lt this]
        simp [this]
      have hall := hI.woken (w1 := w1) (fun i z hz hm => ((hI.kid i z hz).openC hm).of (hch i z hz)) { a with status := .running, offers := off } a1
      rw [ofE_nil]
      refine hI.mainTo (by simp) (set_get _ _ _ _ fun i x _ hx => hall i x hx) hch (by simp) (.inl ⟨rfl, a1.offers, ?_⟩) hI.own0 (put_same _ _ _) (fun i hi => ⟨rfl, put_ne _ _ hi⟩) (fun c hc => ?_) (by simpa using (hI.reg.new hh1 (by rw [← hw1]) (by rw [← hw1])).now 0)
      · rw [← run_eta ha1]
        exact set_at _ _ _ hlt
      · injection hc with hc
        subst hc
        refine ⟨⟨tm, by rw [hh1]; exact Array.getElem?_push_size⟩, fun hs => ?_, fun g hg ho => ?_, fun hs => ?_⟩
        · exact Nat.lt_irrefl _ (hI.reg.sLow _ hs)
        · exact Nat.lt_irrefl _ (hI.reg.low g _ hg ho)
        · exact Nat.lt_irrefl _ (hI.reg.cLow _ hs)
    · obtain ⟨a1, hs, _⟩ := h1 w0 (Keeps.refl _ _ _)
      have := hrec w0 (Keeps.refl _ _ _)
      rw [hs] at this
      cases this
  | @spawn E c outs O a a1 child w0 hr hr1 h1 h2 _ ih =>
    intro kids q gs w sl t Own W b hI
    refine inner (fun kids q gs w sl t Own W hI => .inl ?_) (fun c z v outs hrec => ?_) kids hI.acc _ b q gs w sl t Own W rfl hI
    · obtain ⟨off, hm⟩ : ∃ off, gs[0]? = some { a with status := .running, offers := off } := by
        rcases hI.main with ⟨_, k⟩ | ⟨k, _⟩
        · exact k
        · cases k
      have hrunT := runT_crowd_spawn (P := P) (sl := sl) (i := 0) (g' := a1) (child := child) (w' := w) (es := #[]) hm (h1 w hI.keep0)
      rw [ofE_nil] at hrunT
      refine ⟨_, _, hrunT, ?_⟩
      have := hI.spawn hr1 (h2 w hI.keep0) (x := { g := 0, fn := a.frame.fn, pos := a.frame.place, act := .go gs.size }) (y := { g := gs.size, fn := child.frame.fn, pos := a.frame.place, act := .start }) ⟨rfl, rfl⟩ ⟨rfl, rfl⟩
      exact ih _ q _ w sl _ _ _ true this
    · have e := h1 w0 (Keeps.refl _ _ _)
      have := hrec w0 (Keeps.refl _ _ _)
      rw [e] at this
      cases this
  | @recv E R c v z outs O a w0 hr h1 h2 _ ih =>
    intro kids q gs w sl t Own W b hI
    refine inner (fun kids q gs w sl t Own W hI => ?_) (fun c' z' v' outs' hrec hE => ?_) kids hI.acc _ b q gs w sl t Own W rfl hI
    · obtain ⟨j, x, hx, hc⟩ := hI.exp c _ h2
      subst hc
      have hki := hI.kid j x hx
      cases hki with
      | live k1 k2 k3 k4 k5 => exact .inr ⟨x.c, z, h1, j, x, hx, rfl, k1⟩
      | gone g0 k1 k2 k3 k4 =>
        rcases k4 with ⟨k, _⟩ | ⟨k, _⟩
        · rw [h2] at k; cases k
        · rw [h2] at k; cases k
      | sits v0 z0 outs0 k1 k2 k3 k4 k5 k6 =>
        left
        obtain ⟨off, hm⟩ : ∃ off, gs[0]? = some { a with status := .running, offers := off } := by
          rcases hI.main with ⟨_, k⟩ | ⟨k, _⟩
          · exact k
          · cases k
        have hlt : 0 < gs.size := (Array.getElem?_eq_some_iff.1 hm).1
        have hpos := hI.pos
        obtain ⟨e1, e2⟩ : v0 = v ∧ outs0 = outs := by
          rw [h2, k3] at k6
          injection k6 with k6
          injection k6 with k6 k7
          exact ⟨k6.symm, k7.symm⟩
        subst e1 e2
        obtain ⟨s, r, tm, ho⟩ := k5
        have hp : partners (gs.setIfInBounds 0 ph) x.c true = [(n0 + j, 0)] := by
          have := partners_one (gs := gs.setIfInBounds 0 ph) (r := x.c) (send := true) (j := n0 + j) (stand_get (i := 0) (by omega) k2) fun k y hk hy => by
            rcases getElem?_stand gs 0 k y hy with ⟨_, rfl⟩ | ⟨_, hy⟩
            · exact offersAt_ph _ _
            · exact hI.noSendK hx k y hk hy
          rw [this, offersAt_parked_send, if_pos rfl]
          rfl
        have hrunT := crowd_recv_meets (P := P) (sl := sl) (i := 0) (j := n0 + j) hm (h1 w hI.keep0) ho (by omega) k2 hp
        rw [ofE_nil, finishComm_send, finishComm_recv] at hrunT
        refine ⟨_, _, hrunT, ih (kids.set j { x with outs := outs0, g := Conc.served x.g undef, m := 2 }) q _ _ sl _ Own W true ?_⟩
        have hklt := hI.gsK hx
        refine hI.meet hx (by omega) k4 (w1 := w.setChan x.c 0 #[] false (s + 1) (r + 1) tm) rfl rfl rfl (by simp) ?_ ?_ (fun i h1 h2 => ?_) fun op hop => ?_
        · simp [hlt]
        · rw [Array.getElem?_setIfInBounds_ne (by omega)]
          simp [hklt]
        · rw [Array.getElem?_setIfInBounds_ne (Ne.symm h1), Array.getElem?_setIfInBounds_ne (Ne.symm h2)]
        · have hlow := hI.lowC hx
          simp only [Array.empty_append, List.mem_toArray, List.mem_cons, List.not_mem_nil, or_false] at hop
          rcases hop with rfl | rfl | rfl | rfl
          · exact ⟨.inr rfl, rfl, hlow, by simp, by simp⟩
          · exact ⟨.inl rfl, rfl, hlow, by simp, by simp⟩
          · exact ⟨.inr rfl, rfl, hlow, by simp, by simp⟩
          · exact ⟨.inl rfl, rfl, hlow, by simp, by simp⟩
    · obtain ⟨rfl, rfl⟩ := recvAt_eq h1 hrec
      rw [h2] at hE
      injection hE with hE
      injection hE with e1 e2
      subst e1 e2
      exact fun kids q gs w sl t Own W hI => ih kids q gs w sl t Own W true hI
  | @last E R c z O a w0 hr h1 h2 _ ih =>
    intro kids q gs w sl t Own W b hI
    refine inner (fun kids q gs w sl t Own W hI => ?_) (fun c' z' v' outs' hrec hE => ?_) kids hI.acc _ b q gs w sl t Own W rfl hI
    · obtain ⟨j, x, hx, hc⟩ := hI.exp c _ h2
      subst hc
      have hki := hI.kid j x hx
      cases hki with
      | live k1 k2 k3 k4 k5 => exact .inr ⟨x.c, z, h1, j, x, hx, rfl, k1⟩
      | sits v0 z0 outs0 k1 k2 k3 k4 k5 k6 => rw [h2, k3] at k6; cases k6
      | gone g0 k1 k2 k3 k4 =>
        left
        obtain ⟨off, hm⟩ : ∃ off, gs[0]? = some { a with status := .running, offers := off } := by
          rcases hI.main with ⟨_, k⟩ | ⟨k, _⟩
          · exact k
          · cases k
        have hlt : 0 < gs.size := (Array.getElem?_eq_some_iff.1 hm).1
        obtain ⟨s, r, tm, ho⟩ : ShutC w x.c := by
          rcases k4 with ⟨_, k, _⟩ | ⟨k, _⟩
          · exact k
          · rw [h2] at k; cases k
        have hp : partners (gs.setIfInBounds 0 ph) x.c true = [] := stand_nil fun k y _ hy => by
          refine hI.noSend (c := x.c) (fun i z hz hzc hz1 => ?_) k y hy
          have := hI.ch i j z x hz hx hzc
          subst this
          rw [hx] at hz
          injection hz with hz
          subst hz
          omega
        have hrunT := crowd_recv_closed (P := P) (sl := sl) (i := 0) hm (h1 w hI.keep0) ho hp
        rw [ofE_nil, finishComm_recv] at hrunT
        refine ⟨_, _, hrunT, ih kids q _ w sl _ Own W true ?_⟩
        have := hI.last hx h2 k1 (v := recvd true z false) (gs' := gs.setIfInBounds 0 (Conc.served a (recvd true z false))) (by simp) (by simp [hlt]) (fun i hi => Array.getElem?_setIfInBounds_ne (Ne.symm hi)) (y := { g := 0, fn := a.frame.fn, pos := a.frame.place, act := .recvClosed x.c }) ⟨rfl, rfl⟩
        simpa using this
    · obtain ⟨rfl, rfl⟩ := recvAt_eq h1 hrec
      rw [h2] at hE
      cases hE
  | @stop E O a w0 h1 h2 =>
    intro kids q gs w sl t Own W b hI
    have gone : ∀ (j : Nat) (x : Kid), kids[j]? = some x → ∃ g, gs[n0 + j]? = some g ∧ QuitsIn P (q (n0 + j)) g ∧ AllKnown (n0 + j) t := by
      intro j x hx
      have hki := hI.kid j x hx
      cases hki with
      | live k1 k2 k3 k4 k5 => rw [h1] at k5; cases k5
      | sits v0 z0 outs0 k1 k2 k3 k4 k5 k6 => rw [h1] at k6; cases k6
      | gone g0 k1 k2 k3 k4 =>
        rcases k4 with ⟨k, _⟩ | ⟨_, k⟩
        · rw [h1] at k; cases k
        · exact ⟨g0, k2, k3, k⟩
    have hkid : ∀ i, n0 ≤ i → i < gs.size → ∃ j x, i = n0 + j ∧ kids[j]? = some x := by
      intro i h1 h2
      rw [hI.size] at h2
      exact ⟨i - n0, kids[i - n0]'(by omega), by omega, List.getElem?_eq_getElem (by omega)⟩
    rcases hI.main with ⟨_, off, hm⟩ | ⟨_, c, z, hm, hr, j, x, hx, _, hm2⟩
    · refine fin a gs w sl t q off (h2 w hI.keep0) hm ⟨fun i g hi hg => ?_, hI.above⟩ (hI.reg.tb.toPast (.inl rfl) fun g hg hne => ?_)
      · have hlt : i < gs.size := (Array.getElem?_eq_some_iff.1 hg).1
        by_cases hn : i < n0
        · exact hI.old i g hi hn hg
        · obtain ⟨j, x, rfl, hx⟩ := hkid i (by omega) hlt
          obtain ⟨g0, k1, k2, _⟩ := gone j x hx
          rw [k1] at hg
          injection hg with hg
          subst hg
          rw [hI.reg.tb.hears _ (.inr ⟨by omega, hlt⟩)]
          exact QuitsD.of_quitsIn k2
      · rcases hg with hg | ⟨hg, hlt⟩
        · exact absurd hg hne
        · obtain ⟨j, x, rfl, hx⟩ := hkid g hg hlt
          exact (gone j x hx).choose_spec.2.2
    · have := (hI.kid j x hx).exp (by omega)
      rw [h1] at this
      cases this
end
end Go.Proofs.Ytgeoffpcmkofkaa
