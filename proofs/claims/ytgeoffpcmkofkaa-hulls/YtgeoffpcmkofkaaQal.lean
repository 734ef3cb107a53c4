/- Kx; Ky; Kz; La: texts laid into one. -/
import Derived.Conc.Beside
import Derived.Conc.CrowdTrace
import Derived.Test.YtgeoffpcmkofkaaQak
import Derived.Conc.CrowdComm
/- The trace while goroutines work side by side, each in blocks of its own, all reading what nobody writes. -/
namespace Go.Proofs.Ytgeoffpcmkofkaa
open Go Go.Conc

/-- The block of a place. -/
def blk : Loc → Option Nat
  | .cell a => some a.block
  | .obj r => some r
  | _ => none
section
variable (Live : Nat → Prop) (Own : Nat → Nat → Prop) (S Ch : Nat → Prop)
structure Lie : Prop where
  own : ∀ g g' b, Live g → Live g' → Own g b → Own g' b → g = g'
  ownS : ∀ g b, Live g → Own g b → ¬S b
  ownCh : ∀ g b, Live g → Own g b → ¬Ch b
  chS : ∀ b, Ch b → ¬S b
/-- A touch that a goroutine may make. -/
def May (g : Nat) (x : Touch) : Prop := ∃ b, blk x.loc = some b ∧ (Own g b ∨ (S b ∧ x.write = false) ∨ (Ch b ∧ x.kind = .atomic))
structure TB (N : Nat) (t : Trace) : Prop where
  clean : ∀ said, ¬Race said t
  zone : ∀ i a, touchAt t i = some a → a.loc.isMemory = true → (∀ g, Live g → Knows t g i) ∨ ∃ g, t.g? i = some g ∧ Live g ∧ May Own S Ch g a
  hears : ∀ g, Live g → Deaf t g = 0
  seen : ∀ op ∈ t, op.act.low N
structure OkT (N g : Nat) (op : MemOp) : Prop where
  by_ : op.g = g
  may : ∀ x, op.act.touch? = some x → x.loc.isMemory = true → May Own S Ch g x
  low : op.act.low N
  dis : op.act ≠ .mark .disable
  ena : op.act ≠ .mark .enable
end
section
variable {Live Live' : Nat → Prop} {Own Own' : Nat → Nat → Prop} {S Ch Ch' : Nat → Prop} {N N' : Nat} {t u : Trace}
theorem gq_of {i : Nat} {op : MemOp} (h : t[i]? = some op) : t.g? i = some op.g := by simp [Trace.g?, h]
theorem gq_app {i g : Nat} (u : Trace) (h : t.g? i = some g) : (t ++ u).g? i = some g := by
  unfold Trace.g? at h
  obtain ⟨z, hz, rfl⟩ := Option.map_eq_some_iff.1 h
  exact gq_of (by rw [getElem?_append_old (lt_size_of_getElem? hz)]; exact hz)
theorem knows_gq {i g : Nat} (h : t.g? i = some g) : Knows t g i := by
  unfold Trace.g? at h
  obtain ⟨z, hz, rfl⟩ := Option.map_eq_some_iff.1 h
  exact knows_own hz
theorem May.mono {g : Nat} {x : Touch} (h : May Own S Ch g x) (hO : ∀ b, Own g b → Own' g b) (hC : ∀ b, Ch b → Ch' b) : May Own' S Ch' g x := by
  obtain ⟨b, h1, h2⟩ := h
  exact ⟨b, h1, h2.imp (hO b) fun k => k.imp id fun k => ⟨hC b k.1, k.2⟩⟩
theorem TB.mono (h : TB Live Own S Ch N t) (hO : ∀ g b, Live g → Own g b → Own' g b) (hC : ∀ b, Ch b → Ch' b) (hN : N ≤ N') : TB Live Own' S Ch' N' t :=
  ⟨h.clean, fun i a ha hm => (h.zone i a ha hm).imp id fun ⟨g, h1, h2, h3⟩ => ⟨g, h1, h2, h3.mono (fun b => hO g b h2) hC⟩, h.hears, fun op hop => MemAct.low_mono hN (h.seen op hop)⟩
theorem deaf_still {g : Nat} : ∀ (l : List MemOp) (t : Trace), (∀ op ∈ l, op.act ≠ .mark .disable ∧ op.act ≠ .mark .enable) → Deaf (t ++ l.toArray) g = Deaf t g
  | [], t, _ => by simp
  | x :: l, t, h => by
    have e : t ++ (x :: l).toArray = (t ++ #[x]) ++ l.toArray := by apply Array.ext'; simp
    rw [e, deaf_still l _ fun op hop => h op (by simp [hop]), Deaf_push]
    have hx := h x (by simp)
    unfold deafStep
    split
    · rename_i e; exact absurd e hx.1
    · rename_i e; exact absurd e hx.2
    · rfl
theorem TB.app (A : Lie Live Own S Ch) (h : TB Live Own S Ch N t) {g : Nat} (hg : Live g) (hu : ∀ op ∈ u, OkT Own S Ch N g op) : TB Live Own S Ch N (t ++ u) := by
  refine ⟨fun said => noRace_append (h.clean said) (fun op hop => (hu op hop).by_) fun i a ha op hop b hb hc => ?_, fun i a ha hm => ?_, fun g' hg' => ?_, seen_app h.seen fun op hop => (hu op hop).low⟩
  · obtain ⟨h1, h2, h3, h4⟩ := hc
    rcases h.zone i a ha h2 with hk | ⟨g', k1, k2, bl, k3, k4⟩
    · exact hk g hg
    · obtain ⟨bl', m3, m4⟩ := (hu op hop).may b hb (by rw [← h1]; exact h2)
      rw [← h1, k3] at m3
      injection m3 with m3
      subst m3
      rcases k4 with k4 | ⟨k4, k5⟩ | ⟨k4, k5⟩ <;> rcases m4 with m4 | ⟨m4, m5⟩ | ⟨m4, m5⟩
      · rw [← A.own g' g bl k2 hg k4 m4]; exact knows_gq k1
      · exact absurd m4 (A.ownS g' bl k2 k4)
      · exact absurd m4 (A.ownCh g' bl k2 k4)
      · exact absurd k4 (A.ownS g bl hg m4)
      · rw [k5, m5] at h3; simp at h3
      · exact absurd k4 (A.chS bl m4)
      · exact absurd k4 (A.ownCh g bl hg m4)
      · exact absurd m4 (A.chS bl k4)
      · rw [k5, m5] at h4; simp at h4
  · obtain ⟨x, hx, hxa⟩ := touch_of ha
    rcases getElem?_append_cases hx with ⟨_, hx'⟩ | ⟨_, hxu⟩
    · exact (h.zone i a (by rw [touchAt_of hx']; exact hxa) hm).imp (fun k g' hg' => (k g' hg').app u) fun ⟨g', k1, k2, k3⟩ => ⟨g', gq_app u k1, k2, k3⟩
    · exact .inr ⟨g, by rw [gq_of hx, (hu x hxu).by_], hg, (hu x hxu).may a hxa hm⟩
  · have := deaf_still (g := g') u.toList t fun op hop => ⟨(hu op (by simpa using hop)).dis, (hu op (by simpa using hop)).ena⟩
    have e : t ++ u.toList.toArray = t ++ u := by simp
    rw [e] at this
    rw [this]
    exact h.hears g' hg'
/-- What anybody does who touches nothing. -/
structure Still (N : Nat) (op : MemOp) : Prop where
  touch : op.act.touch? = none
  low : op.act.low N
  dis : op.act ≠ .mark .disable
  ena : op.act ≠ .mark .enable
theorem noRace_still {said : Bool} (h : ¬Race said t) (hu : ∀ op ∈ u, op.act.touch? = none) : ¬Race said (t ++ u) := by
  rintro ⟨i, j, hij, ⟨a, b, ha, hb, hc⟩, n1, n2⟩
  obtain ⟨x, hx, hxa⟩ := touch_of ha
  obtain ⟨y, hy, hyb⟩ := touch_of hb
  rcases getElem?_append_cases hy with ⟨hj, hy'⟩ | ⟨_, hyu⟩
  · have hi : i < t.size := Nat.lt_trans hij hj
    have hx' : t[i]? = some x := by rw [← getElem?_append_old (u := u) hi]; exact hx
    exact h ⟨i, j, hij, ⟨a, b, by simp [Trace.act?, hx', hxa], by simp [Trace.act?, hy', hyb], hc⟩, fun e => n1 (hb_app u e), fun e => n2 (hb_app u e)⟩
  · rw [hu y hyu] at hyb; cases hyb
theorem TB.still (h : TB Live Own S Ch N t) (hu : ∀ op ∈ u, Still N op) : TB Live Own S Ch N (t ++ u) := by
  refine ⟨fun said => noRace_still (h.clean said) fun op hop => (hu op hop).touch, fun i a ha hm => ?_, fun g hg => ?_, seen_app h.seen fun op hop => (hu op hop).low⟩
  · obtain ⟨x, hx, hxa⟩ := touch_of ha
    rcases getElem?_append_cases hx with ⟨_, hx'⟩ | ⟨_, hxu⟩
    · exact (h.zone i a (by rw [touchAt_of hx']; exact hxa) hm).imp (fun k g hg => (k g hg).app u) fun ⟨g, k1, k2, k3⟩ => ⟨g, gq_app u k1, k2, k3⟩
    · rw [(hu x hxu).touch] at hxa; cases hxa
  · have := deaf_still (g := g) u.toList t fun op hop => ⟨(hu op (by simpa using hop)).dis, (hu op (by simpa using hop)).ena⟩
    have e : t ++ u.toList.toArray = t ++ u := by simp
    rw [e] at this
    rw [this]
    exact h.hears g hg
/-- What one does who is not in the company and touches nothing. -/
theorem TB.mute (h : TB Live Own S Ch N t) {g : Nat} (hg : ¬Live g) (hu : ∀ op ∈ u, op.g = g ∧ op.act.touch? = none ∧ op.act.low N) : TB Live Own S Ch N (t ++ u) := by
  refine ⟨fun said => noRace_still (h.clean said) fun op hop => (hu op hop).2.1, fun i a ha hm => ?_, fun g' hg' => ?_, seen_app h.seen fun op hop => (hu op hop).2.2⟩
  · obtain ⟨x, hx, hxa⟩ := touch_of ha
    rcases getElem?_append_cases hx with ⟨_, hx'⟩ | ⟨_, hxu⟩
    · exact (h.zone i a (by rw [touchAt_of hx']; exact hxa) hm).imp (fun k g hg => (k g hg).app u) fun ⟨g, k1, k2, k3⟩ => ⟨g, gq_app u k1, k2, k3⟩
    · rw [(hu x hxu).2.1] at hxa; cases hxa
  · have hne : g ≠ g' := fun e => hg (e ▸ hg')
    rw [Deaf_other t hne u fun op hop => (hu op hop).1]
    exact h.hears g' hg'
theorem TB.fork (h : TB Live Own S Ch N t) {k : Nat} (h0 : Live 0) (hk : Deaf t k = 0) {x y : MemOp} (hx : x.g = 0 ∧ x.act = .go k) (hy : y.g = k ∧ y.act = .start) (hL : ∀ g, Live' g ↔ Live g ∨ g = k) : TB Live' Own S Ch N (t ++ #[x, y]) := by
  have hs : ∀ op ∈ #[x, y], Still N op := by
    intro op hop
    have : op = x ∨ op = y := by simpa using hop
    rcases this with rfl | rfl
    · exact ⟨by rw [hx.2]; rfl, by rw [hx.2]; trivial, by rw [hx.2]; simp, by rw [hx.2]; simp⟩
    · exact ⟨by rw [hy.2]; rfl, by rw [hy.2]; trivial, by rw [hy.2]; simp, by rw [hy.2]; simp⟩
  have h' := h.still hs
  refine ⟨h'.clean, fun i a ha hm => ?_, fun g hg => ?_, h'.seen⟩
  · obtain ⟨z, hz, hza⟩ := touch_of ha
    rcases getElem?_append_cases hz with ⟨_, hz'⟩ | ⟨_, hzu⟩
    · rcases h.zone i a (by rw [touchAt_of hz']; exact hza) hm with q | ⟨g, q1, q2, q3⟩
      · refine .inl fun g hg => ?_
        rcases (hL g).1 hg with hg | rfl
        · exact (q g hg).app _
        · exact Go.ConcN.fork_knows hx hy (h.hears 0 h0) hk (q 0 h0)
      · exact .inr ⟨g, gq_app _ q1, (hL g).2 (.inl q2), q3⟩
    · rw [(hs z hzu).touch] at hza; cases hza
  · rcases (hL g).1 hg with hg | rfl
    · exact h'.hears g hg
    · have := deaf_still (g := g) [x, y] t fun op hop => ⟨(hs op (by simpa using hop)).dis, (hs op (by simpa using hop)).ena⟩
      exact this.trans hk
theorem TB.ofPast (h : Past (fun _ => False) N t) : TB (· = 0) Own S Ch N t :=
  ⟨h.clean, fun i a ha hm => (h.known i a ha hm).elim (fun k => .inl fun g hg => by rw [hg]; exact k) fun k => k.1.elim, fun g hg => by rw [hg]; exact h.hears, h.seen⟩

/-- Goroutine k has closed c, and has touched nothing since. -/
structure ShutAt (k c : Nat) (t : Trace) (pc : Nat) : Prop where
  close : ∃ op, t[pc]? = some op ∧ op.g = k ∧ op.act = .close c
  heard : t.heard pc
  last : ∀ i op, t[i]? = some op → op.g = k → op.act.touch? ≠ none → i < pc
/-- Goroutine 0 knows all that k has touched. -/
def AllKnown (k : Nat) (t : Trace) : Prop := ∀ i a, touchAt t i = some a → t.g? i = some k → Knows t 0 i
theorem ShutAt.app {k c pc : Nat} (h : ShutAt k c t pc) (hu : ∀ op ∈ u, op.g = k → op.act.touch? = none) : ShutAt k c (t ++ u) pc := by
  obtain ⟨op, h1, h2, h3⟩ := h.close
  have hlt := lt_size_of_getElem? h1
  refine ⟨⟨op, by rw [getElem?_append_old hlt]; exact h1, h2, h3⟩, (heard_old hlt).2 h.heard, fun i z hz hg ht => ?_⟩
  rcases getElem?_append_cases hz with ⟨_, hz'⟩ | ⟨_, hzu⟩
  · exact h.last i z hz' hg ht
  · exact absurd (hu z hzu hg) ht
theorem AllKnown.app {k : Nat} (h : AllKnown k t) (hu : ∀ op ∈ u, op.g = k → op.act.touch? = none) : AllKnown k (t ++ u) := by
  intro i a ha hg
  obtain ⟨x, hx, hxa⟩ := touch_of ha
  have hxg : x.g = k := by rw [gq_of hx] at hg; injection hg
  rcases getElem?_append_cases hx with ⟨_, hx'⟩ | ⟨_, hxu⟩
  · exact (h i a (by rw [touchAt_of hx']; exact hxa) (by rw [gq_of hx', hxg])).app u
  · rw [hu x hxu hxg] at hxa; cases hxa
theorem ShutAt.new {k c : Nat} {y : MemOp} (hy : y.g = k ∧ y.act = .close c) (hd : Deaf t k = 0) : ShutAt k c (t ++ #[y]) t.size := by
  have hlast : (t ++ #[y])[t.size]? = some y := by rw [Array.getElem?_append_right (Nat.le_refl _)]; simp
  refine ⟨⟨y, hlast, hy.1, hy.2⟩, ⟨k, by rw [gq_of hlast, hy.1], by rw [deaf_old (Nat.le_refl _)]; exact hd⟩, fun i op hi hg ht => ?_⟩
  rcases getElem?_append_cases hi with ⟨hlt, _⟩ | ⟨_, hu⟩
  · exact hlt
  · have : op = y := by simpa using hu
    rw [this, hy.2] at ht
    exact absurd rfl ht
theorem ShutAt.known {k c pc : Nat} {y : MemOp} (h : ShutAt k c t pc) (hy : y.g = 0 ∧ y.act = .recvClosed c) (hd : Deaf t 0 = 0) : AllKnown k (t ++ #[y]) := by
  intro i a ha hg
  have hlast : (t ++ #[y])[t.size]? = some y := by rw [Array.getElem?_append_right (Nat.le_refl _)]; simp
  obtain ⟨op, h1, h2, h3⟩ := h.close
  have hlt := lt_size_of_getElem? h1
  have h1' : (t ++ #[y])[pc]? = some op := by rw [getElem?_append_old hlt]; exact h1
  have e2 : HappensBefore (t ++ #[y]) pc t.size := .single (.inr ⟨.closed (c := c) (by rw [act?_of h1', h3]) (by rw [act?_of hlast, hy.2]), (heard_old hlt).2 h.heard, ⟨0, by rw [gq_of hlast, hy.1], by rw [deaf_old (Nat.le_refl _)]; exact hd⟩⟩)
  obtain ⟨x, hx, hxa⟩ := touch_of ha
  have hxg : x.g = k := by rw [gq_of hx] at hg; injection hg
  rcases getElem?_append_cases hx with ⟨_, hx'⟩ | ⟨_, hxu⟩
  · have hi := h.last i x hx' hxg (by rw [hxa]; simp)
    exact ⟨t.size, y, hlast, hy.1, .inr ((hb_po hi hx h1' (by rw [hxg, h2])).trans e2)⟩
  · have : x = y := by simpa using hxu
    rw [this, hy.2] at hxa
    cases hxa
theorem TB.toPast (h : TB Live Own S Ch N t) (h0 : Live 0) (hk : ∀ g, Live g → g ≠ 0 → AllKnown g t) : Past (fun _ => False) N t := by
  have known : ∀ i a, touchAt t i = some a → a.loc.isMemory = true → Knows t 0 i := by
    intro i a ha hm
    rcases h.zone i a ha hm with q | ⟨g, q1, q2, _⟩
    · exact q 0 h0
    · by_cases hg : g = 0
      · rw [hg] at q1; exact knows_gq q1
      · exact hk g q2 hg i a ha q1
  refine ⟨h.clean, fun i a ha hm => .inl (known i a ha hm), fun i g hg hne hc => ?_, h.hears 0 h0, h.seen⟩
  obtain ⟨x, hx, hm, _⟩ := hc
  obtain ⟨q, z, k1, k2, k3⟩ := known i x hx hm
  refine ⟨q, by rw [gq_of k1, k2], ?_⟩
  rcases k3 with rfl | k3
  · rw [gq_of k1, k2] at hg; injection hg with hg; exact absurd hg.symm hne
  · exact k3
end
end Go.Proofs.Ytgeoffpcmkofkaa
/- Trees of goroutines that send on channels of their own, and of the one that starts them and receives. -/
namespace Go.Proofs.Ytgeoffpcmkofkaa
open Go Go.Conc

/-- One value of a function put in another's place. -/
def put {α : Type} (f : Nat → α) (g : Nat) (x : α) : Nat → α := fun i => if i = g then x else f i
theorem put_same {α : Type} (f : Nat → α) (g : Nat) (x : α) : put f g x g = x := if_pos rfl
theorem put_ne {α : Type} (f : Nat → α) {g i : Nat} (x : α) (h : i ≠ g) : put f g x i = f i := if_neg h

/-- What one lists: its own, what nobody writes, and marks. -/
def EvW (O S : Nat → Prop) (e : Event) : Prop :=
  (∃ a : Addr, e.loc = .cell a ∧ (O a.block ∨ (S a.block ∧ e.write = false))) ∨ (∃ m, e = ⟨.mark m, false, true⟩ ∧ (m = .noRoom ∨ ∃ f, m = .extern f)) ∨ (∃ r, e = ⟨.obj r, false, false⟩ ∧ O r)
theorem EvO.toW {O S : Nat → Prop} {e : Event} (h : EvO O S e) : EvW O S e := by
  rcases h with ⟨a, rfl, h⟩ | ⟨a, rfl, h⟩ | h | h
  · exact .inl ⟨a, rfl, h.imp id fun k => ⟨k, rfl⟩⟩
  · exact .inl ⟨a, rfl, .inl h⟩
  · exact .inr (.inl h)
  · exact .inr (.inr h)
/-- One that works, sends these values on c, closes it and leaves. -/
inductive KT (P : Program) (S : Nat → Prop) (c : Nat) : List Value → (Nat → Prop) → Goroutine → World → Prop
  | own {outs : List Value} {O : Nat → Prop} {g : Goroutine} {w : World} : g.status = .running →
      (∀ w2, Keeps O S w w2 → ∃ g1 w1 es, stepG P false g w2 = .go g1 w1 es ∧ DidO O w2 w1 ∧ ∀ e ∈ es, EvW (own O w2 w1) S e) →
      (∀ w2 g1 w1 es, Keeps O S w w2 → stepG P false g w2 = .go g1 w1 es → KT P S c outs (own O w2 w1) g1 w1) → KT P S c outs O g w
  | send {v z : Value} {outs : List Value} {O : Nat → Prop} {g : Goroutine} {w : World} : g.status = .running →
      (∀ w2, Keeps O S w w2 → stepG P false g w2 = .comm g #[scase c v z] true .send w2 #[]) → KT P S c outs O (Conc.served g undef) w → KT P S c (v :: outs) O g w
  | shut {O : Nat → Prop} {g g1 : Goroutine} {w : World} {n : Nat} : g.status = .running → mayWake P g = true →
      (∀ w2 cap s r tm, Keeps O S w w2 → w2.heap[c]? = some (.chan cap #[] false s r tm) → stepG P false g w2 = .go g1 { w2 with heap := w2.heap.setIfInBounds c (.chan cap #[] true s r tm) } #[⟨.obj c, false, true⟩, ⟨.obj c, true, true⟩]) → QuitsIn P n g1 → KT P S c [] O g w
theorem KT.running {P : Program} {S : Nat → Prop} {c : Nat} {outs : List Value} {O : Nat → Prop} {g : Goroutine} {w : World} (h : KT P S c outs O g w) : g.status = .running := by
  cases h <;> assumption
/-- One that starts such, and receives from each till it is closed. -/
inductive MB (P : Program) (S : Nat → Prop) (Fin : Goroutine → World → Prop) : (Nat → Option (List Value)) → Option Nat → (Nat → Prop) → Goroutine → World → Prop
  | own {E : Nat → Option (List Value)} {R : Option Nat} {O : Nat → Prop} {a : Goroutine} {w : World} : a.status = .running →
      (∀ w2, Keeps O S w w2 → ∃ a1 w1 es, stepG P true a w2 = .go a1 w1 es ∧ a1.status = .running ∧ DidO O w2 w1 ∧ ∀ e ∈ es, EvW (own O w2 w1) S e) →
      (∀ w2 a1 w1 es, Keeps O S w w2 → stepG P true a w2 = .go a1 w1 es → MB P S Fin E R (own O w2 w1) a1 w1) → MB P S Fin E R O a w
  | make {E : Nat → Option (List Value)} {O : Nat → Prop} {a : Goroutine} {w : World} {tm : Bool} : a.status = .running →
      (∀ w2, Keeps O S w w2 → ∃ a1, stepG P true a w2 = .go a1 { w2 with heap := w2.heap.push (.chan 0 #[] false 0 0 tm) } #[] ∧ a1.status = .running) →
      (∀ w2 a1 w1 es, Keeps O S w w2 → stepG P true a w2 = .go a1 w1 es → MB P S Fin E (some w2.heap.size) O a1 w1) → MB P S Fin E none O a w
  | spawn {E : Nat → Option (List Value)} {c : Nat} {outs : List Value} {O : Nat → Prop} {a a1 child : Goroutine} {w : World} : a.status = .running → a1.status = .running →
      (∀ w2, Keeps O S w w2 → stepG P true a w2 = .spawn a1 child w2 #[]) → (∀ w2, Keeps O S w w2 → KT P S c outs (fun _ => False) child w2) →
      MB P S Fin (put E c (some outs)) none O a1 w → MB P S Fin E (some c) O a w
  | recv {E : Nat → Option (List Value)} {R : Option Nat} {c : Nat} {v z : Value} {outs : List Value} {O : Nat → Prop} {a : Goroutine} {w : World} : a.status = .running →
      (∀ w2, Keeps O S w w2 → stepG P true a w2 = .comm a #[rcase c z] true (.recv true) w2 #[]) → E c = some (v :: outs) →
      MB P S Fin (put E c (some outs)) R O (Conc.served a (recvd true v true)) w → MB P S Fin E R O a w
  | last {E : Nat → Option (List Value)} {R : Option Nat} {c : Nat} {z : Value} {O : Nat → Prop} {a : Goroutine} {w : World} : a.status = .running →
      (∀ w2, Keeps O S w w2 → stepG P true a w2 = .comm a #[rcase c z] true (.recv true) w2 #[]) → E c = some [] →
      MB P S Fin (put E c none) R O (Conc.served a (recvd true z false)) w → MB P S Fin E R O a w
  | stop {E : Nat → Option (List Value)} {O : Nat → Prop} {a : Goroutine} {w : World} : (∀ c, E c = none) → (∀ w2, Keeps O S w w2 → Fin a w2) → MB P S Fin E none O a w

/-! ### Memory and trace, shared out -/
theorem Keeps.refl (O S : Nat → Prop) (w : World) : Keeps O S w w := ⟨Nat.le_refl _, fun _ _ => rfl, rfl, rfl⟩
theorem Keeps.trans {O S : Nat → Prop} {w w1 w2 : World} (h : Keeps O S w w1) (k : Keeps O S w1 w2) : Keeps O S w w2 := ⟨Nat.le_trans h.size k.size, fun r hr => (k.block r hr).trans (h.block r hr), k.os.trans h.os, k.output.trans h.output⟩
structure Reg (Live : Nat → Prop) (Own : Nat → Nat → Prop) (S Ch : Nat → Prop) (W : Nat → World) (w : World) (t : Trace) : Prop where
  lie : Lie Live Own S Ch
  low : ∀ g b, Live g → Own g b → b < w.heap.size
  sLow : ∀ b, S b → b < w.heap.size
  cLow : ∀ b, Ch b → b < w.heap.size
  keeps : ∀ g, Live g → Keeps (Own g) S (W g) w
  tb : TB Live Own S Ch w.heap.size t
section
variable {Live Live' : Nat → Prop} {Own : Nat → Nat → Prop} {S Ch Ch' : Nat → Prop} {W : Nat → World} {w w1 : World} {t : Trace}
theorem Reg.heap (h : Reg Live Own S Ch W w t) (e : w1.heap = w.heap) (eo : w1.os = w.os) (eu : w1.output = w.output) : Reg Live Own S Ch W w1 t := by
  refine ⟨h.lie, ?_, ?_, ?_, fun g hg => ⟨?_, fun r hr => ?_, eo.trans (h.keeps g hg).os, eu.trans (h.keeps g hg).output⟩, ?_⟩
  · rw [e]; exact h.low
  · rw [e]; exact h.sLow
  · rw [e]; exact h.cLow
  · rw [e]; exact (h.keeps g hg).size
  · rw [e]; exact (h.keeps g hg).block r hr
  · rw [e]; exact h.tb
theorem ok_of_evW {g : Nat} {N : Nat} {fn : FuncId} {pos : String} {e : Event} (h : EvW (Own g) S e) (hlow : ∀ b, Own g b → b < N) (hs : ∀ b, S b → b < N) : OkT Own S Ch N g { g, fn, pos, act := .ofEvent e } := by
  rcases h with ⟨a, ha, hb⟩ | ⟨m, rfl, hm⟩ | ⟨r, rfl, hb⟩
  · obtain ⟨loc, wr, sy⟩ := e
    simp only at ha hb
    subst ha
    refine ⟨rfl, fun x hx _ => ?_, ?_, by simp [MemAct.ofEvent], by simp [MemAct.ofEvent]⟩
    · simp only [MemAct.ofEvent, MemAct.touch?, Option.some.injEq] at hx
      subst hx
      exact ⟨a.block, rfl, hb.imp id .inl⟩
    · exact hb.elim (hlow _) fun k => hs _ k.1
  · rcases hm with rfl | ⟨f, rfl⟩
    · exact ⟨rfl, fun x hx _ => by simp [MemAct.ofEvent, MemAct.touch?] at hx, trivial, by simp [MemAct.ofEvent], by simp [MemAct.ofEvent]⟩
    · exact ⟨rfl, fun x hx _ => by simp [MemAct.ofEvent, MemAct.touch?] at hx, trivial, by simp [MemAct.ofEvent], by simp [MemAct.ofEvent]⟩
  · refine ⟨rfl, fun x hx _ => ?_, ?_, by simp [MemAct.ofEvent], by simp [MemAct.ofEvent]⟩
    · simp only [MemAct.ofEvent, MemAct.touch?, Option.some.injEq] at hx
      subst hx
      exact ⟨r, rfl, .inl hb⟩
    · exact hlow _ hb
/-- A step of one of them. -/
theorem Reg.step (h : Reg Live Own S Ch W w t) {g : Nat} (hg : Live g) (hd : DidO (Own g) w w1) {es : Array Event} (he : ∀ e ∈ es, EvW (own (Own g) w w1) S e) (fn : FuncId) (pos : String) :
    Reg Live (put Own g (own (Own g) w w1)) S Ch (put W g w1) w1 (t ++ MemOp.ofEvents g fn pos es) := by
  have hlow : ∀ g' b, Live g' → put Own g (own (Own g) w w1) g' b → b < w1.heap.size := by
    intro g' b hg' hb
    by_cases e : g' = g
    · subst e
      rw [put_same] at hb
      rcases hb with hb | hb
      · exact Nat.lt_of_lt_of_le (h.low g' b hg hb) hd.size
      · exact hb.2
    · rw [put_ne _ _ e] at hb
      exact Nat.lt_of_lt_of_le (h.low g' b hg' hb) hd.size
  have hsl : ∀ b, S b → b < w1.heap.size := fun b hb => Nat.lt_of_lt_of_le (h.sLow b hb) hd.size
  have hcl : ∀ b, Ch b → b < w1.heap.size := fun b hb => Nat.lt_of_lt_of_le (h.cLow b hb) hd.size
  have key : ∀ g' b, Live g' → g' ≠ g → Own g' b → ¬own (Own g) w w1 b := by
    intro g' b hg' hne hb hb'
    rcases hb' with hb' | hb'
    · exact hne (h.lie.own g' g b hg' hg hb hb')
    · exact absurd (h.low g' b hg' hb) (by omega)
  have lie : Lie Live (put Own g (own (Own g) w w1)) S Ch := by
    refine ⟨fun g1 g2 b l1 l2 o1 o2 => ?_, fun g1 b l1 o1 hs => ?_, fun g1 b l1 o1 hc => ?_, h.lie.chS⟩
    · by_cases e1 : g1 = g <;> by_cases e2 : g2 = g
      · rw [e1, e2]
      · rw [e1, put_same] at o1; rw [put_ne _ _ e2] at o2; exact absurd o1 (key g2 b l2 e2 o2)
      · rw [put_ne _ _ e1] at o1; rw [e2, put_same] at o2; exact absurd o2 (key g1 b l1 e1 o1)
      · rw [put_ne _ _ e1] at o1; rw [put_ne _ _ e2] at o2; exact h.lie.own g1 g2 b l1 l2 o1 o2
    · by_cases e1 : g1 = g
      · rw [e1, put_same] at o1
        rcases o1 with o1 | o1
        · exact h.lie.ownS g b hg o1 hs
        · exact absurd (h.sLow b hs) (by omega)
      · rw [put_ne _ _ e1] at o1; exact h.lie.ownS g1 b l1 o1 hs
    · by_cases e1 : g1 = g
      · rw [e1, put_same] at o1
        rcases o1 with o1 | o1
        · exact h.lie.ownCh g b hg o1 hc
        · exact absurd (h.cLow b hc) (by omega)
      · rw [put_ne _ _ e1] at o1; exact h.lie.ownCh g1 b l1 o1 hc
  refine ⟨lie, hlow, hsl, hcl, fun g' hg' => ?_, ?_⟩
  · by_cases e : g' = g
    · subst e
      rw [put_same, put_same]
      exact Keeps.refl _ _ _
    · rw [put_ne _ _ e, put_ne _ _ e]
      refine (h.keeps g' hg').trans ⟨hd.size, fun r hr => ?_, hd.os, hd.output⟩
      rcases hr with hr | hr
      · exact hd.kept r (h.low g' r hg' hr) fun hx => e (h.lie.own g' g r hg' hg hr hx)
      · exact hd.kept r (h.sLow r hr) fun hx => h.lie.ownS g r hg hx hr
  · refine TB.app lie (h.tb.mono (fun g' b _ hb => ?_) (fun _ hb => hb) hd.size) hg fun op hop => ?_
    · by_cases e : g' = g
      · subst e; rw [put_same]; exact .inl hb
      · rw [put_ne _ _ e]; exact hb
    · obtain ⟨e, he', rfl⟩ := Conc.mem_ofEvents hop
      refine ok_of_evW ?_ (fun b hb => hlow g b hg hb) hsl
      rw [put_same]
      exact he e he'
/-- A channel changes. -/
theorem Reg.chan (h : Reg Live Own S Ch W w t) {c : Nat} (hc : Ch c) {o : Obj} (e : w1.heap = w.heap.setIfInBounds c o) (eo : w1.os = w.os) (eu : w1.output = w.output) : Reg Live Own S Ch W w1 t := by
  have hsz : w1.heap.size = w.heap.size := by rw [e]; simp
  refine ⟨h.lie, ?_, ?_, ?_, fun g hg => ⟨?_, fun r hr => ?_, eo.trans (h.keeps g hg).os, eu.trans (h.keeps g hg).output⟩, ?_⟩
  · rw [hsz]; exact h.low
  · rw [hsz]; exact h.sLow
  · rw [hsz]; exact h.cLow
  · rw [hsz]; exact (h.keeps g hg).size
  · have hne : c ≠ r := by
      rintro rfl
      rcases hr with hr | hr
      · exact h.lie.ownCh g c hg hr hc
      · exact h.lie.chS c hc hr
    rw [e, Array.getElem?_setIfInBounds_ne hne]
    exact (h.keeps g hg).block r hr
  · rw [hsz]; exact h.tb
/-- Something is done that touches nothing. -/
theorem Reg.still (h : Reg Live Own S Ch W w t) {u : Trace} (hu : ∀ op ∈ u, Still w.heap.size op) : Reg Live Own S Ch W w (t ++ u) := ⟨h.lie, h.low, h.sLow, h.cLow, h.keeps, h.tb.still hu⟩
theorem Reg.mute (h : Reg Live Own S Ch W w t) {g : Nat} (hg : ¬Live g) {u : Trace} (hu : ∀ op ∈ u, op.g = g ∧ op.act.touch? = none ∧ op.act.low w.heap.size) : Reg Live Own S Ch W w (t ++ u) := ⟨h.lie, h.low, h.sLow, h.cLow, h.keeps, h.tb.mute hg hu⟩
/-- One more is started; a channel that is nobody's becomes a channel of the company. -/
theorem Reg.fork (h : Reg Live Own S Ch W w t) (h0 : Live 0) {k : Nat} (hk : ¬Live k) (hdeaf : Deaf t k = 0) {x y : MemOp} (hx : x.g = 0 ∧ x.act = .go k) (hy : y.g = k ∧ y.act = .start) (hL : ∀ g, Live' g ↔ Live g ∨ g = k)
    {c : Nat} (hC : ∀ b, Ch' b ↔ Ch b ∨ b = c) (hc : c < w.heap.size) (hco : ∀ g, Live g → ¬Own g c) (hcs : ¬S c) : Reg Live' (put Own k fun _ => False) S Ch' (put W k w) w (t ++ #[x, y]) := by
  have ow : ∀ g b, Live' g → put Own k (fun _ => False) g b → Live g ∧ Own g b := by
    intro g b hg hb
    by_cases e : g = k
    · rw [e, put_same] at hb; exact hb.elim
    · rw [put_ne _ _ e] at hb; exact ⟨((hL g).1 hg).resolve_right e, hb⟩
  refine ⟨⟨fun g g' b l1 l2 o1 o2 => ?_, fun g b l1 o1 => ?_, fun g b l1 o1 hb => ?_, fun b hb => ?_⟩, fun g b hg hb => ?_, h.sLow, fun b hb => ?_, fun g hg => ?_, ?_⟩
  · obtain ⟨a1, a2⟩ := ow g b l1 o1
    obtain ⟨b1, b2⟩ := ow g' b l2 o2
    exact h.lie.own g g' b a1 b1 a2 b2
  · obtain ⟨a1, a2⟩ := ow g b l1 o1
    exact h.lie.ownS g b a1 a2
  · obtain ⟨a1, a2⟩ := ow g b l1 o1
    rcases (hC b).1 hb with hb | rfl
    · exact h.lie.ownCh g b a1 a2 hb
    · exact hco g a1 a2
  · rcases (hC b).1 hb with hb | rfl
    · exact h.lie.chS b hb
    · exact hcs
  · obtain ⟨a1, a2⟩ := ow g b hg hb
    exact h.low g b a1 a2
  · rcases (hC b).1 hb with hb | rfl
    · exact h.cLow b hb
    · exact hc
  · by_cases e : g = k
    · rw [e, put_same, put_same]; exact Keeps.refl _ _ _
    · rw [put_ne _ _ e, put_ne _ _ e]; exact h.keeps g (((hL g).1 hg).resolve_right e)
  · refine TB.fork (h.tb.mono (fun g b hg hb => ?_) (fun b hb => (hC b).2 (.inl hb)) (Nat.le_refl _)) h0 hdeaf hx hy hL
    have hne : g ≠ k := fun e => hk (by rw [← e]; exact hg)
    rw [put_ne _ _ hne]
    exact hb
/-- A new block that is nobody's. -/
theorem Reg.new (h : Reg Live Own S Ch W w t) {o : Obj} (e : w1.heap = w.heap.push o) (eo : w1.os = w.os) (eu : w1.output = w.output) : Reg Live Own S Ch W w1 t := by
  have hsz : w.heap.size ≤ w1.heap.size := by rw [e]; simp
  refine ⟨h.lie, fun g b hg hb => Nat.lt_of_lt_of_le (h.low g b hg hb) hsz, fun b hb => Nat.lt_of_lt_of_le (h.sLow b hb) hsz, fun b hb => Nat.lt_of_lt_of_le (h.cLow b hb) hsz, fun g hg => (h.keeps g hg).trans ⟨hsz, fun r hr => ?_, eo, eu⟩, h.tb.mono (fun _ _ _ hb => hb) (fun _ hb => hb) hsz⟩
  have hr : r < w.heap.size := hr.elim (h.low g r hg) (h.sLow r)
  rw [e, Array.getElem?_push_lt hr]
  simp [hr]
/-- Who goes on as from now. -/
theorem Reg.now (h : Reg Live Own S Ch W w t) (g : Nat) : Reg Live Own S Ch (put W g w) w t := by
  refine ⟨h.lie, h.low, h.sLow, h.cLow, fun g' hg' => ?_, h.tb⟩
  by_cases e : g' = g
  · rw [e, put_same]; exact Keeps.refl _ _ _
  · rw [put_ne _ _ e]; exact h.keeps g' hg'
end
end Go.Proofs.Ytgeoffpcmkofkaa
/- Goroutines that send on channels of their own, one that receives: what the machine holds between two steps. -/
namespace Go.Proofs.Ytgeoffpcmkofkaa
open Go Go.Conc

structure Kid where
  c : Nat
  outs : List Value
  own : Nat → Prop
  g : Goroutine
  w : World
  m : Nat
/-- The first is further on than the second. -/
def KLt (P : Program) (S : Nat → Prop) (y x : Kid) : Prop := x.m = 2 ∧ (y.m < 2 ∨ (y.m = 2 ∧ y.c = x.c ∧ y.outs = x.outs ∧ ∃ w2 es cap s r tm, w2.heap[x.c]? = some (.chan cap #[] false s r tm) ∧ Keeps x.own S x.w w2 ∧ stepG P false x.g w2 = .go y.g y.w es ∧ (∀ e ∈ es, EvW (Ytgeoffpcmkofkaa.own x.own w2 y.w) S e) ∧ y.own = Ytgeoffpcmkofkaa.own x.own w2 y.w))
section
variable {P : Program} {S : Nat → Prop}
theorem kid_acc2 {c : Nat} {outs : List Value} {O : Nat → Prop} {g : Goroutine} {w : World} (h : KT P S c outs O g w) : Acc (KLt P S) ⟨c, outs, O, g, w, 2⟩ := by
  have done : ∀ y : Kid, y.m < 2 → Acc (KLt P S) y := fun y hy => .intro y fun z hz => absurd hz.1 (by omega)
  induction h with
  | own hr h1 h2 ih =>
    refine .intro _ fun y hy => ?_
    obtain ⟨_, hy | ⟨e1, e2, e3, w2, es, cap, s, r, tm, k1, k2, k3, k4, k5⟩⟩ := hy
    · exact done y hy
    · obtain ⟨yc, yo, yw, yg, yW, ym⟩ := y
      simp only at e1 e2 e3 k1 k2 k3 k4 k5
      subst e1 e2 e3 k5
      exact ih w2 yg yW es k2 k3
  | send hr h1 h2 ih =>
    refine .intro _ fun y hy => ?_
    obtain ⟨_, hy | ⟨e1, e2, e3, w2, es, cap, s, r, tm, k1, k2, k3, k4, k5⟩⟩ := hy
    · exact done y hy
    · rw [h1 w2 k2] at k3
      cases k3
  | shut hr _ h1 h2 =>
    refine .intro _ fun y hy => ?_
    obtain ⟨_, hy | ⟨e1, e2, e3, w2, es, cap, s, r, tm, k1, k2, k3, k4, k5⟩⟩ := hy
    · exact done y hy
    · rw [h1 w2 cap s r tm k2 k1] at k3
      injection k3 with _ _ k3
      subst k3
      have := k4 ⟨.obj c, true, true⟩ (by simp)
      rcases this with ⟨a, e, _⟩ | ⟨m, e, _⟩ | ⟨r, e, _⟩ <;> simp at e
theorem kid_acc (x : Kid) (h : x.m = 2 → KT P S x.c x.outs x.own x.g x.w) : Acc (KLt P S) x := by
  by_cases hm : x.m = 2
  · have := kid_acc2 (h hm)
    obtain ⟨c, o, w, g, W, m⟩ := x
    simp only at hm this
    rw [hm]
    exact this
  · exact .intro x fun z hz => absurd hz.1 hm
end

def LiveG (n0 n g : Nat) : Prop := g = 0 ∨ (n0 ≤ g ∧ g < n)
def Chs (kids : List Kid) (b : Nat) : Prop := ∃ (j : Nat) (x : Kid), kids[j]? = some x ∧ x.c = b
/-- An open channel without room. -/
def OpenC (w : World) (c : Nat) : Prop := ∃ s r tm, w.heap[c]? = some (.chan 0 #[] false s r tm)
def ShutC (w : World) (c : Nat) : Prop := ∃ s r tm, w.heap[c]? = some (.chan 0 #[] true s r tm)
def RecvAt (P : Program) (S O : Nat → Prop) (a : Goroutine) (w0 : World) (c : Nat) (z : Value) : Prop := ∀ w2, Keeps O S w0 w2 → stepG P true a w2 = .comm a #[rcase c z] true (.recv true) w2 #[]
/-- One that was started: how it stands. -/
inductive KI (P : Program) (S : Nat → Prop) (n0 : Nat) (E : Nat → Option (List Value)) (q : Nat → Nat) (gs : Array Goroutine) (w : World) (t : Trace) (j : Nat) (x : Kid) : Prop
  | live : x.m = 2 → gs[n0 + j]? = some x.g → KT P S x.c x.outs x.own x.g x.w → OpenC w x.c → E x.c = some x.outs → KI P S n0 E q gs w t j x
  | sits (v z : Value) (outs : List Value) : x.m = 1 → gs[n0 + j]? = some (parked x.g #[scase x.c v z] .send) → x.outs = v :: outs → KT P S x.c outs x.own (Conc.served x.g undef) x.w → OpenC w x.c → E x.c = some x.outs → KI P S n0 E q gs w t j x
  | gone (g : Goroutine) : x.m = 0 → gs[n0 + j]? = some g → QuitsIn P (q (n0 + j)) g → ((E x.c = some [] ∧ ShutC w x.c ∧ ∃ pc, ShutAt (n0 + j) x.c t pc) ∨ (E x.c = none ∧ AllKnown (n0 + j) t)) → KI P S n0 E q gs w t j x
structure CI (P : Program) (S : Nat → Prop) (n0 : Nat) (E : Nat → Option (List Value)) (R : Option Nat) (O : Nat → Prop) (a : Goroutine) (w0 : World) (kids : List Kid) (q : Nat → Nat) (gs : Array Goroutine) (w : World) (t : Trace) (Own : Nat → Nat → Prop) (W : Nat → World) (b : Bool) : Prop where
  pos : 0 < n0
  size : gs.size = n0 + kids.length
  old : ∀ i g, 0 < i → i < n0 → gs[i]? = some g → QuitsD P (q i) (Deaf t i) g
  above : ∀ j, gs.size ≤ j → Deaf t j = 0
  main : (b = true ∧ ∃ off, gs[0]? = some { a with status := .running, offers := off }) ∨ (b = false ∧ ∃ c z, gs[0]? = some (parked a #[rcase c z] (.recv true)) ∧ RecvAt P S O a w0 c z ∧ ∃ (j : Nat) (x : Kid), kids[j]? = some x ∧ x.c = c ∧ x.m = 2)
  own0 : Own 0 = O
  w0 : W 0 = w0
  kid : ∀ (j : Nat) (x : Kid), kids[j]? = some x → KI P S n0 E q gs w t j x
  kown : ∀ (j : Nat) (x : Kid), kids[j]? = some x → Own (n0 + j) = x.own ∧ (1 ≤ x.m → W (n0 + j) = x.w)
  ch : ∀ (i j : Nat) (x y : Kid), kids[i]? = some x → kids[j]? = some y → x.c = y.c → i = j
  res : ∀ c, R = some c → (∃ tm, w.heap[c]? = some (.chan 0 #[] false 0 0 tm)) ∧ ¬S c ∧ (∀ g, LiveG n0 gs.size g → ¬Own g c) ∧ ¬Chs kids c
  exp : ∀ c o, E c = some o → Chs kids c
  reg : Reg (LiveG n0 gs.size) Own S (Chs kids) W w t
section
variable {P : Program} {S : Nat → Prop} {n0 : Nat} {E E' : Nat → Option (List Value)} {R : Option Nat} {O : Nat → Prop} {a : Goroutine} {w0 : World} {kids : List Kid} {q q' : Nat → Nat} {gs gs' : Array Goroutine} {w w1 : World} {t u : Trace} {Own : Nat → Nat → Prop} {W : Nat → World} {b : Bool}
theorem KI.keep {j : Nat} {x : Kid} (h : KI P S n0 E q gs w t j x) (h1 : gs'[n0 + j]? = gs[n0 + j]?) (h2 : w1.heap[x.c]? = w.heap[x.c]?) (h3 : E' x.c = E x.c) (h4 : q' (n0 + j) = q (n0 + j)) (h5 : ∀ op ∈ u, op.g = n0 + j → op.act.touch? = none) : KI P S n0 E' q' gs' w1 (t ++ u) j x := by
  have op : OpenC w x.c → OpenC w1 x.c := fun ⟨s, r, tm, k⟩ => ⟨s, r, tm, by rw [h2]; exact k⟩
  have sh : ShutC w x.c → ShutC w1 x.c := fun ⟨s, r, tm, k⟩ => ⟨s, r, tm, by rw [h2]; exact k⟩
  cases h with
  | live k1 k2 k3 k4 k5 => exact .live k1 (by rw [h1]; exact k2) k3 (op k4) (by rw [h3]; exact k5)
  | sits v z outs k1 k2 k3 k4 k5 k6 => exact .sits v z outs k1 (by rw [h1]; exact k2) k3 k4 (op k5) (by rw [h3]; exact k6)
  | gone g k1 k2 k3 k4 =>
    refine .gone g k1 (by rw [h1]; exact k2) (by rw [h4]; exact k3) ?_
    rcases k4 with ⟨m1, m2, pc, m3⟩ | ⟨m1, m2⟩
    · exact .inl ⟨by rw [h3]; exact m1, sh m2, pc, m3.app h5⟩
    · exact .inr ⟨by rw [h3]; exact m1, m2.app h5⟩
theorem KI.openC {j : Nat} {x : Kid} (h : KI P S n0 E q gs w t j x) (hm : 1 ≤ x.m) : OpenC w x.c := by
  cases h with
  | live _ _ _ k _ => exact k
  | sits _ _ _ _ _ _ _ k _ => exact k
  | gone _ k => omega
theorem KI.exp {j : Nat} {x : Kid} (h : KI P S n0 E q gs w t j x) (hm : 1 ≤ x.m) : E x.c = some x.outs := by
  cases h with
  | live _ _ _ _ k => exact k
  | sits _ _ _ _ _ _ _ _ k => exact k
  | gone _ k => omega
theorem CI.heap (h : CI P S n0 E R O a w0 kids q gs w t Own W b) (e : w1.heap = w.heap) (eo : w1.os = w.os) (eu : w1.output = w.output) : CI P S n0 E R O a w0 kids q gs w1 t Own W b :=
  { h with
    kid := fun j x hx => by
      have := (h.kid j x hx).keep (gs' := gs) (w1 := w1) (E' := E) (q' := q) (u := #[]) rfl (by rw [e]) rfl rfl (by simp)
      simpa using this
    res := fun c hc => by rw [e]; exact h.res c hc
    reg := h.reg.heap e eo eu }
theorem CI.liveK (h : CI P S n0 E R O a w0 kids q gs w t Own W b) {j : Nat} {x : Kid} (hx : kids[j]? = some x) : LiveG n0 gs.size (n0 + j) := by
  have : j < kids.length := (List.getElem?_eq_some_iff.1 hx).1
  exact .inr ⟨by omega, by rw [h.size]; omega⟩
theorem CI.lowC (h : CI P S n0 E R O a w0 kids q gs w t Own W b) {j : Nat} {x : Kid} (hx : kids[j]? = some x) : x.c < w.heap.size := h.reg.cLow x.c ⟨j, x, hx, rfl⟩
/-- Who can wake by a step that leaves open channels open? Nobody. -/
theorem CI.woken (h : CI P S n0 E R O a w0 kids q gs w t Own W b) (ho : ∀ (j : Nat) (x : Kid), kids[j]? = some x → 1 ≤ x.m → OpenC w1 x.c) (g g' : Goroutine) : ∀ (i : Nat) (x : Goroutine), gs[i]? = some x → Conc.woken P g g' w1 x = x := by
  intro i x hx
  have hlt : i < gs.size := (Array.getElem?_eq_some_iff.1 hx).1
  rcases Nat.eq_zero_or_pos i with rfl | hpos
  · rcases h.main with ⟨_, off, hm⟩ | ⟨_, c, z, hm, _, j, y, hy, hc, hm2⟩
    · rw [hm] at hx; injection hx with hx; subst hx; exact woken_run rfl
    · rw [hm] at hx; injection hx with hx; subst hx
      obtain ⟨s, r, tm, k⟩ := ho j y hy (by omega)
      rw [hc] at k
      exact woken_recv_open _ _ k
  · by_cases hn : i < n0
    · exact woken_quitsD (h.old i x hpos hn hx)
    · obtain ⟨j, rfl⟩ : ∃ j, i = n0 + j := ⟨i - n0, by omega⟩
      have hj : j < kids.length := by rw [h.size] at hlt; omega
      have hk := h.kid j kids[j] (List.getElem?_eq_getElem hj)
      cases hk with
      | live k1 k2 k3 k4 k5 => rw [k2] at hx; injection hx with hx; subst hx; exact woken_run k3.running
      | sits v z outs k1 k2 k3 k4 k5 k6 =>
        rw [k2] at hx; injection hx with hx; subst hx
        obtain ⟨s, r, tm, k⟩ := ho j _ (List.getElem?_eq_getElem hj) (by omega)
        exact woken_send_open _ _ k
      | gone g k1 k2 k3 k4 => rw [k2] at hx; injection hx with hx; subst hx; exact woken_quits k3
theorem set_get (gs : Array Goroutine) (f : Goroutine → Goroutine) (k : Nat) (g : Goroutine) (hf : ∀ (i : Nat) (x : Goroutine), i ≠ k → gs[i]? = some x → f x = x) : ∀ i, i ≠ k → ((gs.map f).setIfInBounds k g)[i]? = gs[i]? := by
  intro i hi
  rw [Array.getElem?_setIfInBounds_ne (Ne.symm hi), Array.getElem?_map]
  cases hx : gs[i]? with
  | none => rfl
  | some x => rw [Option.map_some, hf i x hi hx]
theorem set_at (gs : Array Goroutine) (f : Goroutine → Goroutine) {k : Nat} (g : Goroutine) (hk : k < gs.size) : ((gs.map f).setIfInBounds k g)[k]? = some g := by simp [hk]
theorem CI.awake (h : CI P S n0 E R O a w0 kids q gs w t Own W b) : ∀ g ∈ gs, Conc.awake g := by
  intro g hg
  obtain ⟨i, hi, rfl⟩ := Array.mem_iff_getElem.1 hg
  have hx := Array.getElem?_eq_getElem hi
  rcases Nat.eq_zero_or_pos i with rfl | hpos
  · rcases h.main with ⟨_, off, hm⟩ | ⟨_, c, z, hm, _⟩
    · rw [hm] at hx; injection hx with hx; rw [← hx]; exact awake_of (.inl rfl)
    · rw [hm] at hx; injection hx with hx; rw [← hx]; exact awake_of (.inr (.inl rfl))
  · by_cases hn : i < n0
    · exact awake_of ((h.old i _ hpos hn hx).status.elim .inl fun x => .inr (.inr x))
    · obtain ⟨j, rfl⟩ : ∃ j, i = n0 + j := ⟨i - n0, by omega⟩
      have hj : j < kids.length := by rw [h.size] at hi; omega
      have hk := h.kid j kids[j] (List.getElem?_eq_getElem hj)
      cases hk with
      | live k1 k2 k3 k4 k5 => rw [k2] at hx; injection hx with hx; rw [← hx]; exact awake_of (.inl k3.running)
      | sits v z outs k1 k2 k3 k4 k5 k6 => rw [k2] at hx; injection hx with hx; rw [← hx]; exact awake_of (.inr (.inl rfl))
      | gone g k1 k2 k3 k4 => rw [k2] at hx; injection hx with hx; rw [← hx]; exact awake_of (k3.status.elim .inl fun x => .inr (.inr x))
theorem CI.some1 (h : CI P S n0 E R O a w0 kids q gs w t Own W b) : ∃ (i : Nat) (g : Goroutine), gs[i]? = some g ∧ g.status = .running := by
  rcases h.main with ⟨_, off, hm⟩ | ⟨_, c, z, hm, _, j, x, hx, _, hm2⟩
  · exact ⟨0, _, hm, rfl⟩
  · have hk := h.kid j x hx
    cases hk with
    | live k1 k2 k3 k4 k5 => exact ⟨_, _, k2, k3.running⟩
    | sits v z outs k1 => omega
    | gone g k1 => omega
/-- Who offers to send on a channel? Only one that sits there. -/
theorem CI.noSend (h : CI P S n0 E R O a w0 kids q gs w t Own W b) {c : Nat} (hc : ∀ (j : Nat) (x : Kid), kids[j]? = some x → x.c = c → x.m ≠ 1) : ∀ (i : Nat) (x : Goroutine), gs[i]? = some x → offersAt x c true = [] := by
  intro i x hx
  have hlt : i < gs.size := (Array.getElem?_eq_some_iff.1 hx).1
  rcases Nat.eq_zero_or_pos i with rfl | hpos
  · rcases h.main with ⟨_, off, hm⟩ | ⟨_, c, z, hm, _⟩
    · rw [hm] at hx; injection hx with hx; rw [← hx]; exact offersAt_of_not_blocked (by simp) _ _
    · rw [hm] at hx; injection hx with hx; rw [← hx]; exact offersAt_parked_recv' _ _ _ _ _
  · by_cases hn : i < n0
    · exact offersAt_of_not_blocked (by rcases (h.old i x hpos hn hx).status with e | e <;> rw [e] <;> simp) _ _
    · obtain ⟨j, rfl⟩ : ∃ j, i = n0 + j := ⟨i - n0, by omega⟩
      have hj : j < kids.length := by rw [h.size] at hlt; omega
      have hg := List.getElem?_eq_getElem hj
      have hk := h.kid j kids[j] hg
      cases hk with
      | live k1 k2 k3 k4 k5 => rw [k2] at hx; injection hx with hx; rw [← hx]; exact offersAt_of_not_blocked (by rw [k3.running]; simp) _ _
      | sits v z outs k1 k2 k3 k4 k5 k6 =>
        rw [k2] at hx; injection hx with hx; rw [← hx, offersAt_parked_send]
        rw [if_neg]
        intro e
        exact hc j _ hg e k1
      | gone g k1 k2 k3 k4 => rw [k2] at hx; injection hx with hx; rw [← hx]; exact offersAt_of_not_blocked (by rcases k3.status with e | e <;> rw [e] <;> simp) _ _
/-- Who offers to receive? Only the main one, where it waits. -/
theorem CI.noRecv (h : CI P S n0 E R O a w0 kids q gs w t Own W b) {c : Nat} (hc : ∀ z, gs[0]? ≠ some (parked a #[rcase c z] (.recv true))) : ∀ (i : Nat) (x : Goroutine), gs[i]? = some x → offersAt x c false = [] := by
  intro i x hx
  have hlt : i < gs.size := (Array.getElem?_eq_some_iff.1 hx).1
  rcases Nat.eq_zero_or_pos i with rfl | hpos
  · rcases h.main with ⟨_, off, hm⟩ | ⟨_, c', z, hm, _⟩
    · rw [hm] at hx; injection hx with hx; rw [← hx]; exact offersAt_of_not_blocked (by simp) _ _
    · have := hx
      rw [hm] at hx; injection hx with hx; rw [← hx, offersAt_parked_recv]
      rw [if_neg]
      rintro rfl
      exact hc z hm
  · by_cases hn : i < n0
    · exact offersAt_of_not_blocked (by rcases (h.old i x hpos hn hx).status with e | e <;> rw [e] <;> simp) _ _
    · obtain ⟨j, rfl⟩ : ∃ j, i = n0 + j := ⟨i - n0, by omega⟩
      have hj : j < kids.length := by rw [h.size] at hlt; omega
      have hg := List.getElem?_eq_getElem hj
      have hk := h.kid j kids[j] hg
      cases hk with
      | live k1 k2 k3 k4 k5 => rw [k2] at hx; injection hx with hx; rw [← hx]; exact offersAt_of_not_blocked (by rw [k3.running]; simp) _ _
      | sits v z outs k1 k2 k3 k4 k5 k6 => rw [k2] at hx; injection hx with hx; rw [← hx]; exact offersAt_parked_send' _ _ _ _ _ _
      | gone g k1 k2 k3 k4 => rw [k2] at hx; injection hx with hx; rw [← hx]; exact offersAt_of_not_blocked (by rcases k3.status with e | e <;> rw [e] <;> simp) _ _
theorem stand_nil {c : Nat} {snd : Bool} {i : Nat} (h : ∀ (k : Nat) (x : Goroutine), k ≠ i → gs[k]? = some x → offersAt x c snd = []) : partners (gs.setIfInBounds i ph) c snd = [] := by
  refine partners_nil fun k x hx => ?_
  rcases getElem?_stand gs i k x hx with ⟨_, rfl⟩ | ⟨hk, hx⟩
  · exact offersAt_ph _ _
  · exact h k x hk hx
theorem deaf_same {g : Nat} (hu : ∀ op ∈ u, op.act ≠ .mark .disable ∧ op.act ≠ .mark .enable) : Deaf (t ++ u) g = Deaf t g := by
  have := deaf_still (g := g) u.toList t fun op hop => hu op (by simpa using hop)
  have e : t ++ u.toList.toArray = t ++ u := by simp
  rwa [e] at this
theorem evW_calm {O S : Nat → Prop} {e : Event} (h : EvW O S e) : MemAct.ofEvent e ≠ .mark .disable ∧ MemAct.ofEvent e ≠ .mark .enable := by
  rcases h with ⟨a, ha, _⟩ | ⟨m, rfl, hm⟩ | ⟨r, rfl, _⟩
  · obtain ⟨loc, wr, sy⟩ := e
    simp only at ha
    subst ha
    simp [MemAct.ofEvent]
  · rcases hm with rfl | ⟨f, rfl⟩ <;> simp [MemAct.ofEvent]
  · simp [MemAct.ofEvent]
end
end Go.Proofs.Ytgeoffpcmkofkaa
/- What a step changes, and what it leaves. -/
namespace Go.Proofs.Ytgeoffpcmkofkaa
open Go Go.Conc

section
variable {P : Program} {S : Nat → Prop} {n0 : Nat} {E E' : Nat → Option (List Value)} {R R' : Option Nat} {O O' : Nat → Prop} {a a' : Goroutine} {w0 w0' : World} {kids : List Kid} {q q' : Nat → Nat} {gs gs' : Array Goroutine} {w w1 : World} {t u : Trace} {Own Own' : Nat → Nat → Prop} {W W' : Nat → World} {b b' : Bool}
theorem chs_set {j : Nat} {x y : Kid} (hx : kids[j]? = some x) (hc : y.c = x.c) : Chs (kids.set j y) = Chs kids := by
  have hj : j < kids.length := (List.getElem?_eq_some_iff.1 hx).1
  funext b
  refine propext ⟨fun ⟨i, z, hz, hb⟩ => ?_, fun ⟨i, z, hz, hb⟩ => ?_⟩
  · by_cases e : j = i
    · subst e
      rw [List.getElem?_set_self hj] at hz
      injection hz with hz
      subst hz
      exact ⟨j, x, hx, by rw [← hc]; exact hb⟩
    · rw [List.getElem?_set_ne e] at hz
      exact ⟨i, z, hz, hb⟩
  · by_cases e : j = i
    · subst e
      rw [hx] at hz
      injection hz with hz
      subst hz
      exact ⟨j, y, List.getElem?_set_self hj, by rw [hc]; exact hb⟩
    · exact ⟨i, z, by rw [List.getElem?_set_ne e]; exact hz, hb⟩
theorem CI.to (h : CI P S n0 E R O a w0 kids q gs w t Own W b) {j : Nat} {x y : Kid} (hx : kids[j]? = some x) (hc : y.c = x.c) (hsz : gs'.size = gs.size) (hgs : ∀ i, i ≠ 0 → i ≠ n0 + j → gs'[i]? = gs[i]?)
    (hheap : ∀ (i : Nat) (z : Kid), kids[i]? = some z → i ≠ j → w1.heap[z.c]? = w.heap[z.c]?) (hu : ∀ op ∈ u, (op.g = 0 ∨ op.g = n0 + j) ∧ op.act ≠ .mark .disable ∧ op.act ≠ .mark .enable) (hq : ∀ i, i ≠ n0 + j → q' i = q i)
    (hE : ∀ (i : Nat) (z : Kid), kids[i]? = some z → i ≠ j → E' z.c = E z.c) (hexp : ∀ c o, E' c = some o → Chs kids c)
    (hmain : (b' = true ∧ ∃ off, gs'[0]? = some { a' with status := .running, offers := off }) ∨ (b' = false ∧ ∃ c z, gs'[0]? = some (parked a' #[rcase c z] (.recv true)) ∧ RecvAt P S O' a' w0' c z ∧ ∃ (i : Nat) (k : Kid), (kids.set j y)[i]? = some k ∧ k.c = c ∧ k.m = 2))
    (hown : Own' 0 = O') (hw0 : W' 0 = w0') (hy : KI P S n0 E' q' gs' w1 (t ++ u) j y) (hk : Own' (n0 + j) = y.own ∧ (1 ≤ y.m → W' (n0 + j) = y.w)) (hO : ∀ i, i ≠ 0 → i ≠ n0 + j → Own' i = Own i ∧ W' i = W i)
    (hres : ∀ c, R' = some c → (∃ tm, w1.heap[c]? = some (.chan 0 #[] false 0 0 tm)) ∧ ¬S c ∧ (∀ g, LiveG n0 gs.size g → ¬Own' g c) ∧ ¬Chs kids c)
    (hreg : Reg (LiveG n0 gs.size) Own' S (Chs kids) W' w1 (t ++ u)) : CI P S n0 E' R' O' a' w0' (kids.set j y) q' gs' w1 (t ++ u) Own' W' b' := by
  have hj : j < kids.length := (List.getElem?_eq_some_iff.1 hx).1
  have hchs := chs_set hx hc
  have hdeaf : ∀ g, Deaf (t ++ u) g = Deaf t g := fun g => deaf_same fun op hop => (hu op hop).2
  have hpos := h.pos
  refine ⟨h.pos, by rw [hsz, h.size]; simp, fun i g h1 h2 hg => ?_, fun i hi => ?_, hmain, hown, hw0, fun i z hz => ?_, fun i z hz => ?_, fun i k x1 y1 h1 h2 he => ?_, fun c hr => ?_, fun c o hc => ?_, ?_⟩
  · rw [hdeaf, hq i (by omega)]
    exact h.old i g h1 h2 (by rw [← hgs i (by omega) (by omega)]; exact hg)
  · rw [hdeaf]; exact h.above i (by rw [← hsz]; exact hi)
  · by_cases e : j = i
    · subst e
      rw [List.getElem?_set_self hj] at hz
      injection hz with hz
      subst hz
      exact hy
    · rw [List.getElem?_set_ne e] at hz
      refine (h.kid i z hz).keep (hgs _ (by omega) (by omega)) (hheap i z hz (Ne.symm e)) (hE i z hz (Ne.symm e)) (hq _ (by omega)) fun op hop hg => ?_
      rcases (hu op hop).1 with e1 | e1 <;> omega
  · by_cases e : j = i
    · subst e
      rw [List.getElem?_set_self hj] at hz
      injection hz with hz
      subst hz
      exact hk
    · rw [List.getElem?_set_ne e] at hz
      obtain ⟨k1, k2⟩ := hO (n0 + i) (by omega) (by omega)
      rw [k1, k2]
      exact h.kown i z hz
  · have key : ∀ (i : Nat) (z : Kid), (kids.set j y)[i]? = some z → ∃ z', kids[i]? = some z' ∧ z'.c = z.c := by
      intro i z hz
      by_cases e : j = i
      · subst e
        rw [List.getElem?_set_self hj] at hz
        injection hz with hz
        subst hz
        exact ⟨x, hx, hc.symm⟩
      · rw [List.getElem?_set_ne e] at hz
        exact ⟨z, hz, rfl⟩
    obtain ⟨x', p1, p2⟩ := key i x1 h1
    obtain ⟨y', p3, p4⟩ := key k y1 h2
    exact h.ch i k x' y' p1 p3 (by rw [p2, p4]; exact he)
  · rw [hsz, hchs]; exact hres c hr
  · rw [hchs]; exact hexp c o hc
  · rw [hsz, hchs]; exact hreg
theorem CI.mainTo (h : CI P S n0 E R O a w0 kids q gs w t Own W b) (hsz : gs'.size = gs.size) (hgs : ∀ i, i ≠ 0 → gs'[i]? = gs[i]?)
    (hheap : ∀ (i : Nat) (z : Kid), kids[i]? = some z → w1.heap[z.c]? = w.heap[z.c]?) (hu : ∀ op ∈ u, op.g = 0 ∧ op.act ≠ .mark .disable ∧ op.act ≠ .mark .enable)
    (hmain : (b' = true ∧ ∃ off, gs'[0]? = some { a' with status := .running, offers := off }) ∨ (b' = false ∧ ∃ c z, gs'[0]? = some (parked a' #[rcase c z] (.recv true)) ∧ RecvAt P S O' a' w0' c z ∧ ∃ (i : Nat) (k : Kid), kids[i]? = some k ∧ k.c = c ∧ k.m = 2))
    (hown : Own' 0 = O') (hw0 : W' 0 = w0') (hO : ∀ i, i ≠ 0 → Own' i = Own i ∧ W' i = W i)
    (hres : ∀ c, R' = some c → (∃ tm, w1.heap[c]? = some (.chan 0 #[] false 0 0 tm)) ∧ ¬S c ∧ (∀ g, LiveG n0 gs.size g → ¬Own' g c) ∧ ¬Chs kids c)
    (hreg : Reg (LiveG n0 gs.size) Own' S (Chs kids) W' w1 (t ++ u)) : CI P S n0 E R' O' a' w0' kids q gs' w1 (t ++ u) Own' W' b' := by
  have hdeaf : ∀ g, Deaf (t ++ u) g = Deaf t g := fun g => deaf_same fun op hop => (hu op hop).2
  have hpos := h.pos
  refine ⟨h.pos, by rw [hsz]; exact h.size, fun i g h1 h2 hg => ?_, fun i hi => ?_, hmain, hown, hw0, fun i z hz => ?_, fun i z hz => ?_, h.ch, fun c hr => by rw [hsz]; exact hres c hr, h.exp, by rw [hsz]; exact hreg⟩
  · rw [hdeaf]
    exact h.old i g h1 h2 (by rw [← hgs i (by omega)]; exact hg)
  · rw [hdeaf]; exact h.above i (by rw [← hsz]; exact hi)
  · refine (h.kid i z hz).keep (hgs _ (by omega)) (hheap i z hz) rfl rfl fun op hop hg => ?_
    have := (hu op hop).1
    omega
  · obtain ⟨k1, k2⟩ := hO (n0 + i) (by omega)
    rw [k1, k2]
    exact h.kown i z hz
theorem ofE_nil (g : Nat) (fn : FuncId) (pos : String) : MemOp.ofEvents g fn pos #[] = #[] := rfl
theorem calm_of {g : Nat} {fn : FuncId} {pos : String} {es : Array Event} {O S : Nat → Prop} (h : ∀ e ∈ es, EvW O S e) : ∀ op ∈ MemOp.ofEvents g fn pos es, op.g = g ∧ op.act ≠ .mark .disable ∧ op.act ≠ .mark .enable := by
  intro op hop
  obtain ⟨e, he, rfl⟩ := Conc.mem_ofEvents hop
  exact ⟨rfl, evW_calm (h e he)⟩
/-- A channel that is reserved stays as it is. -/
theorem CI.res_did (h : CI P S n0 E R O a w0 kids q gs w t Own W b) {g : Nat} (hg : LiveG n0 gs.size g) (hd : DidO (Own g) w w1) : ∀ c, R = some c → (∃ tm, w1.heap[c]? = some (.chan 0 #[] false 0 0 tm)) ∧ ¬S c ∧ (∀ g', LiveG n0 gs.size g' → ¬put Own g (own (Own g) w w1) g' c) ∧ ¬Chs kids c := by
  intro c hr
  obtain ⟨⟨tm, h1⟩, h2, h3, h4⟩ := h.res c hr
  have hlt : c < w.heap.size := (Array.getElem?_eq_some_iff.1 h1).1
  refine ⟨⟨tm, by rw [hd.kept c hlt (h3 g hg)]; exact h1⟩, h2, fun g' hg' hb => ?_, h4⟩
  by_cases e : g' = g
  · rw [e, put_same] at hb
    rcases hb with hb | hb
    · exact h3 g hg hb
    · omega
  · rw [put_ne _ _ e] at hb
    exact h3 g' hg' hb
theorem CI.chan_did (h : CI P S n0 E R O a w0 kids q gs w t Own W b) {g : Nat} (hg : LiveG n0 gs.size g) (hd : DidO (Own g) w w1) : ∀ (i : Nat) (z : Kid), kids[i]? = some z → w1.heap[z.c]? = w.heap[z.c]? :=
  fun i z hz => hd.kept z.c (h.lowC hz) fun hb => h.reg.lie.ownCh g z.c hg hb ⟨i, z, hz, rfl⟩
theorem OpenC.of {c : Nat} (h : OpenC w c) (e : w1.heap[c]? = w.heap[c]?) : OpenC w1 c := let ⟨s, r, tm, k⟩ := h; ⟨s, r, tm, by rw [e]; exact k⟩
/-- One that was started takes a step of its own. -/
theorem CI.kidOwn (h : CI P S n0 E R O a w0 kids q gs w t Own W b) {j : Nat} {x : Kid} (hx : kids[j]? = some x) (hm : x.m = 2) {g1 : Goroutine} {es : Array Event} (hg1 : KT P S x.c x.outs (own x.own w w1) g1 w1) (hd : DidO x.own w w1) (he : ∀ e ∈ es, EvW (own x.own w w1) S e) (fn : FuncId) (pos : String) (f : Goroutine → Goroutine) (hf : ∀ (i : Nat) (z : Goroutine), i ≠ n0 + j → gs[i]? = some z → f z = z) :
    CI P S n0 E R O a w0 (kids.set j { x with own := own x.own w w1, g := g1, w := w1 }) q ((gs.map f).setIfInBounds (n0 + j) g1) w1 (t ++ MemOp.ofEvents (n0 + j) fn pos es) (put Own (n0 + j) (own x.own w w1)) (put W (n0 + j) w1) b := by
  have hL := h.liveK hx
  have hpos := h.pos
  obtain ⟨ho, hW⟩ := h.kown j x hx
  have hd' : DidO (Own (n0 + j)) w w1 := by rw [ho]; exact hd
  have he' : ∀ e ∈ es, EvW (own (Own (n0 + j)) w w1) S e := by rw [ho]; exact he
  have hlt : n0 + j < gs.size := by rw [h.size]; have := (List.getElem?_eq_some_iff.1 hx).1; omega
  have hset := set_get gs f (n0 + j) g1 hf
  have hreg := h.reg.step hL hd' he' fn pos
  have hres := h.res_did hL hd'
  rw [ho] at hreg hres
  refine h.to hx rfl (by simp) (fun i _ hi => hset i hi) (fun i z hz _ => h.chan_did hL hd' i z hz) (fun op hop => ?_) (fun _ _ => rfl) (fun _ _ _ _ => rfl) h.exp ?_ (by rw [put_ne _ _ (by omega)]; exact h.own0) (by rw [put_ne _ _ (by omega)]; exact h.w0) ?_ ⟨put_same _ _ _, fun _ => put_same _ _ _⟩ (fun i _ hi => ⟨put_ne _ _ hi, put_ne _ _ hi⟩) hres hreg
  · exact ⟨.inr (calm_of he op hop).1, (calm_of he op hop).2⟩
  · have e0 : ((gs.map f).setIfInBounds (n0 + j) g1)[0]? = gs[0]? := hset 0 (by omega)
    rw [e0]
    refine h.main.imp id fun ⟨k1, c, z, k2, k3, i, k, k4, k5, k6⟩ => ⟨k1, c, z, k2, k3, ?_⟩
    by_cases e : j = i
    · subst e
      rw [hx] at k4
      injection k4 with k4
      subst k4
      exact ⟨j, _, List.getElem?_set_self (List.getElem?_eq_some_iff.1 hx).1, k5, hm⟩
    · exact ⟨i, k, by rw [List.getElem?_set_ne e]; exact k4, k5, k6⟩
  · exact .live hm (set_at gs f g1 hlt) hg1 (((h.kid j x hx).openC (by omega)).of (h.chan_did hL hd' j x hx)) ((h.kid j x hx).exp (by omega))
/-- It sits down to send. -/
theorem CI.kidSit (h : CI P S n0 E R O a w0 kids q gs w t Own W b) {j : Nat} {x : Kid} (hx : kids[j]? = some x) (hm : x.m = 2) {v z : Value} {outs : List Value} (ho : x.outs = v :: outs) (hk : KT P S x.c outs x.own (Conc.served x.g undef) x.w) (hno : ∀ z, gs[0]? ≠ some (parked a #[rcase x.c z] (.recv true))) :
    CI P S n0 E R O a w0 (kids.set j { x with m := 1 }) q (gs.setIfInBounds (n0 + j) (parked x.g #[scase x.c v z] .send)) w t Own W b := by
  have hpos := h.pos
  have hj := (List.getElem?_eq_some_iff.1 hx).1
  have hlt : n0 + j < gs.size := by rw [h.size]; omega
  have hset : ∀ i, i ≠ n0 + j → (gs.setIfInBounds (n0 + j) (parked x.g #[scase x.c v z] .send))[i]? = gs[i]? := fun i hi => Array.getElem?_setIfInBounds_ne (Ne.symm hi)
  have := h.to (u := #[]) (E' := E) (R' := R) (O' := O) (a' := a) (w0' := w0) (q' := q) (gs' := gs.setIfInBounds (n0 + j) (parked x.g #[scase x.c v z] .send)) (w1 := w) (Own' := Own) (W' := W) (b' := b) hx (y := { x with m := 1 }) rfl (by simp) (fun i _ hi => hset i hi) (fun _ _ _ _ => rfl) (by simp) (fun _ _ => rfl) (fun _ _ _ _ => rfl) h.exp ?_ h.own0 h.w0 ?_ ⟨(h.kown j x hx).1, fun _ => (h.kown j x hx).2 (by omega)⟩ (fun _ _ _ => ⟨rfl, rfl⟩) h.res (by simpa using h.reg)
  · simpa using this
  · rw [hset 0 (by omega)]
    refine h.main.imp id fun ⟨k1, c, z, k2, k3, i, k, k4, k5, k6⟩ => ⟨k1, c, z, k2, k3, i, k, ?_, k5, k6⟩
    have : j ≠ i := by
      rintro rfl
      rw [hx] at k4
      injection k4 with k4
      subst k4
      rw [← k5] at k2
      exact hno z k2
    rw [List.getElem?_set_ne this]
    exact k4
  · exact .sits v z outs rfl (by simp [hlt]) ho hk ((h.kid j x hx).openC (by omega)) ((h.kid j x hx).exp (by omega))
end
end Go.Proofs.Ytgeoffpcmkofkaa
