/- Kx: texts laid into one. -/
import Derived.Conc.Beside
import Derived.Conc.CrowdTrace
import Derived.Test.YtgeoffpcmkofkaaRas
/- The trace while goroutines work side by side, each in blocks of its own, all reading what nobody writes. -/
namespace Go.Proofs.Ytgeoffpcmkofkaa
open Go Go.Conc

/-- The block of a place. -/
def blk : Loc → Option Nat
  | .cell a => some a.block
  | .obj r => some r
  | _ => none
section
variable (Live : Nat → Prop) (Own : Nat → Nat → Prop) (S Ch : Nat → Prop)
structure Lie : Prop where
  own : ∀ g g' b, Live g → Live g' → Own g b → Own g' b → g = g'
  ownS : ∀ g b, Live g → Own g b → ¬S b
  ownCh : ∀ g b, Live g → Own g b → ¬Ch b
  chS : ∀ b, Ch b → ¬S b
/-- A touch that a goroutine may make. -/
def May (g : Nat) (x : Touch) : Prop := ∃ b, blk x.loc = some b ∧ (Own g b ∨ (S b ∧ x.write = false) ∨ (Ch b ∧ x.kind = .atomic))
structure TB (N : Nat) (t : Trace) : Prop where
  clean : ∀ said, ¬Race said t
  zone : ∀ i a, touchAt t i = some a → a.loc.isMemory = true → (∀ g, Live g → Knows t g i) ∨ ∃ g, t.g? i = some g ∧ Live g ∧ May Own S Ch g a
  hears : ∀ g, Live g → Deaf t g = 0
  seen : ∀ op ∈ t, op.act.low N
structure OkT (N g : Nat) (op : MemOp) : Prop where
  by_ : op.g = g
  may : ∀ x, op.act.touch? = some x → x.loc.isMemory = true → May Own S Ch g x
  low : op.act.low N
  dis : op.act ≠ .mark .disable
  ena : op.act ≠ .mark .enable
end
section
variable {Live Live' : Nat → Prop} {Own Own' : Nat → Nat → Prop} {S Ch Ch' : Nat → Prop} {N N' : Nat} {t u : Trace}
theorem gq_of {i : Nat} {op : MemOp} (h : t[i]? = some op) : t.g? i = some op.g := by simp [Trace.g?, h]
theorem gq_app {i g : Nat} (u : Trace) (h : t.g? i = some g) : (t ++ u).g? i = some g := by
  unfold Trace.g? at h
  obtain ⟨z, hz, rfl⟩ := Option.map_eq_some_iff.1 h
  exact gq_of (by rw [getElem?_append_old (lt_size_of_getElem? hz)]; exact hz)
theorem knows_gq {i g : Nat} (h : t.g? i = some g) : Knows t g i := by
  unfold Trace.g? at h
  obtain ⟨z, hz, rfl⟩ := Option.map_eq_some_iff.1 h
  exact knows_own hz
theorem May.mono {g : Nat} {x : Touch} (h : May Own S Ch g x) (hO : ∀ b, Own g b → Own' g b) (hC : ∀ b, Ch b → Ch' b) : May Own' S Ch' g x := by
  obtain ⟨b, h1, h2⟩ := h
  exact ⟨b, h1, h2.imp (hO b) fun k => k.imp id fun k => ⟨hC b k.1, k.2⟩⟩
theorem TB.mono (h : TB Live Own S Ch N t) (hO : ∀ g b, Live g → Own g b → Own' g b) (hC : ∀ b, Ch b → Ch' b) (hN : N ≤ N') : TB Live Own' S Ch' N' t :=
  ⟨h.clean, fun i a ha hm => (h.zone i a ha hm).imp id fun ⟨g, h1, h2, h3⟩ => ⟨g, h1, h2, h3.mono (fun b => hO g b h2) hC⟩, h.hears, fun op hop => MemAct.low_mono hN (h.seen op hop)⟩
theorem deaf_still {g : Nat} : ∀ (l : List MemOp) (t : Trace), (∀ op ∈ l, op.act ≠ .mark .disable ∧ op.act ≠ .mark .enable) → Deaf (t ++ l.toArray) g = Deaf t g
  | [], t, _ => by simp
  | x :: l, t, h => by
    have e : t ++ (x :: l).toArray = (t ++ #[x]) ++ l.toArray := by apply Array.ext'; simp
    rw [e, deaf_still l _ fun op hop => h op (by simp [hop]), Deaf_push]
    have hx := h x (by simp)
    unfold deafStep
    split
    · rename_i e; exact absurd e hx.1
    · rename_i e; exact absurd e hx.2
    · rfl
theorem TB.app (A : Lie Live Own S Ch) (h : TB Live Own S Ch N t) {g : Nat} (hg : Live g) (hu : ∀ op ∈ u, OkT Own S Ch N g op) : TB Live Own S Ch N (t ++ u) := by
  refine ⟨fun said => noRace_append (h.clean said) (fun op hop => (hu op hop).by_) fun i a ha op hop b hb hc => ?_, fun i a ha hm => ?_, fun g' hg' => ?_, seen_app h.seen fun op hop => (hu op hop).low⟩
  · obtain ⟨h1, h2, h3, h4⟩ := hc
    rcases h.zone i a ha h2 with hk | ⟨g', k1, k2, bl, k3, k4⟩
    · exact hk g hg
    · obtain ⟨bl', m3, m4⟩ := (hu op hop).may b hb (by rw [← h1]; exact h2)
      rw [← h1, k3] at m3
      injection m3 with m3
      subst m3
      rcases k4 with k4 | ⟨k4, k5⟩ | ⟨k4, k5⟩ <;> rcases m4 with m4 | ⟨m4, m5⟩ | ⟨m4, m5⟩
      · rw [← A.own g' g bl k2 hg k4 m4]; exact knows_gq k1
      · exact absurd m4 (A.ownS g' bl k2 k4)
      · exact absurd m4 (A.ownCh g' bl k2 k4)
      · exact absurd k4 (A.ownS g bl hg m4)
      · rw [k5, m5] at h3; simp at h3
      · exact absurd k4 (A.chS bl m4)
      · exact absurd k4 (A.ownCh g bl hg m4)
      · exact absurd m4 (A.chS bl k4)
      · rw [k5, m5] at h4; simp at h4
  · obtain ⟨x, hx, hxa⟩ := touch_of ha
    rcases getElem?_append_cases hx with ⟨_, hx'⟩ | ⟨_, hxu⟩
    · exact (h.zone i a (by rw [touchAt_of hx']; exact hxa) hm).imp (fun k g' hg' => (k g' hg').app u) fun ⟨g', k1, k2, k3⟩ => ⟨g', gq_app u k1, k2, k3⟩
    · exact .inr ⟨g, by rw [gq_of hx, (hu x hxu).by_], hg, (hu x hxu).may a hxa hm⟩
  · have := deaf_still (g := g') u.toList t fun op hop => ⟨(hu op (by simpa using hop)).dis, (hu op (by simpa using hop)).ena⟩
    have e : t ++ u.toList.toArray = t ++ u := by simp
    rw [e] at this
    rw [this]
    exact h.hears g' hg'
/-- What anybody does who touches nothing. -/
structure Still (N : Nat) (op : MemOp) : Prop where
  touch : op.act.touch? = none
  low : op.act.low N
  dis : op.act ≠ .mark .disable
  ena : op.act ≠ .mark .enable
theorem noRace_still {said : Bool} (h : ¬Race said t) (hu : ∀ op ∈ u, op.act.touch? = none) : ¬Race said (t ++ u) := by
  rintro ⟨i, j, hij, ⟨a, b, ha, hb, hc⟩, n1, n2⟩
  obtain ⟨x, hx, hxa⟩ := touch_of ha
  obtain ⟨y, hy, hyb⟩ := touch_of hb
  rcases getElem?_append_cases hy with ⟨hj, hy'⟩ | ⟨_, hyu⟩
  · have hi : i < t.size := Nat.lt_trans hij hj
    have hx' : t[i]? = some x := by rw [← getElem?_append_old (u := u) hi]; exact hx
    exact h ⟨i, j, hij, ⟨a, b, by simp [Trace.act?, hx', hxa], by simp [Trace.act?, hy', hyb], hc⟩, fun e => n1 (hb_app u e), fun e => n2 (hb_app u e)⟩
  · rw [hu y hyu] at hyb; cases hyb
theorem TB.still (h : TB Live Own S Ch N t) (hu : ∀ op ∈ u, Still N op) : TB Live Own S Ch N (t ++ u) := by
  refine ⟨fun said => noRace_still (h.clean said) fun op hop => (hu op hop).touch, fun i a ha hm => ?_, fun g hg => ?_, seen_app h.seen fun op hop => (hu op hop).low⟩
  · obtain ⟨x, hx, hxa⟩ := touch_of ha
    rcases getElem?_append_cases hx with ⟨_, hx'⟩ | ⟨_, hxu⟩
    · exact (h.zone i a (by rw [touchAt_of hx']; exact hxa) hm).imp (fun k g hg => (k g hg).app u) fun ⟨g, k1, k2, k3⟩ => ⟨g, gq_app u k1, k2, k3⟩
    · rw [(hu x hxu).touch] at hxa; cases hxa
  · have := deaf_still (g := g) u.toList t fun op hop => ⟨(hu op (by simpa using hop)).dis, (hu op (by simpa using hop)).ena⟩
    have e : t ++ u.toList.toArray = t ++ u := by simp
    rw [e] at this
    rw [this]
    exact h.hears g hg
/-- What one does who is not in the company and touches nothing. -/
theorem TB.mute (h : TB Live Own S Ch N t) {g : Nat} (hg : ¬Live g) (hu : ∀ op ∈ u, op.g = g ∧ op.act.touch? = none ∧ op.act.low N) : TB Live Own S Ch N (t ++ u) := by
  refine ⟨fun said => noRace_still (h.clean said) fun op hop => (hu op hop).2.1, fun i a ha hm => ?_, fun g' hg' => ?_, seen_app h.seen fun op hop => (hu op hop).2.2⟩
  · obtain ⟨x, hx, hxa⟩ := touch_of ha
    rcases getElem?_append_cases hx with ⟨_, hx'⟩ | ⟨_, hxu⟩
    · exact (h.zone i a (by rw [touchAt_of hx']; exact hxa) hm).imp (fun k g hg => (k g hg).app u) fun ⟨g, k1, k2, k3⟩ => ⟨g, gq_app u k1, k2, k3⟩
    · rw [(hu x hxu).2.1] at hxa; cases hxa
  · have hne : g ≠ g' := fun e => hg (e ▸ hg')
    rw [Deaf_other t hne u fun op hop => (hu op hop).1]
    exact h.hears g' hg'
theorem TB.fork (h : TB Live Own S Ch N t) {k : Nat} (h0 : Live 0) (hk : Deaf t k = 0) {x y : MemOp} (hx : x.g = 0 ∧ x.act = .go k) (hy : y.g = k ∧ y.act = .start) (hL : ∀ g, Live' g ↔ Live g ∨ g = k) : TB Live' Own S Ch N (t ++ #[x, y]) := by
  have hs : ∀ op ∈ #[x, y], Still N op := by
    intro op hop
    have : op = x ∨ op = y := by simpa using hop
    rcases this with rfl | rfl
    · exact ⟨by rw [hx.2]; rfl, by rw [hx.2]; trivial, by rw [hx.2]; simp, by rw [hx.2]; simp⟩
    · exact ⟨by rw [hy.2]; rfl, by rw [hy.2]; trivial, by rw [hy.2]; simp, by rw [hy.2]; simp⟩
  have h' := h.still hs
  refine ⟨h'.clean, fun i a ha hm => ?_, fun g hg => ?_, h'.seen⟩
  · obtain ⟨z, hz, hza⟩ := touch_of ha
    rcases getElem?_append_cases hz with ⟨_, hz'⟩ | ⟨_, hzu⟩
    · rcases h.zone i a (by rw [touchAt_of hz']; exact hza) hm with q | ⟨g, q1, q2, q3⟩
      · refine .inl fun g hg => ?_
        rcases (hL g).1 hg with hg | rfl
        · exact (q g hg).app _
        · exact Go.ConcN.fork_knows hx hy (h.hears 0 h0) hk (q 0 h0)
      · exact .inr ⟨g, gq_app _ q1, (hL g).2 (.inl q2), q3⟩
    · rw [(hs z hzu).touch] at hza; cases hza
  · rcases (hL g).1 hg with hg | rfl
    · exact h'.hears g hg
    · have := deaf_still (g := g) [x, y] t fun op hop => ⟨(hs op (by simpa using hop)).dis, (hs op (by simpa using hop)).ena⟩
      exact this.trans hk
theorem TB.ofPast (h : Past (fun _ => False) N t) : TB (· = 0) Own S Ch N t :=
  ⟨h.clean, fun i a ha hm => (h.known i a ha hm).elim (fun k => .inl fun g hg => by rw [hg]; exact k) fun k => k.1.elim, fun g hg => by rw [hg]; exact h.hears, h.seen⟩

/-- Goroutine k has closed c, and has touched nothing since. -/
structure ShutAt (k c : Nat) (t : Trace) (pc : Nat) : Prop where
  close : ∃ op, t[pc]? = some op ∧ op.g = k ∧ op.act = .close c
  heard : t.heard pc
  last : ∀ i op, t[i]? = some op → op.g = k → op.act.touch? ≠ none → i < pc
/-- Goroutine 0 knows all that k has touched. -/
def AllKnown (k : Nat) (t : Trace) : Prop := ∀ i a, touchAt t i = some a → t.g? i = some k → Knows t 0 i
theorem ShutAt.app {k c pc : Nat} (h : ShutAt k c t pc) (hu : ∀ op ∈ u, op.g = k → op.act.touch? = none) : ShutAt k c (t ++ u) pc := by
  obtain ⟨op, h1, h2, h3⟩ := h.close
  have hlt := lt_size_of_getElem? h1
  refine ⟨⟨op, by rw [getElem?_append_old hlt]; exact h1, h2, h3⟩, (heard_old hlt).2 h.heard, fun i z hz hg ht => ?_⟩
  rcases getElem?_append_cases hz with ⟨_, hz'⟩ | ⟨_, hzu⟩
  · exact h.last i z hz' hg ht
  · exact absurd (hu z hzu hg) ht
theorem AllKnown.app {k : Nat} (h : AllKnown k t) (hu : ∀ op ∈ u, op.g = k → op.act.touch? = none) : AllKnown k (t ++ u) := by
  intro i a ha hg
  obtain ⟨x, hx, hxa⟩ := touch_of ha
  have hxg : x.g = k := by rw [gq_of hx] at hg; injection hg
  rcases getElem?_append_cases hx with ⟨_, hx'⟩ | ⟨_, hxu⟩
  · exact (h i a (by rw [touchAt_of hx']; exact hxa) (by rw [gq_of hx', hxg])).app u
  · rw [hu x hxu hxg] at hxa; cases hxa
theorem ShutAt.new {k c : Nat} {y : MemOp} (hy : y.g = k ∧ y.act = .close c) (hd : Deaf t k = 0) : ShutAt k c (t ++ #[y]) t.size := by
  have hlast : (t ++ #[y])[t.size]? = some y := by rw [Array.getElem?_append_right (Nat.le_refl _)]; simp
  refine ⟨⟨y, hlast, hy.1, hy.2⟩, ⟨k, by rw [gq_of hlast, hy.1], by rw [deaf_old (Nat.le_refl _)]; exact hd⟩, fun i op hi hg ht => ?_⟩
  rcases getElem?_append_cases hi with ⟨hlt, _⟩ | ⟨_, hu⟩
  · exact hlt
  · have : op = y := by simpa using hu
    rw [this, hy.2] at ht
    exact absurd rfl ht
theorem ShutAt.known {k c pc : Nat} {y : MemOp} (h : ShutAt k c t pc) (hy : y.g = 0 ∧ y.act = .recvClosed c) (hd : Deaf t 0 = 0) : AllKnown k (t ++ #[y]) := by
  intro i a ha hg
  have hlast : (t ++ #[y])[t.size]? = some y := by rw [Array.getElem?_append_right (Nat.le_refl _)]; simp
  obtain ⟨op, h1, h2, h3⟩ := h.close
  have hlt := lt_size_of_getElem? h1
  have h1' : (t ++ #[y])[pc]? = some op := by rw [getElem?_append_old hlt]; exact h1
  have e2 : HappensBefore (t ++ #[y]) pc t.size := .single (.inr ⟨.closed (c := c) (by rw [act?_of h1', h3]) (by rw [act?_of hlast, hy.2]), (heard_old hlt).2 h.heard, ⟨0, by rw [gq_of hlast, hy.1], by rw [deaf_old (Nat.le_refl _)]; exact hd⟩⟩)
  obtain ⟨x, hx, hxa⟩ := touch_of ha
  have hxg : x.g = k := by rw [gq_of hx] at hg; injection hg
  rcases getElem?_append_cases hx with ⟨_, hx'⟩ | ⟨_, hxu⟩
  · have hi := h.last i x hx' hxg (by rw [hxa]; simp)
    exact ⟨t.size, y, hlast, hy.1, .inr ((hb_po hi hx h1' (by rw [hxg, h2])).trans e2)⟩
  · have : x = y := by simpa using hxu
    rw [this, hy.2] at hxa
    cases hxa
theorem TB.toPast (h : TB Live Own S Ch N t) (h0 : Live 0) (hk : ∀ g, Live g → g ≠ 0 → AllKnown g t) : Past (fun _ => False) N t := by
  have known : ∀ i a, touchAt t i = some a → a.loc.isMemory = true → Knows t 0 i := by
    intro i a ha hm
    rcases h.zone i a ha hm with q | ⟨g, q1, q2, _⟩
    · exact q 0 h0
    · by_cases hg : g = 0
      · rw [hg] at q1; exact knows_gq q1
      · exact hk g q2 hg i a ha q1
  refine ⟨h.clean, fun i a ha hm => .inl (known i a ha hm), fun i g hg hne hc => ?_, h.hears 0 h0, h.seen⟩
  obtain ⟨x, hx, hm, _⟩ := hc
  obtain ⟨q, z, k1, k2, k3⟩ := known i x hx hm
  refine ⟨q, by rw [gq_of k1, k2], ?_⟩
  rcases k3 with rfl | k3
  · rw [gq_of k1, k2] at hg; injection hg with hg; exact absurd hg.symm hne
  · exact k3
end
end Go.Proofs.Ytgeoffpcmkofkaa
