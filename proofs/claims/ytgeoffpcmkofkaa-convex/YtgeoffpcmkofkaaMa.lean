/- Runs of one alone do not hang on where the tape stands. -/
import Derived.Test.YtgeoffpcmkofkaaLe
namespace Go.Proofs.Ytgeoffpcmkofkaa
open Go Go.Conc

/-- The same memory, another tape. -/
def mv (w : World) (T : Nat → Question → Nat) (d : Nat) : World := { w with tape := T, drawn := d }
section
variable {P : Program} {α β : Type} {Q : α → Prop} {Q' : β → Prop}
/-- A run that neither waits nor speaks to the world outside. -/
inductive Plain (P : Program) {α : Type} (Q : α → Prop) : Sem α → Prop
  | pure {a : α} : Q a → Plain P Q (.pure a)
  | load {m : Mode} {a : Addr} {k : Value → Sem α} : (∀ v, Plain P Q (k v)) → Plain P Q (.load m a k)
  | store {m : Mode} {a : Addr} {v : Value} {k : Sem α} : Plain P Q k → Plain P Q (.store m a v k)
  | new {o : Obj} {k : Nat → Sem α} : (∀ r, Plain P Q (k r)) → Plain P Q (.new o k)
  | shape {r : Nat} {k : Option (TypeId × Nat) → Sem α} : (∀ s, Plain P Q (k s)) → Plain P Q (.shape r k)
  | freeze {a : Addr} {n : Nat} {k : Sem α} : Plain P Q k → Plain P Q (.freeze a n k)
  | frozen {a : Addr} {k : Bool → Sem α} : (∀ s, Plain P Q (k s)) → Plain P Q (.frozen a k)
  | getObj {r : Nat} {k : Obj → Sem α} : (∀ o, Plain P Q (k o)) → Plain P Q (.getObj r k)
  | setObj {r : Nat} {o : Obj} {k : Sem α} : Plain P Q k → Plain P Q (.setObj r o k)
  | choose {q : Question} {k : Nat → Sem α} : (∀ n, Plain P Q (k n)) → Plain P Q (.choose q k)
  | program {k : Program → Sem α} : Plain P Q (k P) → Plain P Q (.program k)
  | mark {m : Mark} {k : Sem α} : (m = .noRoom ∨ ∃ f, m = .extern f) → Plain P Q k → Plain P Q (.mark m k)
  | halt {h : Halt} : MildH h → Plain P Q (.halt h)
  | dead {s : Sem α} : Dead P s → Plain P Q s
theorem p_bind {s : Sem β} (h : Plain P Q' s) {f : β → Sem α} (hf : ∀ b, Q' b → Plain P Q (f b)) : Plain P Q (s.bind f) := by
  induction h with
  | pure hq => exact hf _ hq
  | load _ ih => exact .load ih
  | store _ ih => exact .store ih
  | new _ ih => exact .new ih
  | shape _ ih => exact .shape ih
  | freeze _ ih => exact .freeze ih
  | frozen _ ih => exact .frozen ih
  | getObj _ ih => exact .getObj ih
  | setObj _ ih => exact .setObj ih
  | choose _ ih => exact .choose ih
  | program _ ih => exact .program ih
  | mark hm _ ih => exact .mark hm ih
  | halt hh => exact .halt hh
  | dead hd => exact .dead (dead_bind hd)
theorem farLoad_mv {w : World} {T : Nat → Question → Nat} {d : Nat} (a : Addr) (b : Bool) : (mv w T d).farLoad P a b = w.farLoad P a b := rfl
theorem seen_low {w : World} {at_ a : Addr} {u : TypeId} {b : Bool} (h : ¬at_.block < w.heap.size) : ∀ r, w.seen P at_ u a b ≠ .ok r := by
  intro r hr
  have hn : w.heap[at_.block]? = none := Array.getElem?_eq_none (by omega)
  unfold World.seen at hr
  simp only [hn, bind, Except.bind] at hr
  (repeat' split at hr) <;> cases hr
theorem farStore_mv {w : World} {T : Nat → Question → Nat} {d : Nat} (a : Addr) (v : Value) (b : Bool) {w1 : World} {l : List Addr} (h : w.farStore P a v b = .ok (w1, l)) : (mv w T d).farStore P a v b = .ok (mv w1 T d, l) ∧ w1.drawn = w.drawn ∧ w1.tape = w.tape ∧ w.heap.size = w1.heap.size ∧ ∀ x ∈ l, x.block < w.heap.size := by
  unfold World.farStore at h ⊢
  rw [show (mv w T d).heap = w.heap from rfl]
  split at h
  · rename_i at_ u _
    unfold World.viewStore at h ⊢
    rw [show (mv w T d).seen P at_ u a b = w.seen P at_ u a b from rfl]
    cases ht : tight P P.depth u with
    | false => simp [ht, bind, Except.bind] at h
    | true =>
      cases hs : w.seen P at_ u a b with
      | error e => simp [ht, hs, bind, Except.bind] at h
      | ok r =>
        obtain ⟨c, e, fz, first, like, cells⟩ := r
        cases hb : v.bytes? with
        | none => simp [ht, hs, hb, bind, Except.bind] at h
        | some bytes =>
          by_cases hl : some bytes.length ≠ like.bytes?.map (·.length)
          · simp [ht, hs, hb, hl, bind, Except.bind] at h
          · simp only [ht, hs, hb, hl, bind, Except.bind, pure, Except.pure, Bool.not_true, Bool.false_eq_true, if_false] at h ⊢
            generalize @List.foldlM (Except String) _ _ _ _ c cells = F at h ⊢
            cases F with
            | error e => cases h
            | ok c' =>
              injection h with h
              injection h with h1 h2
              subst h1 h2
              refine ⟨rfl, rfl, rfl, by simp, fun x hx => ?_⟩
              obtain ⟨y, _, rfl⟩ := List.mem_map.1 hx
              show at_.block < w.heap.size
              apply Classical.byContradiction
              exact fun hn => seen_low hn _ hs
  · cases h
theorem farLoad_low {w : World} {a : Addr} {b : Bool} {v : Value} {l : List Addr} (h : w.farLoad P a b = .ok (v, l)) : ∀ x ∈ l, x.block < w.heap.size := by
  unfold World.farLoad at h
  split at h
  · rename_i at_ u _
    split at h
    · rename_i r hr
      injection h with h
      subst h
      unfold World.viewLoad at hr
      cases hs : w.seen P at_ u a b with
      | error e => simp [hs, bind, Except.bind] at hr
      | ok q =>
        have hlt : at_.block < w.heap.size := by
          apply Classical.byContradiction
          exact fun hn => seen_low hn _ hs
        obtain ⟨c, e, fz, first, like, cells⟩ := q
        simp only [hs, bind, Except.bind, pure, Except.pure] at hr
        split at hr
        · injection hr with hr
          injection hr with _ hr
          subst hr
          intro x hx
          obtain ⟨y, _, rfl⟩ := List.mem_map.1 hx
          exact hlt
        · cases hr
    · cases h
  · cases h
/-- What such a run lists. -/
def EvP (N : Nat) (e : Event) : Prop := EvL (fun _ => False) N e
theorem evP_cell (a : Addr) (wr s : Bool) {N : Nat} (h : a.block < N) : EvP N ⟨.cell a, wr, s⟩ := ⟨fun _ _ h => h.elim, by simp, by simp, h⟩
theorem evP_obj (r : Nat) (wr s : Bool) {N : Nat} (h : r < N) : EvP N ⟨.obj r, wr, s⟩ := by
  refine ⟨fun _ _ h => h.elim, by simp, by simp, ?_⟩
  cases wr <;> cases s <;> exact h
theorem evP_mono {N N' : Nat} (h : N ≤ N') {e : Event} (he : EvP N e) : EvP N' e := ⟨he.1, he.2.1, he.2.2.1, MemAct.low_mono h he.2.2.2⟩
structure RunMv (P : Program) (s : Sem α) (w : World) (es : Array Event) (a : α) (w1 : World) (es1 : Array Event) : Prop where
  mono : w.drawn ≤ w1.drawn
  same : w1.tape = w.tape
  size : w.heap.size ≤ w1.heap.size
  low : ∀ e ∈ es1, e ∈ es ∨ EvP w1.heap.size e
  run : ∀ T d, (∀ i q, i < w1.drawn - w.drawn → T (d + i) q = w.tape (w.drawn + i) q) → s.runT P (mv w T d) es = (.ok a (mv w1 T (d + (w1.drawn - w.drawn))), es1)
theorem store_eq {m : Mode} {a : Addr} {v : Value} {k : Sem α} (h1 : ∀ c, v ≠ .agg c) (h2 : ∀ c, v ≠ .tuple c) (w : World) (es : Array Event) : (Sem.store m a v k).runT P w es = match w.cell? a with
    | some _ => if w.frozen? a then (.halt (.unsupported (.unsafePointer "a write to bytes that a string shares")) w, es) else k.runT P (w.setCell a v) (es.push ⟨.cell a, true, m == .atomic⟩)
    | none => match w.farStore P a v (m == .atomic) with
      | .ok (w, touched) => k.runT P w (es ++ touched.toArray.map (⟨.cell ·, true, m == .atomic⟩))
      | .error h => (.halt h w, es) := by
  cases v <;> first | rfl | exact absurd rfl (h1 _) | exact absurd rfl (h2 _)
theorem store_eq' {m : Mode} {a : Addr} {v : Value} {k : Sem α} (h1 : ∀ c, v ≠ .agg c) (h2 : ∀ c, v ≠ .tuple c) (w : World) : (Sem.store m a v k).run P w = match w.cell? a with
    | some _ => if w.frozen? a then .halt (.unsupported (.unsafePointer "a write to bytes that a string shares")) w else k.run P (w.setCell a v)
    | none => match w.farStore P a v (m == .atomic) with
      | .ok (w, _) => k.run P w
      | .error h => .halt h w := by
  cases v <;> first | rfl | exact absurd rfl (h1 _) | exact absurd rfl (h2 _)
theorem freeze_mv (w : World) (T : Nat → Question → Nat) (d : Nat) (a : Addr) (n : Nat) : (mv w T d).freeze a n = mv (w.freeze a n) T d ∧ (w.freeze a n).drawn = w.drawn ∧ (w.freeze a n).tape = w.tape ∧ (w.freeze a n).heap.size = w.heap.size := by
  unfold World.freeze
  split
  · exact ⟨rfl, rfl, rfl, rfl⟩
  · exact ⟨rfl, rfl, rfl, by simp⟩
theorem low_push {es es1 : Array Event} {N : Nat} {ev : Event} (hev : EvP N ev) (h : ∀ e ∈ es1, e ∈ es.push ev ∨ EvP N e) : ∀ e ∈ es1, e ∈ es ∨ EvP N e := by
  intro e he
  rcases h e he with h | h
  · rcases Array.mem_push.1 h with h | h
    · exact .inl h
    · rw [h]; exact .inr hev
  · exact .inr h
theorem low_app {es es1 u : Array Event} {N : Nat} (hev : ∀ e ∈ u, EvP N e) (h : ∀ e ∈ es1, e ∈ es ++ u ∨ EvP N e) : ∀ e ∈ es1, e ∈ es ∨ EvP N e := by
  intro e he
  rcases h e he with h | h
  · rcases Array.mem_append.1 h with h | h
    · exact .inl h
    · exact .inr (hev e h)
  · exact .inr h
theorem Plain.run_mv {s : Sem α} (h : Plain P Q s) : ∀ {w : World} {es : Array Event} {a : α} {w1 : World} {es1 : Array Event}, s.runT P w es = (.ok a w1, es1) → RunMv P s w es a w1 es1 := by
  induction h with
  | pure _ =>
    intro w es a w1 es1 hr
    simp only [Sem.runT] at hr
    cases hr
    refine ⟨Nat.le_refl _, rfl, Nat.le_refl _, fun e he => .inl he, fun T d _ => ?_⟩
    simp only [Sem.runT, Nat.sub_self, Nat.add_zero]
  | @load m a k _ ih =>
    intro w es x w1 es1 hr
    simp only [Sem.runT] at hr
    cases hc : w.cell? a with
    | some v =>
      rw [hc] at hr
      have g := ih v hr
      refine ⟨g.mono, g.same, g.size, low_push (evP_cell _ _ _ (Nat.lt_of_lt_of_le (World.block_lt_of_cell? w a hc) g.size)) g.low, fun T d hT => ?_⟩
      simp only [Sem.runT, show (mv w T d).cell? a = some v from hc]
      exact g.run T d hT
    | none =>
      rw [hc] at hr
      simp only at hr
      cases hf : w.farLoad P a (m == .atomic) with
      | error h => rw [hf] at hr; cases hr
      | ok r =>
        obtain ⟨v, l⟩ := r
        rw [hf] at hr
        have g := ih v hr
        refine ⟨g.mono, g.same, g.size, low_app (fun e he => ?_) g.low, fun T d hT => ?_⟩
        · obtain ⟨ad, had, rfl⟩ := Array.mem_map.1 he
          exact evP_cell _ _ _ (Nat.lt_of_lt_of_le (farLoad_low hf ad (by simpa using had)) g.size)
        · simp only [Sem.runT, show (mv w T d).cell? a = none from hc, farLoad_mv, hf]
          exact g.run T d hT
  | @store m a v k _ ih =>
    intro w es x w1 es1 hr
    have key : (∀ c, v ≠ .agg c) → (∀ c, v ≠ .tuple c) → RunMv P (.store m a v k) w es x w1 es1 := by
      intro h1 h2
      rw [store_eq h1 h2] at hr
      cases hc : w.cell? a with
      | some u =>
        rw [hc] at hr
        simp only at hr
        by_cases hf : w.frozen? a = true
        · rw [if_pos hf] at hr; cases hr
        · rw [if_neg hf] at hr
          have g := ih hr
          have hs : w.heap.size ≤ w1.heap.size := by have := g.size; unfold World.setCell at this; simpa using this
          refine ⟨g.mono, g.same, hs, low_push (evP_cell _ _ _ (Nat.lt_of_lt_of_le (World.block_lt_of_cell? w a hc) hs)) g.low, fun T d hT => ?_⟩
          rw [store_eq h1 h2]
          simp only [show (mv w T d).cell? a = some u from hc, show (mv w T d).frozen? a = w.frozen? a from rfl]
          rw [if_neg hf]
          exact g.run T d hT
      | none =>
        rw [hc] at hr
        simp only at hr
        cases hf : w.farStore P a v (m == .atomic) with
        | error h => rw [hf] at hr; cases hr
        | ok r =>
          obtain ⟨w2, l⟩ := r
          rw [hf] at hr
          have g := ih hr
          obtain ⟨_, e1, e2, e3, e4⟩ := farStore_mv (T := w.tape) (d := 0) a v _ hf
          have hs : w.heap.size ≤ w1.heap.size := by have := g.size; omega
          refine ⟨by have := g.mono; omega, by rw [g.same, e2], hs, low_app (fun e he => ?_) g.low, fun T d hT => ?_⟩
          · obtain ⟨ad, had, rfl⟩ := Array.mem_map.1 he
            exact evP_cell _ _ _ (Nat.lt_of_lt_of_le (e4 ad (by simpa using had)) hs)
          · rw [store_eq h1 h2]
            simp only [show (mv w T d).cell? a = none from hc, (farStore_mv (T := T) (d := d) a v _ hf).1]
            rw [← e1]
            exact g.run T d fun i q hi => by rw [e1, e2]; exact hT i q (by omega)
    cases v with
    | agg c => simp [Sem.runT] at hr
    | tuple c => simp [Sem.runT] at hr
    | _ => exact key (fun _ h => by cases h) (fun _ h => by cases h)
  | @new o k _ ih =>
    intro w es x w1 es1 hr
    simp only [Sem.runT] at hr
    have g := ih _ hr
    exact ⟨g.mono, g.same, Nat.le_trans (by simp) g.size, g.low, fun T d hT => g.run T d hT⟩
  | shape _ ih =>
    intro w es x w1 es1 hr
    simp only [Sem.runT] at hr
    have g := ih _ hr
    exact ⟨g.mono, g.same, g.size, g.low, fun T d hT => g.run T d hT⟩
  | @freeze a n k _ ih =>
    intro w es x w1 es1 hr
    simp only [Sem.runT] at hr
    have g := ih hr
    obtain ⟨_, e1, e2, e3⟩ := freeze_mv w w.tape 0 a n
    refine ⟨by have := g.mono; omega, by rw [g.same, e2], by have := g.size; omega, g.low, fun T d hT => ?_⟩
    simp only [Sem.runT, (freeze_mv w T d a n).1]
    rw [← e1]
    exact g.run T d fun i q hi => by rw [e1, e2]; exact hT i q (by omega)
  | frozen _ ih =>
    intro w es x w1 es1 hr
    simp only [Sem.runT] at hr
    have g := ih _ hr
    exact ⟨g.mono, g.same, g.size, g.low, fun T d hT => g.run T d hT⟩
  | @getObj r k _ ih =>
    intro w es x w1 es1 hr
    simp only [Sem.runT] at hr
    cases hc : w.heap[r]? with
    | none => rw [hc] at hr; cases hr
    | some o =>
      have hlt := (Array.getElem?_eq_some_iff.1 hc).1
      have key : (∀ c e f, o ≠ .cells c e f) → RunMv P (.getObj r k) w es x w1 es1 := by
        intro hno
        have e : ∀ (w : World) (es : Array Event), w.heap[r]? = some o → (Sem.getObj r k).runT P w es = (k o).runT P w (es.push ⟨.obj r, false, o.isChan⟩) := by
          intro w es hc
          simp only [Sem.runT, hc]
        have hr' : (k o).runT P w (es.push ⟨.obj r, false, o.isChan⟩) = (.ok x w1, es1) := by
          rw [← e w es hc]
          simp only [Sem.runT]
          exact hr
        have g := ih o hr'
        refine ⟨g.mono, g.same, g.size, low_push (evP_obj _ _ _ (Nat.lt_of_lt_of_le hlt g.size)) g.low, fun T d hT => ?_⟩
        rw [e (mv w T d) es hc]
        exact g.run T d hT
      cases o with
      | cells c e f => rw [hc] at hr; cases hr
      | _ => exact key (fun _ _ _ h => by cases h)
  | @setObj r o k _ ih =>
    intro w es x w1 es1 hr
    simp only [Sem.runT] at hr
    cases hc : w.heap[r]? with
    | none => rw [hc] at hr; cases hr
    | some o' =>
      have hlt := (Array.getElem?_eq_some_iff.1 hc).1
      have key : (∀ c e f, o' ≠ .cells c e f) → RunMv P (.setObj r o k) w es x w1 es1 := by
        intro hno
        have e : ∀ (w : World) (es : Array Event), w.heap[r]? = some o' → (Sem.setObj r o k).runT P w es = k.runT P { w with heap := w.heap.setIfInBounds r o } (es.push ⟨.obj r, true, o.isChan⟩) := by
          intro w es hc
          simp only [Sem.runT, hc]
        have hr' : k.runT P { w with heap := w.heap.setIfInBounds r o } (es.push ⟨.obj r, true, o.isChan⟩) = (.ok x w1, es1) := by
          rw [← e w es hc]
          simp only [Sem.runT]
          exact hr
        have g := ih hr'
        have hs : w.heap.size ≤ w1.heap.size := by have := g.size; simpa using this
        refine ⟨g.mono, g.same, hs, low_push (evP_obj _ _ _ (Nat.lt_of_lt_of_le hlt hs)) g.low, fun T d hT => ?_⟩
        rw [e (mv w T d) es hc]
        exact g.run T d hT
      cases o' with
      | cells c e f => rw [hc] at hr; cases hr
      | _ => exact key (fun _ _ _ h => by cases h)
  | @choose q k _ ih =>
    intro w es x w1 es1 hr
    simp only [Sem.runT] at hr
    by_cases hq : q.forced = true
    · rw [if_pos hq] at hr
      have g := ih _ hr
      refine ⟨g.mono, g.same, g.size, g.low, fun T d hT => ?_⟩
      simp only [Sem.runT, if_pos hq]
      exact g.run T d hT
    · rw [if_neg hq] at hr
      have g := ih _ hr
      have hm : w.drawn + 1 ≤ w1.drawn := g.mono
      refine ⟨by omega, g.same, g.size, g.low, fun T d hT => ?_⟩
      simp only [Sem.runT, if_neg hq]
      have e : (mv w T d).tape (mv w T d).drawn q = w.tape w.drawn q := by
        have := hT 0 q (by omega)
        show T d q = w.tape w.drawn q
        simpa using this
      rw [e]
      have := g.run T (d + 1) fun i q hi => by
        have := hT (i + 1) q (by simp only at hi; omega)
        rw [show d + 1 + i = d + (i + 1) by omega, this]
        simp only
        rw [show w.drawn + 1 + i = w.drawn + (i + 1) by omega]
      simp only at this
      rw [show d + 1 + (w1.drawn - (w.drawn + 1)) = d + (w1.drawn - w.drawn) by omega] at this
      exact this
  | program _ ih =>
    intro w es x w1 es1 hr
    simp only [Sem.runT] at hr
    have g := ih hr
    exact ⟨g.mono, g.same, g.size, g.low, fun T d hT => g.run T d hT⟩
  | @mark m k hm _ ih =>
    intro w es x w1 es1 hr
    simp only [Sem.runT] at hr
    have g := ih hr
    refine ⟨g.mono, g.same, g.size, low_push ?_ g.low, fun T d hT => g.run T d hT⟩
    rcases hm with rfl | ⟨f, rfl⟩ <;> exact ⟨fun _ _ h => h.elim, by simp, by simp, trivial⟩
  | halt _ =>
    intro w es x w1 es1 hr
    simp only [Sem.runT] at hr
    cases hr
  | @dead s hd =>
    intro w es x w1 es1 hr
    have := Sem.runT_fst P s w es
    rw [hr] at this
    exact absurd this.symm (hd.1 _ _ _)
theorem Plain.mild {s : Sem α} (h : Plain P Q s) : ∀ {w : World} {x : Halt} {w1 : World}, s.run P w = .halt x w1 → MildH x := by
  induction h with
  | pure _ => intro w x w1 hr; cases hr
  | @load m a k _ ih =>
    intro w x w1 hr
    simp only [Sem.run] at hr
    split at hr
    · exact ih _ hr
    · split at hr
      · exact ih _ hr
      · rename_i hf
        injection hr with hr _
        subst hr
        exact farLoad_mild hf
  | @store m a v k _ ih =>
    intro w x w1 hr
    have key : (∀ c, v ≠ .agg c) → (∀ c, v ≠ .tuple c) → MildH x := by
      intro h1 h2
      rw [store_eq' h1 h2] at hr
      split at hr
      · split at hr
        · injection hr with hr _; subst hr; trivial
        · exact ih hr
      · split at hr
        · exact ih hr
        · rename_i hf
          injection hr with hr _
          subst hr
          exact farStore_mild hf
    cases v with
    | agg c => simp only [Sem.run] at hr; injection hr with hr _; subst hr; trivial
    | tuple c => simp only [Sem.run] at hr; injection hr with hr _; subst hr; trivial
    | _ => exact key (fun _ h => by cases h) (fun _ h => by cases h)
  | new _ ih => intro w x w1 hr; exact ih _ hr
  | shape _ ih => intro w x w1 hr; exact ih _ hr
  | freeze _ ih => intro w x w1 hr; exact ih hr
  | frozen _ ih => intro w x w1 hr; exact ih _ hr
  | @getObj r k _ ih =>
    intro w x w1 hr
    simp only [Sem.run] at hr
    split at hr
    · injection hr with hr _; subst hr; trivial
    · exact ih _ hr
    · injection hr with hr _; subst hr; trivial
  | @setObj r o k _ ih =>
    intro w x w1 hr
    simp only [Sem.run] at hr
    split at hr
    · injection hr with hr _; subst hr; trivial
    · exact ih hr
    · injection hr with hr _; subst hr; trivial
  | @choose q k _ ih =>
    intro w x w1 hr
    simp only [Sem.run] at hr
    split at hr
    · exact ih _ hr
    · exact ih _ hr
  | program _ ih => intro w x w1 hr; exact ih hr
  | mark _ _ ih => intro w x w1 hr; exact ih hr
  | halt hh => intro w x w1 hr; simp only [Sem.run] at hr; injection hr with hr _; subst hr; exact hh
  | dead hd => intro w x w1 hr; exact hd.2 _ _ _ hr
theorem Plain.post {s : Sem α} (h : Plain P Q s) : ∀ {w : World} {a : α} {w1 : World}, s.run P w = .ok a w1 → Q a := by
  induction h with
  | pure hq => intro w x w1 hr; simp only [Sem.run] at hr; injection hr with hr _; subst hr; exact hq
  | @load m a k _ ih =>
    intro w x w1 hr
    simp only [Sem.run] at hr
    split at hr
    · exact ih _ hr
    · split at hr
      · exact ih _ hr
      · cases hr
  | @store m a v k _ ih =>
    intro w x w1 hr
    have key : (∀ c, v ≠ .agg c) → (∀ c, v ≠ .tuple c) → Q x := by
      intro h1 h2
      rw [store_eq' h1 h2] at hr
      split at hr
      · split at hr
        · cases hr
        · exact ih hr
      · split at hr
        · exact ih hr
        · cases hr
    cases v with
    | agg c => simp only [Sem.run] at hr; cases hr
    | tuple c => simp only [Sem.run] at hr; cases hr
    | _ => exact key (fun _ h => by cases h) (fun _ h => by cases h)
  | new _ ih => intro w x w1 hr; exact ih _ hr
  | shape _ ih => intro w x w1 hr; exact ih _ hr
  | freeze _ ih => intro w x w1 hr; exact ih hr
  | frozen _ ih => intro w x w1 hr; exact ih _ hr
  | @getObj r k _ ih =>
    intro w x w1 hr
    simp only [Sem.run] at hr
    split at hr
    · cases hr
    · exact ih _ hr
    · cases hr
  | @setObj r o k _ ih =>
    intro w x w1 hr
    simp only [Sem.run] at hr
    split at hr
    · cases hr
    · exact ih hr
    · cases hr
  | @choose q k _ ih =>
    intro w x w1 hr
    simp only [Sem.run] at hr
    split at hr
    · exact ih _ hr
    · exact ih _ hr
  | program _ ih => intro w x w1 hr; exact ih hr
  | mark _ _ ih => intro w x w1 hr; exact ih hr
  | halt hh => intro w x w1 hr; cases hr
  | dead hd => intro w x w1 hr; exact absurd hr (hd.1 _ _ _)
end
end Go.Proofs.Ytgeoffpcmkofkaa
