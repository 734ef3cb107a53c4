/- Le; Ma; Mb: texts laid into one. -/
import Derived.Test.YtgeoffpcmkofkaaQav
/- Trees are built step by step. -/
namespace Go.Proofs.Ytgeoffpcmkofkaa
open Go Go.Conc

section
variable {P : Program} {S : Nat → Prop} {c : Nat} {outs : List Value} {O O' : Nat → Prop} {g g1 : Goroutine} {w w' w1 w2 : World} {Fin : Goroutine → World → Prop} {E : Nat → Option (List Value)} {R : Option Nat} {a a1 : Goroutine}
theorem own_same (h : w1.heap.size = w2.heap.size) : own O w2 w1 = O := by
  funext r
  unfold own
  refine propext ⟨fun k => k.elim id fun k => ?_, .inl⟩
  omega
theorem Keeps.sub (h : Keeps O' S w w2) (k : ∀ r, O r → O' r) : Keeps O S w w2 := ⟨h.size, fun r hr => h.block r (hr.imp (k r) id), h.os, h.output⟩
theorem DidO.sub (h : DidO O w2 w1) (k : ∀ r, O r → O' r) : DidO O' w2 w1 := ⟨h.os, h.tape, h.output, h.size, fun r hr hn => h.kept r hr fun ho => hn (k r ho)⟩
theorem EvW.sub {e : Event} (h : EvW O S e) (k : ∀ r, O r → O' r) : EvW O' S e := by
  rcases h with ⟨a, h1, h2⟩ | h | ⟨r, h1, h2⟩
  · exact .inl ⟨a, h1, h2.imp (k _) id⟩
  · exact .inr (.inl h)
  · exact .inr (.inr ⟨r, h1, k r h2⟩)
theorem own_sub (k : ∀ r, O r → O' r) : ∀ r, own O w2 w1 r → own O' w2 w1 r := fun r h => h.imp (k r) id
theorem KT.keeps (h : KT P S c outs O g w) : ∀ {w'}, Keeps O S w w' → KT P S c outs O g w' := by
  induction h with
  | own hr h1 h2 _ => exact fun k => .own hr (fun w2 k2 => h1 w2 (k.trans k2)) fun w2 g1 w1 es k2 hs => h2 w2 g1 w1 es (k.trans k2) hs
  | send hr h1 _ ih => exact fun k => .send hr (fun w2 k2 => h1 w2 (k.trans k2)) (ih k)
  | shut hr hw h1 h2 => exact fun k => .shut hr hw (fun w2 cap s r tm k2 hc => h1 w2 cap s r tm (k.trans k2) hc) h2
theorem MB.keeps (h : MB P S Fin E R O a w) : ∀ {w'}, Keeps O S w w' → MB P S Fin E R O a w' := by
  induction h with
  | own hr h1 h2 _ => exact fun k => .own hr (fun w2 k2 => h1 w2 (k.trans k2)) fun w2 g1 w1 es k2 hs => h2 w2 g1 w1 es (k.trans k2) hs
  | make hr h1 h2 _ => exact fun k => .make hr (fun w2 k2 => h1 w2 (k.trans k2)) fun w2 g1 w1 es k2 hs => h2 w2 g1 w1 es (k.trans k2) hs
  | spawn hr hr1 h1 h2 _ ih => exact fun k => .spawn hr hr1 (fun w2 k2 => h1 w2 (k.trans k2)) (fun w2 k2 => h2 w2 (k.trans k2)) (ih k)
  | recv hr h1 h2 _ ih => exact fun k => .recv hr (fun w2 k2 => h1 w2 (k.trans k2)) h2 (ih k)
  | last hr h1 h2 _ ih => exact fun k => .last hr (fun w2 k2 => h1 w2 (k.trans k2)) h2 (ih k)
  | stop h1 h2 => exact fun k => .stop h1 fun w2 k2 => h2 w2 (k.trans k2)
theorem KT.go1 (hr : g.status = .running) (h : ∀ w2, Keeps O S w w2 → ∃ g1 w1 es, stepG P false g w2 = .go g1 w1 es ∧ DidO O w2 w1 ∧ (∀ e ∈ es, EvW (Ytgeoffpcmkofkaa.own O w2 w1) S e) ∧ KT P S c outs (Ytgeoffpcmkofkaa.own O w2 w1) g1 w1) : KT P S c outs O g w := by
  refine .own hr (fun w2 k => ?_) fun w2 g1 w1 es k hs => ?_
  · obtain ⟨g1, w1, es, h1, h2, h3, _⟩ := h w2 k
    exact ⟨g1, w1, es, h1, h2, h3⟩
  · obtain ⟨g1', w1', es', h1, _, _, h4⟩ := h w2 k
    rw [h1] at hs
    injection hs with e1 e2 _
    subst e1 e2
    exact h4
theorem MB.go1 (hr : a.status = .running) (h : ∀ w2, Keeps O S w w2 → ∃ a1 w1 es, stepG P true a w2 = .go a1 w1 es ∧ a1.status = .running ∧ DidO O w2 w1 ∧ (∀ e ∈ es, EvW (Ytgeoffpcmkofkaa.own O w2 w1) S e) ∧ MB P S Fin E R (Ytgeoffpcmkofkaa.own O w2 w1) a1 w1) : MB P S Fin E R O a w := by
  refine .own hr (fun w2 k => ?_) fun w2 g1 w1 es k hs => ?_
  · obtain ⟨g1, w1, es, h1, h2, h3, h4, _⟩ := h w2 k
    exact ⟨g1, w1, es, h1, h2, h3, h4⟩
  · obtain ⟨g1', w1', es', h1, _, _, _, h4⟩ := h w2 k
    rw [h1] at hs
    injection hs with e1 e2 _
    subst e1 e2
    exact h4
theorem DidO.refl (O : Nat → Prop) (w : World) : DidO O w w := ⟨rfl, rfl, rfl, Nat.le_refl _, fun _ _ _ => rfl⟩
/-- A step that only reads. -/
theorem KT.look (hr : g.status = .running) (h : ∀ w2, Keeps O S w w2 → ∃ es, stepG P false g w2 = .go g1 w2 es ∧ ∀ e ∈ es, EvW O S e) (k : KT P S c outs O g1 w) : KT P S c outs O g w :=
  .go1 hr fun w2 k2 => by
    obtain ⟨es, h1, h2⟩ := h w2 k2
    exact ⟨g1, w2, es, h1, .refl _ _, by rw [own_same rfl]; exact h2, by rw [own_same rfl]; exact k.keeps k2⟩
theorem MB.look (hr : a.status = .running) (hr1 : a1.status = .running) (h : ∀ w2, Keeps O S w w2 → ∃ es, stepG P true a w2 = .go a1 w2 es ∧ ∀ e ∈ es, EvW O S e) (k : MB P S Fin E R O a1 w) : MB P S Fin E R O a w :=
  .go1 hr fun w2 k2 => by
    obtain ⟨es, h1, h2⟩ := h w2 k2
    exact ⟨a1, w2, es, h1, hr1, .refl _ _, by rw [own_same rfl]; exact h2, by rw [own_same rfl]; exact k.keeps k2⟩
/-- A step that does not look at memory. -/
theorem KT.ctl (hr : g.status = .running) (h : ∀ w, stepG P false g w = .go g1 w #[]) (k : KT P S c outs O g1 w) : KT P S c outs O g w := .look hr (fun w2 _ => ⟨#[], h w2, by simp⟩) k
theorem MB.ctl (hr : a.status = .running) (hr1 : a1.status = .running) (h : ∀ w, stepG P true a w = .go a1 w #[]) (k : MB P S Fin E R O a1 w) : MB P S Fin E R O a w := .look hr hr1 (fun w2 _ => ⟨#[], h w2, by simp⟩) k
/-- A call that runs in company. -/
theorem KT.of_runs {base : List Frame} {FinR : (Nat → Prop) → Frame → World → Prop} {fr : Frame} {cs : List Frame} (h : Runs P S base FinR O fr cs w) (hf : ∀ O fr w, fr.mode = .returning → (∀ w2, Keeps O S w w2 → FinR O fr w2) → KT P S c outs O (G fr base) w) : KT P S c outs O (G fr cs) w := by
  induction h with
  | done hm hfin => exact hf _ _ _ hm hfin
  | step h1 _ ih =>
    refine .go1 rfl fun w2 k => ?_
    obtain ⟨fr1, cs1, w1, es, k1, k2, k3, k4⟩ := h1 w2 k
    exact ⟨_, w1, es, k2 false .running none, k3, fun e he => (k4 e he).toW, ih w2 fr1 cs1 w1 es k k1⟩
/-- The return of such a call: the value is the same, whatever the others do meanwhile. -/
theorem fin_ret2 {L : Nat} {FS : FuncId → Prop} {Sh : Nat → Prop} (HB : BodiesOK L FS P) {f : FuncId} (hf : FS f) {Q : Value → World → Prop} {fr' : Frame} (h : ∀ w2, Keeps O S w w2 → FinV L FS Sh P S (PostV P f Q) O fr' w2) (hm : fr'.mode = .returning) :
    ∃ v', (∀ w2, Keeps O S w w2 → ∃ B v wl, Has Sh B O S ∧ WR L FS Sh B wl w2 ∧ VR L FS B v v' ∧ Q v wl) ∧ ∀ w2 main c rest, stepG P main (G fr' (c :: rest)) w2 = .go (G (c.finish v') rest) w2 #[] := by
  obtain ⟨fn, hfn⟩ := HB.there f hf
  obtain ⟨ts, hts⟩ := tmps_of fn.results.toList (HB.res f hf fn hfn)
  refine ⟨resOf (ts.map fun t => fr'.tmps.getD t undef), fun w2 k => ?_, fun w2 main c rest => ?_⟩
  · obtain ⟨B, fr, wl, h1, h2, h3, h4, fn', v, h5, h6, h7⟩ := h w2 k
    rw [hfn] at h5
    injection h5 with h5
    subst h5
    have e := results_tmps hts fr.tmps
    have hv : v = resOf (ts.map fun t => fr.tmps.getD t undef) := by
      rw [e] at h6
      simp only [pure, Sem.run] at h6
      injection h6 with h6 _
      exact h6.symm
    subst hv
    exact ⟨B, _, wl, h1, h3, resOf_rel h2.tmps ts, h7⟩
  · obtain ⟨B, fr, wl, h1, h2, h3, h4, _⟩ := h w (Keeps.refl _ _ _)
    have e' := results_tmps hts fr'.tmps
    refine step_ret hm ?_ ?_ (by rw [h2.fn, h4]; exact hfn) (by rw [e']; rfl)
    · rw [h2.eq]; exact h2.ft.defers
    · rw [h2.eq]; exact h2.ft.kind
theorem Keeps.cell {ad : Addr} (h : Keeps O S w w2) (hb : O ad.block ∨ S ad.block) : w2.cell? ad = w.cell? ad := by
  unfold World.cell?
  rw [h.block ad.block hb]
end
end Go.Proofs.Ytgeoffpcmkofkaa
/- Runs of one alone do not hang on where the tape stands. -/
namespace Go.Proofs.Ytgeoffpcmkofkaa
open Go Go.Conc

/-- The same memory, another tape. -/
def mv (w : World) (T : Nat → Question → Nat) (d : Nat) : World := { w with tape := T, drawn := d }
section
variable {P : Program} {α β : Type} {Q : α → Prop} {Q' : β → Prop}
/-- A run that neither waits nor speaks to the world outside. -/
inductive Plain (P : Program) {α : Type} (Q : α → Prop) : Sem α → Prop
  | pure {a : α} : Q a → Plain P Q (.pure a)
  | load {m : Mode} {a : Addr} {k : Value → Sem α} : (∀ v, Plain P Q (k v)) → Plain P Q (.load m a k)
  | store {m : Mode} {a : Addr} {v : Value} {k : Sem α} : Plain P Q k → Plain P Q (.store m a v k)
  | new {o : Obj} {k : Nat → Sem α} : (∀ r, Plain P Q (k r)) → Plain P Q (.new o k)
  | shape {r : Nat} {k : Option (TypeId × Nat) → Sem α} : (∀ s, Plain P Q (k s)) → Plain P Q (.shape r k)
  | freeze {a : Addr} {n : Nat} {k : Sem α} : Plain P Q k → Plain P Q (.freeze a n k)
  | frozen {a : Addr} {k : Bool → Sem α} : (∀ s, Plain P Q (k s)) → Plain P Q (.frozen a k)
  | getObj {r : Nat} {k : Obj → Sem α} : (∀ o, Plain P Q (k o)) → Plain P Q (.getObj r k)
  | setObj {r : Nat} {o : Obj} {k : Sem α} : Plain P Q k → Plain P Q (.setObj r o k)
  | choose {q : Question} {k : Nat → Sem α} : (∀ n, Plain P Q (k n)) → Plain P Q (.choose q k)
  | program {k : Program → Sem α} : Plain P Q (k P) → Plain P Q (.program k)
  | mark {m : Mark} {k : Sem α} : (m = .noRoom ∨ ∃ f, m = .extern f) → Plain P Q k → Plain P Q (.mark m k)
  | halt {h : Halt} : MildH h → Plain P Q (.halt h)
  | dead {s : Sem α} : Dead P s → Plain P Q s
theorem p_bind {s : Sem β} (h : Plain P Q' s) {f : β → Sem α} (hf : ∀ b, Q' b → Plain P Q (f b)) : Plain P Q (s.bind f) := by
  induction h with
  | pure hq => exact hf _ hq
  | load _ ih => exact .load ih
  | store _ ih => exact .store ih
  | new _ ih => exact .new ih
  | shape _ ih => exact .shape ih
  | freeze _ ih => exact .freeze ih
  | frozen _ ih => exact .frozen ih
  | getObj _ ih => exact .getObj ih
  | setObj _ ih => exact .setObj ih
  | choose _ ih => exact .choose ih
  | program _ ih => exact .program ih
  | mark hm _ ih => exact .mark hm ih
  | halt hh => exact .halt hh
  | dead hd => exact .dead (dead_bind hd)
theorem farLoad_mv {w : World} {T : Nat → Question → Nat} {d : Nat} (a : Addr) (b : Bool) : (mv w T d).farLoad P a b = w.farLoad P a b := rfl
theorem seen_low {w : World} {at_ a : Addr} {u : TypeId} {b : Bool} (h : ¬at_.block < w.heap.size) : ∀ r, w.seen P at_ u a b ≠ .ok r := by
  intro r hr
  have hn : w.heap[at_.block]? = none := Array.getElem?_eq_none (by omega)
  unfold World.seen at hr
  simp only [hn, bind, Except.bind] at hr
  (repeat' split at hr) <;> cases hr
theorem farStore_mv {w : World} {T : Nat → Question → Nat} {d : Nat} (a : Addr) (v : Value) (b : Bool) {w1 : World} {l : List Addr} (h : w.farStore P a v b = .ok (w1, l)) : (mv w T d).farStore P a v b = .ok (mv w1 T d, l) ∧ w1.drawn = w.drawn ∧ w1.tape = w.tape ∧ w.heap.size = w1.heap.size ∧ ∀ x ∈ l, x.block < w.heap.size := by
  unfold World.farStore at h ⊢
  rw [show (mv w T d).heap = w.heap from rfl]
  split at h
  · rename_i at_ u _
    unfold World.viewStore at h ⊢
    rw [show (mv w T d).seen P at_ u a b = w.seen P at_ u a b from rfl]
    cases ht : tight P P.depth u with
    | false => simp [ht, bind, Except.bind] at h
    | true =>
      cases hs : w.seen P at_ u a b with
      | error e => simp [ht, hs, bind, Except.bind] at h
      | ok r =>
        obtain ⟨c, e, fz, first, like, cells⟩ := r
        cases hb : v.bytes? with
        | none => simp [ht, hs, hb, bind, Except.bind] at h
        | some bytes =>
          by_cases hl : some bytes.length ≠ like.bytes?.map (·.length)
          · simp [ht, hs, hb, hl, bind, Except.bind] at h
          · simp only [ht, hs, hb, hl, bind, Except.bind, pure, Except.pure, Bool.not_true, Bool.false_eq_true, if_false] at h ⊢
            generalize @List.foldlM (Except String) _ _ _ _ c cells = F at h ⊢
            cases F with
            | error e => cases h
            | ok c' =>
              injection h with h
              injection h with h1 h2
              subst h1 h2
              refine ⟨rfl, rfl, rfl, by simp, fun x hx => ?_⟩
              obtain ⟨y, _, rfl⟩ := List.mem_map.1 hx
              show at_.block < w.heap.size
              apply Classical.byContradiction
              exact fun hn => seen_low hn _ hs
  · cases h
theorem farLoad_low {w : World} {a : Addr} {b : Bool} {v : Value} {l : List Addr} (h : w.farLoad P a b = .ok (v, l)) : ∀ x ∈ l, x.block < w.heap.size := by
  unfold World.farLoad at h
  split at h
  · rename_i at_ u _
    split at h
    · rename_i r hr
      injection h with h
      subst h
      unfold World.viewLoad at hr
      cases hs : w.seen P at_ u a b with
      | error e => simp [hs, bind, Except.bind] at hr
      | ok q =>
        have hlt : at_.block < w.heap.size := by
          apply Classical.byContradiction
          exact fun hn => seen_low hn _ hs
        obtain ⟨c, e, fz, first, like, cells⟩ := q
        simp only [hs, bind, Except.bind, pure, Except.pure] at hr
        split at hr
        · injection hr with hr
          injection hr with _ hr
          subst hr
          intro x hx
          obtain ⟨y, _, rfl⟩ := List.mem_map.1 hx
          exact hlt
        · cases hr
    · cases h
  · cases h
/-- What such a run lists. -/
def EvP (N : Nat) (e : Event) : Prop := EvL (fun _ => False) N e
theorem evP_cell (a : Addr) (wr s : Bool) {N : Nat} (h : a.block < N) : EvP N ⟨.cell a, wr, s⟩ := ⟨fun _ _ h => h.elim, by simp, by simp, h⟩
theorem evP_obj (r : Nat) (wr s : Bool) {N : Nat} (h : r < N) : EvP N ⟨.obj r, wr, s⟩ := by
  refine ⟨fun _ _ h => h.elim, by simp, by simp, ?_⟩
  cases wr <;> cases s <;> exact h
theorem evP_mono {N N' : Nat} (h : N ≤ N') {e : Event} (he : EvP N e) : EvP N' e := ⟨he.1, he.2.1, he.2.2.1, MemAct.low_mono h he.2.2.2⟩
structure RunMv (P : Program) (s : Sem α) (w : World) (es : Array Event) (a : α) (w1 : World) (es1 : Array Event) : Prop where
  mono : w.drawn ≤ w1.drawn
  same : w1.tape = w.tape
  size : w.heap.size ≤ w1.heap.size
  low : ∀ e ∈ es1, e ∈ es ∨ EvP w1.heap.size e
  run : ∀ T d, (∀ i q, i < w1.drawn - w.drawn → T (d + i) q = w.tape (w.drawn + i) q) → s.runT P (mv w T d) es = (.ok a (mv w1 T (d + (w1.drawn - w.drawn))), es1)
theorem store_eq {m : Mode} {a : Addr} {v : Value} {k : Sem α} (h1 : ∀ c, v ≠ .agg c) (h2 : ∀ c, v ≠ .tuple c) (w : World) (es : Array Event) : (Sem.store m a v k).runT P w es = match w.cell? a with
    | some _ => if w.frozen? a then (.halt (.unsupported (.unsafePointer "a write to bytes that a string shares")) w, es) else k.runT P (w.setCell a v) (es.push ⟨.cell a, true, m == .atomic⟩)
    | none => match w.farStore P a v (m == .atomic) with
      | .ok (w, touched) => k.runT P w (es ++ touched.toArray.map (⟨.cell ·, true, m == .atomic⟩))
      | .error h => (.halt h w, es) := by
  cases v <;> first | rfl | exact absurd rfl (h1 _) | exact absurd rfl (h2 _)
theorem store_eq' {m : Mode} {a : Addr} {v : Value} {k : Sem α} (h1 : ∀ c, v ≠ .agg c) (h2 : ∀ c, v ≠ .tuple c) (w : World) : (Sem.store m a v k).run P w = match w.cell? a with
    | some _ => if w.frozen? a then .halt (.unsupported (.unsafePointer "a write to bytes that a string shares")) w else k.run P (w.setCell a v)
    | none => match w.farStore P a v (m == .atomic) with
      | .ok (w, _) => k.run P w
      | .error h => .halt h w := by
  cases v <;> first | rfl | exact absurd rfl (h1 _) | exact absurd rfl (h2 _)
theorem freeze_mv (w : World) (T : Nat → Question → Nat) (d : Nat) (a : Addr) (n : Nat) : (mv w T d).freeze a n = mv (w.freeze a n) T d ∧ (w.freeze a n).drawn = w.drawn ∧ (w.freeze a n).tape = w.tape ∧ (w.freeze a n).heap.size = w.heap.size := by
  unfold World.freeze
  split
  · exact ⟨rfl, rfl, rfl, rfl⟩
  · exact ⟨rfl, rfl, rfl, by simp⟩
theorem low_push {es es1 : Array Event} {N : Nat} {ev : Event} (hev : EvP N ev) (h : ∀ e ∈ es1, e ∈ es.push ev ∨ EvP N e) : ∀ e ∈ es1, e ∈ es ∨ EvP N e := by
  intro e he
  rcases h e he with h | h
  · rcases Array.mem_push.1 h with h | h
    · exact .inl h
    · rw [h]; exact .inr hev
  · exact .inr h
theorem low_app {es es1 u : Array Event} {N : Nat} (hev : ∀ e ∈ u, EvP N e) (h : ∀ e ∈ es1, e ∈ es ++ u ∨ EvP N e) : ∀ e ∈ es1, e ∈ es ∨ EvP N e := by
  intro e he
  rcases h e he with h | h
  · rcases Array.mem_append.1 h with h | h
    · exact .inl h
    · exact .inr (hev e h)
  · exact .inr h
theorem Plain.run_mv {s : Sem α} (h : Plain P Q s) : ∀ {w : World} {es : Array Event} {a : α} {w1 : World} {es1 : Array Event}, s.runT P w es = (.ok a w1, es1) → RunMv P s w es a w1 es1 := by
  induction h with
  | pure _ =>
    intro w es a w1 es1 hr
    simp only [Sem.runT] at hr
    cases hr
    refine ⟨Nat.le_refl _, rfl, Nat.le_refl _, fun e he => .inl he, fun T d _ => ?_⟩
    simp only [Sem.runT, Nat.sub_self, Nat.add_zero]
  | @load m a k _ ih =>
    intro w es x w1 es1 hr
    simp only [Sem.runT] at hr
    cases hc : w.cell? a with
    | some v =>
      rw [hc] at hr
      have g := ih v hr
      refine ⟨g.mono, g.same, g.size, low_push (evP_cell _ _ _ (Nat.lt_of_lt_of_le (World.block_lt_of_cell? w a hc) g.size)) g.low, fun T d hT => ?_⟩
      simp only [Sem.runT, show (mv w T d).cell? a = some v from hc]
      exact g.run T d hT
    | none =>
      rw [hc] at hr
      simp only at hr
      cases hf : w.farLoad P a (m == .atomic) with
      | error h => rw [hf] at hr; cases hr
      | ok r =>
        obtain ⟨v, l⟩ := r
        rw [hf] at hr
        have g := ih v hr
        refine ⟨g.mono, g.same, g.size, low_app (fun e he => ?_) g.low, fun T d hT => ?_⟩
        · obtain ⟨ad, had, rfl⟩ := Array.mem_map.1 he
          exact evP_cell _ _ _ (Nat.lt_of_lt_of_le (farLoad_low hf ad (by simpa using had)) g.size)
        · simp only [Sem.runT, show (mv w T d).cell? a = none from hc, farLoad_mv, hf]
          exact g.run T d hT
  | @store m a v k _ ih =>
    intro w es x w1 es1 hr
    have key : (∀ c, v ≠ .agg c) → (∀ c, v ≠ .tuple c) → RunMv P (.store m a v k) w es x w1 es1 := by
      intro h1 h2
      rw [store_eq h1 h2] at hr
      cases hc : w.cell? a with
      | some u =>
        rw [hc] at hr
        simp only at hr
        by_cases hf : w.frozen? a = true
        · rw [if_pos hf] at hr; cases hr
        · rw [if_neg hf] at hr
          have g := ih hr
          have hs : w.heap.size ≤ w1.heap.size := by have := g.size; unfold World.setCell at this; simpa using this
          refine ⟨g.mono, g.same, hs, low_push (evP_cell _ _ _ (Nat.lt_of_lt_of_le (World.block_lt_of_cell? w a hc) hs)) g.low, fun T d hT => ?_⟩
          rw [store_eq h1 h2]
          simp only [show (mv w T d).cell? a = some u from hc, show (mv w T d).frozen? a = w.frozen? a from rfl]
          rw [if_neg hf]
          exact g.run T d hT
      | none =>
        rw [hc] at hr
        simp only at hr
        cases hf : w.farStore P a v (m == .atomic) with
        | error h => rw [hf] at hr; cases hr
        | ok r =>
          obtain ⟨w2, l⟩ := r
          rw [hf] at hr
          have g := ih hr
          obtain ⟨_, e1, e2, e3, e4⟩ := farStore_mv (T := w.tape) (d := 0) a v _ hf
          have hs : w.heap.size ≤ w1.heap.size := by have := g.size; omega
          refine ⟨by have := g.mono; omega, by rw [g.same, e2], hs, low_app (fun e he => ?_) g.low, fun T d hT => ?_⟩
          · obtain ⟨ad, had, rfl⟩ := Array.mem_map.1 he
            exact evP_cell _ _ _ (Nat.lt_of_lt_of_le (e4 ad (by simpa using had)) hs)
          · rw [store_eq h1 h2]
            simp only [show (mv w T d).cell? a = none from hc, (farStore_mv (T := T) (d := d) a v _ hf).1]
            rw [← e1]
            exact g.run T d fun i q hi => by rw [e1, e2]; exact hT i q (by omega)
    cases v with
    | agg c => simp [Sem.runT] at hr
    | tuple c => simp [Sem.runT] at hr
    | _ => exact key (fun _ h => by cases h) (fun _ h => by cases h)
  | @new o k _ ih =>
    intro w es x w1 es1 hr
    simp only [Sem.runT] at hr
    have g := ih _ hr
    exact ⟨g.mono, g.same, Nat.le_trans (by simp) g.size, g.low, fun T d hT => g.run T d hT⟩
  | shape _ ih =>
    intro w es x w1 es1 hr
    simp only [Sem.runT] at hr
    have g := ih _ hr
    exact ⟨g.mono, g.same, g.size, g.low, fun T d hT => g.run T d hT⟩
  | @freeze a n k _ ih =>
    intro w es x w1 es1 hr
    simp only [Sem.runT] at hr
    have g := ih hr
    obtain ⟨_, e1, e2, e3⟩ := freeze_mv w w.tape 0 a n
    refine ⟨by have := g.mono; omega, by rw [g.same, e2], by have := g.size; omega, g.low, fun T d hT => ?_⟩
    simp only [Sem.runT, (freeze_mv w T d a n).1]
    rw [← e1]
    exact g.run T d fun i q hi => by rw [e1, e2]; exact hT i q (by omega)
  | frozen _ ih =>
    intro w es x w1 es1 hr
    simp only [Sem.runT] at hr
    have g := ih _ hr
    exact ⟨g.mono, g.same, g.size, g.low, fun T d hT => g.run T d hT⟩
  | @getObj r k _ ih =>
    intro w es x w1 es1 hr
    simp only [Sem.runT] at hr
    cases hc : w.heap[r]? with
    | none => rw [hc] at hr; cases hr
    | some o =>
      have hlt := (Array.getElem?_eq_some_iff.1 hc).1
      have key : (∀ c e f, o ≠ .cells c e f) → RunMv P (.getObj r k) w es x w1 es1 := by
        intro hno
        have e : ∀ (w : World) (es : Array Event), w.heap[r]? = some o → (Sem.getObj r k).runT P w es = (k o).runT P w (es.push ⟨.obj r, false, o.isChan⟩) := by
          intro w es hc
          simp only [Sem.runT, hc]
        have hr' : (k o).runT P w (es.push ⟨.obj r, false, o.isChan⟩) = (.ok x w1, es1) := by
          rw [← e w es hc]
          simp only [Sem.runT]
          exact hr
        have g := ih o hr'
        refine ⟨g.mono, g.same, g.size, low_push (evP_obj _ _ _ (Nat.lt_of_lt_of_le hlt g.size)) g.low, fun T d hT => ?_⟩
        rw [e (mv w T d) es hc]
        exact g.run T d hT
      cases o with
      | cells c e f => rw [hc] at hr; cases hr
      | _ => exact key (fun _ _ _ h => by cases h)
  | @setObj r o k _ ih =>
    intro w es x w1 es1 hr
    simp only [Sem.runT] at hr
    cases hc : w.heap[r]? with
    | none => rw [hc] at hr; cases hr
    | some o' =>
      have hlt := (Array.getElem?_eq_some_iff.1 hc).1
      have key : (∀ c e f, o' ≠ .cells c e f) → RunMv P (.setObj r o k) w es x w1 es1 := by
        intro hno
        have e : ∀ (w : World) (es : Array Event), w.heap[r]? = some o' → (Sem.setObj r o k).runT P w es = k.runT P { w with heap := w.heap.setIfInBounds r o } (es.push ⟨.obj r, true, o.isChan⟩) := by
          intro w es hc
          simp only [Sem.runT, hc]
        have hr' : k.runT P { w with heap := w.heap.setIfInBounds r o } (es.push ⟨.obj r, true, o.isChan⟩) = (.ok x w1, es1) := by
          rw [← e w es hc]
          simp only [Sem.runT]
          exact hr
        have g := ih hr'
        have hs : w.heap.size ≤ w1.heap.size := by have := g.size; simpa using this
        refine ⟨g.mono, g.same, hs, low_push (evP_obj _ _ _ (Nat.lt_of_lt_of_le hlt hs)) g.low, fun T d hT => ?_⟩
        rw [e (mv w T d) es hc]
        exact g.run T d hT
      cases o' with
      | cells c e f => rw [hc] at hr; cases hr
      | _ => exact key (fun _ _ _ h => by cases h)
  | @choose q k _ ih =>
    intro w es x w1 es1 hr
    simp only [Sem.runT] at hr
    by_cases hq : q.forced = true
    · rw [if_pos hq] at hr
      have g := ih _ hr
      refine ⟨g.mono, g.same, g.size, g.low, fun T d hT => ?_⟩
      simp only [Sem.runT, if_pos hq]
      exact g.run T d hT
    · rw [if_neg hq] at hr
      have g := ih _ hr
      have hm : w.drawn + 1 ≤ w1.drawn := g.mono
      refine ⟨by omega, g.same, g.size, g.low, fun T d hT => ?_⟩
      simp only [Sem.runT, if_neg hq]
      have e : (mv w T d).tape (mv w T d).drawn q = w.tape w.drawn q := by
        have := hT 0 q (by omega)
        show T d q = w.tape w.drawn q
        simpa using this
      rw [e]
      have := g.run T (d + 1) fun i q hi => by
        have := hT (i + 1) q (by simp only at hi; omega)
        rw [show d + 1 + i = d + (i + 1) by omega, this]
        simp only
        rw [show w.drawn + 1 + i = w.drawn + (i + 1) by omega]
      simp only at this
      rw [show d + 1 + (w1.drawn - (w.drawn + 1)) = d + (w1.drawn - w.drawn) by omega] at this
      exact this
  | program _ ih =>
    intro w es x w1 es1 hr
    simp only [Sem.runT] at hr
    have g := ih hr
    exact ⟨g.mono, g.same, g.size, g.low, fun T d hT => g.run T d hT⟩
  | @mark m k hm _ ih =>
    intro w es x w1 es1 hr
    simp only [Sem.runT] at hr
    have g := ih hr
    refine ⟨g.mono, g.same, g.size, low_push ?_ g.low, fun T d hT => g.run T d hT⟩
    rcases hm with rfl | ⟨f, rfl⟩ <;> exact ⟨fun _ _ h => h.elim, by simp, by simp, trivial⟩
  | halt _ =>
    intro w es x w1 es1 hr
    simp only [Sem.runT] at hr
    cases hr
  | @dead s hd =>
    intro w es x w1 es1 hr
    have := Sem.runT_fst P s w es
    rw [hr] at this
    exact absurd this.symm (hd.1 _ _ _)
theorem Plain.mild {s : Sem α} (h : Plain P Q s) : ∀ {w : World} {x : Halt} {w1 : World}, s.run P w = .halt x w1 → MildH x := by
  induction h with
  | pure _ => intro w x w1 hr; cases hr
  | @load m a k _ ih =>
    intro w x w1 hr
    simp only [Sem.run] at hr
    split at hr
    · exact ih _ hr
    · split at hr
      · exact ih _ hr
      · rename_i hf
        injection hr with hr _
        subst hr
        exact farLoad_mild hf
  | @store m a v k _ ih =>
    intro w x w1 hr
    have key : (∀ c, v ≠ .agg c) → (∀ c, v ≠ .tuple c) → MildH x := by
      intro h1 h2
      rw [store_eq' h1 h2] at hr
      split at hr
      · split at hr
        · injection hr with hr _; subst hr; trivial
        · exact ih hr
      · split at hr
        · exact ih hr
        · rename_i hf
          injection hr with hr _
          subst hr
          exact farStore_mild hf
    cases v with
    | agg c => simp only [Sem.run] at hr; injection hr with hr _; subst hr; trivial
    | tuple c => simp only [Sem.run] at hr; injection hr with hr _; subst hr; trivial
    | _ => exact key (fun _ h => by cases h) (fun _ h => by cases h)
  | new _ ih => intro w x w1 hr; exact ih _ hr
  | shape _ ih => intro w x w1 hr; exact ih _ hr
  | freeze _ ih => intro w x w1 hr; exact ih hr
  | frozen _ ih => intro w x w1 hr; exact ih _ hr
  | @getObj r k _ ih =>
    intro w x w1 hr
    simp only [Sem.run] at hr
    split at hr
    · injection hr with hr _; subst hr; trivial
    · exact ih _ hr
    · injection hr with hr _; subst hr; trivial
  | @setObj r o k _ ih =>
    intro w x w1 hr
    simp only [Sem.run] at hr
    split at hr
    · injection hr with hr _; subst hr; trivial
    · exact ih hr
    · injection hr with hr _; subst hr; trivial
  | @choose q k _ ih =>
    intro w x w1 hr
    simp only [Sem.run] at hr
    split at hr
    · exact ih _ hr
    · exact ih _ hr
  | program _ ih => intro w x w1 hr; exact ih hr
  | mark _ _ ih => intro w x w1 hr; exact ih hr
  | halt hh => intro w x w1 hr; simp only [Sem.run] at hr; injection hr with hr _; subst hr; exact hh
  | dead hd => intro w x w1 hr; exact hd.2 _ _ _ hr
theorem Plain.post {s : Sem α} (h : Plain P Q s) : ∀ {w : World} {a : α} {w1 : World}, s.run P w = .ok a w1 → Q a := by
  induction h with
  | pure hq => intro w x w1 hr; simp only [Sem.run] at hr; injection hr with hr _; subst hr; exact hq
  | @load m a k _ ih =>
    intro w x w1 hr
    simp only [Sem.run] at hr
    split at hr
    · exact ih _ hr
    · split at hr
      · exact ih _ hr
      · cases hr
  | @store m a v k _ ih =>
    intro w x w1 hr
    have key : (∀ c, v ≠ .agg c) → (∀ c, v ≠ .tuple c) → Q x := by
      intro h1 h2
      rw [store_eq' h1 h2] at hr
      split at hr
      · split at hr
        · cases hr
        · exact ih hr
      · split at hr
        · exact ih hr
        · cases hr
    cases v with
    | agg c => simp only [Sem.run] at hr; cases hr
    | tuple c => simp only [Sem.run] at hr; cases hr
    | _ => exact key (fun _ h => by cases h) (fun _ h => by cases h)
  | new _ ih => intro w x w1 hr; exact ih _ hr
  | shape _ ih => intro w x w1 hr; exact ih _ hr
  | freeze _ ih => intro w x w1 hr; exact ih hr
  | frozen _ ih => intro w x w1 hr; exact ih _ hr
  | @getObj r k _ ih =>
    intro w x w1 hr
    simp only [Sem.run] at hr
    split at hr
    · cases hr
    · exact ih _ hr
    · cases hr
  | @setObj r o k _ ih =>
    intro w x w1 hr
    simp only [Sem.run] at hr
    split at hr
    · cases hr
    · exact ih hr
    · cases hr
  | @choose q k _ ih =>
    intro w x w1 hr
    simp only [Sem.run] at hr
    split at hr
    · exact ih _ hr
    · exact ih _ hr
  | program _ ih => intro w x w1 hr; exact ih hr
  | mark _ _ ih => intro w x w1 hr; exact ih hr
  | halt hh => intro w x w1 hr; cases hr
  | dead hd => intro w x w1 hr; exact absurd hr (hd.1 _ _ _)
end
end Go.Proofs.Ytgeoffpcmkofkaa
/- Operations of one alone: none waits, none speaks to the world outside. -/
namespace Go.Proofs.Ytgeoffpcmkofkaa
open Go Go.Conc

section
variable {P : Program} {α β : Type}
abbrev PT (P : Program) {α : Type} (s : Sem α) : Prop := Plain P (fun _ => True) s
theorem p_pure {a : α} {Q : α → Prop} (h : Q a) : Plain P Q (pure a : Sem α) := .pure h
theorem p_bnd {s : Sem β} {f : β → Sem α} {Q : α → Prop} (h : PT P s) (hf : ∀ b, Plain P Q (f b)) : Plain P Q (s >>= f) := p_bind h fun b _ => hf b
theorem p_ite {c : Prop} [Decidable c] {a b : Sem α} {Q : α → Prop} (h1 : Plain P Q a) (h2 : Plain P Q b) : Plain P Q (if c then a else b) := by
  split
  · exact h1
  · exact h2
theorem pt_stuck {Q : α → Prop} (s : String) : Plain P Q (stuck s : Sem α) := .dead (dead_stuck _)
theorem pt_unsupported {Q : α → Prop} (s : Unsupported) : Plain P Q (unsupported s : Sem α) := .dead (dead_unsupported _)
theorem pt_rp {Q : α → Prop} (e : RuntimeError) : Plain P Q (runtimePanic e : Sem α) := .dead (dead_runtimePanic _)
theorem pt_bp {Q : α → Prop} (k : IntKind) (x y : Int) (c : BoundsCode) : Plain P Q (boundsPanic k x y c : Sem α) := by
  unfold boundsPanic
  dsimp only
  split
  · exact p_bnd (p_bnd (.choose fun _ => .pure trivial) fun _ => .pure trivial) fun _ => pt_rp _
  · exact p_bnd (.pure trivial) fun _ => pt_rp _
theorem pt_load (a : Addr) (m : Mode) : PT P (load a m) := .load fun _ => .pure trivial
theorem pt_store (a : Addr) (v : Value) (m : Mode) : PT P (store a v m) := .store (.pure trivial)
theorem pt_new (o : Obj) : PT P (newObj o) := .new fun _ => .pure trivial
theorem pt_program : PT P program := .program (.pure trivial)
theorem pt_choose (q : Question) : PT P (choose q) := .choose fun _ => .pure trivial
theorem pt_shape (r : Nat) : PT P (shape r) := .shape fun _ => .pure trivial
theorem pt_frozen (a : Addr) : PT P (frozen a) := .frozen fun _ => .pure trivial
theorem pt_get (r : Nat) : PT P (getObj r) := .getObj fun _ => .pure trivial
theorem pt_set (r : Nat) (o : Obj) : PT P (setObj r o) := .setObj (.pure trivial)
theorem pt_room (n : Nat) : PT P (askRoom n) := by
  unfold askRoom
  split
  · exact .mark (.inl rfl) (.pure trivial)
  · exact .pure trivial
theorem pt_typeInfo (t : TypeId) : PT P (typeInfo t) := by
  unfold typeInfo
  refine p_bnd pt_program fun p => ?_
  split
  · exact .pure trivial
  · exact pt_stuck _
theorem pt_underlying (t : TypeId) : PT P (underlying t) := by
  unfold underlying
  refine p_bnd pt_program fun p => ?_
  split
  · exact .pure trivial
  · exact pt_stuck _
theorem pt_sizeOf (t : TypeId) : PT P (sizeOf t) := p_bnd (pt_typeInfo t) fun _ => .pure trivial
theorem pt_zero (t : TypeId) : PT P (zeroValue t) := by
  unfold zeroValue
  refine p_bnd (pt_typeInfo t) fun p => ?_
  split
  · exact .pure trivial
  · exact pt_unsupported _
theorem pt_isAgg (t : TypeId) : PT P (isAgg t) := by
  unfold isAgg
  refine p_bnd (pt_underlying t) fun p => ?_
  split <;> exact .pure trivial
theorem pt_asIntOf (v : Value) : PT P (asIntOf v) := by
  unfold asIntOf
  split
  · exact .pure trivial
  · exact pt_unsupported _
  · exact pt_stuck _
theorem pt_asInt (v : Value) : PT P (asInt v) := p_bnd (pt_asIntOf v) fun _ => .pure trivial
theorem pt_asBool (v : Value) : PT P (asBool v) := by
  unfold asBool
  split
  · exact .pure trivial
  · exact pt_stuck _
theorem pt_asAddr (v : Value) : PT P (asAddr v) := by
  unfold asAddr
  split
  · exact .pure trivial
  · exact pt_rp _
  · exact pt_stuck _
theorem pt_loadCellsFrom (a : Addr) : ∀ (n i : Nat) (acc : Array Value), PT P (loadCellsFrom a i n acc)
  | 0, _, _ => .pure trivial
  | n + 1, i, _ => p_bnd (pt_load _ _) fun _ => pt_loadCellsFrom a n (i + 1) _
theorem pt_loadCells (a : Addr) (n : Nat) : PT P (loadCells a n) := pt_loadCellsFrom a n 0 _
theorem pt_storeCells (a : Addr) : ∀ (vs : List Value) (i : Nat), PT P (storeCells a vs i)
  | [], _ => .pure trivial
  | _ :: vs, i => p_bnd (pt_store _ _ _) fun _ => pt_storeCells a vs (i + 1)
theorem pt_newRow (e : TypeId) (c : Array Value) : PT P (newRow e c) := p_bnd (pt_new _) fun _ => .pure trivial
theorem pt_forIn {σ γ : Type} (f : γ → σ → Sem (ForInStep σ)) (h : ∀ a b, PT P (f a b)) : ∀ (l : List γ) (s : σ), PT P (forIn l s f)
  | [], s => .pure trivial
  | a :: l, s => by
    rw [List.forIn_cons]
    refine p_bnd (h a s) fun r => ?_
    cases r with
    | done s => exact .pure trivial
    | yield s => exact pt_forIn f h l s
theorem pt_forInA {σ γ : Type} (f : γ → σ → Sem (ForInStep σ)) (h : ∀ a b, PT P (f a b)) (l : Array γ) (s : σ) : PT P (forIn l s f) := by
  rw [← Array.forIn_toList]
  exact pt_forIn f h _ _
theorem pt_forInR {σ : Type} (f : Nat → σ → Sem (ForInStep σ)) (h : ∀ a b, PT P (f a b)) (n : Nat) (s : σ) : PT P (forIn [0:n] s f) := by
  rw [Std.Legacy.Range.forIn_eq_forIn_range']
  exact pt_forIn f h _ _
theorem pt_loadVar (t : TypeId) (a : Addr) : PT P (loadVar t a) := by
  unfold loadVar
  repeat' (first | with_reducible assumption | with_reducible exact p_pure trivial | with_reducible exact pt_stuck _ | with_reducible exact pt_unsupported _ | with_reducible exact pt_rp _ | with_reducible exact pt_bp _ _ _ _ | with_reducible exact pt_load _ _ | with_reducible exact pt_store _ _ _ | with_reducible exact pt_new _ | with_reducible exact pt_program | with_reducible exact pt_choose _ | with_reducible exact pt_shape _ | with_reducible exact pt_frozen _ | with_reducible exact pt_get _ | with_reducible exact pt_set _ _ | with_reducible exact pt_room _ | with_reducible exact pt_typeInfo _ | with_reducible exact pt_underlying _ | with_reducible exact pt_sizeOf _ | with_reducible exact pt_zero _ | with_reducible exact pt_isAgg _ | with_reducible exact pt_asIntOf _ | with_reducible exact pt_asInt _ | with_reducible exact pt_asBool _ | with_reducible exact pt_asAddr _ | with_reducible exact pt_loadCells _ _ | with_reducible exact pt_storeCells _ _ _ | with_reducible exact pt_newRow _ _ | (with_reducible refine p_bnd ?_ fun _ => ?_) | (with_reducible refine p_ite ?_ ?_) | (dsimp only) | split)
theorem pt_storeVar (t : TypeId) (a : Addr) (v : Value) : PT P (storeVar t a v) := by
  unfold storeVar
  repeat' (first | with_reducible assumption | with_reducible exact p_pure trivial | with_reducible exact pt_stuck _ | with_reducible exact pt_unsupported _ | with_reducible exact pt_rp _ | with_reducible exact pt_bp _ _ _ _ | with_reducible exact pt_load _ _ | with_reducible exact pt_store _ _ _ | with_reducible exact pt_new _ | with_reducible exact pt_program | with_reducible exact pt_choose _ | with_reducible exact pt_shape _ | with_reducible exact pt_frozen _ | with_reducible exact pt_get _ | with_reducible exact pt_set _ _ | with_reducible exact pt_room _ | with_reducible exact pt_typeInfo _ | with_reducible exact pt_underlying _ | with_reducible exact pt_sizeOf _ | with_reducible exact pt_zero _ | with_reducible exact pt_isAgg _ | with_reducible exact pt_asIntOf _ | with_reducible exact pt_asInt _ | with_reducible exact pt_asBool _ | with_reducible exact pt_asAddr _ | with_reducible exact pt_loadCells _ _ | with_reducible exact pt_storeCells _ _ _ | with_reducible exact pt_newRow _ _ | (with_reducible refine p_bnd ?_ fun _ => ?_) | (with_reducible refine p_ite ?_ ?_) | (dsimp only) | split)
theorem pt_part (t : TypeId) (c : Array Value) (n : Nat) : PT P (part t c n) := by
  unfold part
  repeat' (first | with_reducible assumption | with_reducible exact p_pure trivial | with_reducible exact pt_stuck _ | with_reducible exact pt_unsupported _ | with_reducible exact pt_rp _ | with_reducible exact pt_bp _ _ _ _ | with_reducible exact pt_load _ _ | with_reducible exact pt_store _ _ _ | with_reducible exact pt_new _ | with_reducible exact pt_program | with_reducible exact pt_choose _ | with_reducible exact pt_shape _ | with_reducible exact pt_frozen _ | with_reducible exact pt_get _ | with_reducible exact pt_set _ _ | with_reducible exact pt_room _ | with_reducible exact pt_typeInfo _ | with_reducible exact pt_underlying _ | with_reducible exact pt_sizeOf _ | with_reducible exact pt_zero _ | with_reducible exact pt_isAgg _ | with_reducible exact pt_asIntOf _ | with_reducible exact pt_asInt _ | with_reducible exact pt_asBool _ | with_reducible exact pt_asAddr _ | with_reducible exact pt_loadCells _ _ | with_reducible exact pt_storeCells _ _ _ | with_reducible exact pt_newRow _ _ | (with_reducible refine p_bnd ?_ fun _ => ?_) | (with_reducible refine p_ite ?_ ?_) | (dsimp only) | split)
theorem pt_sure (v : Value) : PT P (Instr.sureAddr v) := by
  unfold Instr.sureAddr
  repeat' (first | with_reducible assumption | with_reducible exact p_pure trivial | with_reducible exact pt_stuck _ | with_reducible exact pt_unsupported _ | with_reducible exact pt_rp _ | with_reducible exact pt_bp _ _ _ _ | with_reducible exact pt_load _ _ | with_reducible exact pt_store _ _ _ | with_reducible exact pt_new _ | with_reducible exact pt_program | with_reducible exact pt_choose _ | with_reducible exact pt_shape _ | with_reducible exact pt_frozen _ | with_reducible exact pt_get _ | with_reducible exact pt_set _ _ | with_reducible exact pt_room _ | with_reducible exact pt_typeInfo _ | with_reducible exact pt_underlying _ | with_reducible exact pt_sizeOf _ | with_reducible exact pt_zero _ | with_reducible exact pt_isAgg _ | with_reducible exact pt_asIntOf _ | with_reducible exact pt_asInt _ | with_reducible exact pt_asBool _ | with_reducible exact pt_asAddr _ | with_reducible exact pt_loadCells _ _ | with_reducible exact pt_storeCells _ _ _ | with_reducible exact pt_newRow _ _ | (with_reducible refine p_bnd ?_ fun _ => ?_) | (with_reducible refine p_ite ?_ ?_) | (dsimp only) | split)
theorem pt_alloc (e : TypeId) (h : Bool) (v : Value) : PT P (Instr.alloc e h v) := by
  unfold Instr.alloc newVar
  repeat' (first | with_reducible assumption | with_reducible exact p_pure trivial | with_reducible exact pt_stuck _ | with_reducible exact pt_unsupported _ | with_reducible exact pt_rp _ | with_reducible exact pt_bp _ _ _ _ | with_reducible exact pt_load _ _ | with_reducible exact pt_store _ _ _ | with_reducible exact pt_new _ | with_reducible exact pt_program | with_reducible exact pt_choose _ | with_reducible exact pt_shape _ | with_reducible exact pt_frozen _ | with_reducible exact pt_get _ | with_reducible exact pt_set _ _ | with_reducible exact pt_room _ | with_reducible exact pt_typeInfo _ | with_reducible exact pt_underlying _ | with_reducible exact pt_sizeOf _ | with_reducible exact pt_zero _ | with_reducible exact pt_isAgg _ | with_reducible exact pt_asIntOf _ | with_reducible exact pt_asInt _ | with_reducible exact pt_asBool _ | with_reducible exact pt_asAddr _ | with_reducible exact pt_loadCells _ _ | with_reducible exact pt_storeCells _ _ _ | with_reducible exact pt_newRow _ _ | with_reducible exact pt_loadVar _ _ | with_reducible exact pt_storeVar _ _ _ | with_reducible exact pt_part _ _ _ | with_reducible exact pt_sure _ | (with_reducible refine p_bnd ?_ fun _ => ?_) | (with_reducible refine p_ite ?_ ?_) | (dsimp only) | split)
theorem pt_box (e : TypeId) (v : Value) : PT P (Instr.box e v) := p_bnd (pt_newRow _ _) fun _ => .pure trivial
theorem pt_buildSlice (e : TypeId) (n : Nat) (v : Array (Nat × Value)) : PT P (Instr.buildSlice e n v) := by
  unfold Instr.buildSlice
  repeat' (first | with_reducible assumption | with_reducible exact p_pure trivial | with_reducible exact pt_stuck _ | with_reducible exact pt_unsupported _ | with_reducible exact pt_rp _ | with_reducible exact pt_bp _ _ _ _ | with_reducible exact pt_load _ _ | with_reducible exact pt_store _ _ _ | with_reducible exact pt_new _ | with_reducible exact pt_program | with_reducible exact pt_choose _ | with_reducible exact pt_shape _ | with_reducible exact pt_frozen _ | with_reducible exact pt_get _ | with_reducible exact pt_set _ _ | with_reducible exact pt_room _ | with_reducible exact pt_typeInfo _ | with_reducible exact pt_underlying _ | with_reducible exact pt_sizeOf _ | with_reducible exact pt_zero _ | with_reducible exact pt_isAgg _ | with_reducible exact pt_asIntOf _ | with_reducible exact pt_asInt _ | with_reducible exact pt_asBool _ | with_reducible exact pt_asAddr _ | with_reducible exact pt_loadCells _ _ | with_reducible exact pt_storeCells _ _ _ | with_reducible exact pt_newRow _ _ | with_reducible exact pt_loadVar _ _ | with_reducible exact pt_storeVar _ _ _ | with_reducible exact pt_part _ _ _ | with_reducible exact pt_sure _ | (with_reducible refine p_bnd ?_ fun _ => ?_) | (with_reducible refine p_ite ?_ ?_) | (dsimp only) | split)
theorem pt_loadAt (e : TypeId) (v : Value) : PT P (Instr.loadAt e v) := by
  unfold Instr.loadAt
  repeat' (first | with_reducible assumption | with_reducible exact p_pure trivial | with_reducible exact pt_stuck _ | with_reducible exact pt_unsupported _ | with_reducible exact pt_rp _ | with_reducible exact pt_bp _ _ _ _ | with_reducible exact pt_load _ _ | with_reducible exact pt_store _ _ _ | with_reducible exact pt_new _ | with_reducible exact pt_program | with_reducible exact pt_choose _ | with_reducible exact pt_shape _ | with_reducible exact pt_frozen _ | with_reducible exact pt_get _ | with_reducible exact pt_set _ _ | with_reducible exact pt_room _ | with_reducible exact pt_typeInfo _ | with_reducible exact pt_underlying _ | with_reducible exact pt_sizeOf _ | with_reducible exact pt_zero _ | with_reducible exact pt_isAgg _ | with_reducible exact pt_asIntOf _ | with_reducible exact pt_asInt _ | with_reducible exact pt_asBool _ | with_reducible exact pt_asAddr _ | with_reducible exact pt_loadCells _ _ | with_reducible exact pt_storeCells _ _ _ | with_reducible exact pt_newRow _ _ | with_reducible exact pt_loadVar _ _ | with_reducible exact pt_storeVar _ _ _ | with_reducible exact pt_part _ _ _ | with_reducible exact pt_sure _ | (with_reducible refine p_bnd ?_ fun _ => ?_) | (with_reducible refine p_ite ?_ ?_) | (dsimp only) | split)
theorem pt_storeAt (e : TypeId) (v x : Value) : PT P (Instr.storeAt e v x) := by
  unfold Instr.storeAt
  repeat' (first | with_reducible assumption | with_reducible exact p_pure trivial | with_reducible exact pt_stuck _ | with_reducible exact pt_unsupported _ | with_reducible exact pt_rp _ | with_reducible exact pt_bp _ _ _ _ | with_reducible exact pt_load _ _ | with_reducible exact pt_store _ _ _ | with_reducible exact pt_new _ | with_reducible exact pt_program | with_reducible exact pt_choose _ | with_reducible exact pt_shape _ | with_reducible exact pt_frozen _ | with_reducible exact pt_get _ | with_reducible exact pt_set _ _ | with_reducible exact pt_room _ | with_reducible exact pt_typeInfo _ | with_reducible exact pt_underlying _ | with_reducible exact pt_sizeOf _ | with_reducible exact pt_zero _ | with_reducible exact pt_isAgg _ | with_reducible exact pt_asIntOf _ | with_reducible exact pt_asInt _ | with_reducible exact pt_asBool _ | with_reducible exact pt_asAddr _ | with_reducible exact pt_loadCells _ _ | with_reducible exact pt_storeCells _ _ _ | with_reducible exact pt_newRow _ _ | with_reducible exact pt_loadVar _ _ | with_reducible exact pt_storeVar _ _ _ | with_reducible exact pt_part _ _ _ | with_reducible exact pt_sure _ | (with_reducible refine p_bnd ?_ fun _ => ?_) | (with_reducible refine p_ite ?_ ?_) | (dsimp only) | split)
theorem pt_extract (v : Value) (n : Nat) : PT P (Instr.extract v n) := by
  unfold Instr.extract
  repeat' (first | with_reducible assumption | with_reducible exact p_pure trivial | with_reducible exact pt_stuck _ | with_reducible exact pt_unsupported _ | with_reducible exact pt_rp _ | with_reducible exact pt_bp _ _ _ _ | with_reducible exact pt_load _ _ | with_reducible exact pt_store _ _ _ | with_reducible exact pt_new _ | with_reducible exact pt_program | with_reducible exact pt_choose _ | with_reducible exact pt_shape _ | with_reducible exact pt_frozen _ | with_reducible exact pt_get _ | with_reducible exact pt_set _ _ | with_reducible exact pt_room _ | with_reducible exact pt_typeInfo _ | with_reducible exact pt_underlying _ | with_reducible exact pt_sizeOf _ | with_reducible exact pt_zero _ | with_reducible exact pt_isAgg _ | with_reducible exact pt_asIntOf _ | with_reducible exact pt_asInt _ | with_reducible exact pt_asBool _ | with_reducible exact pt_asAddr _ | with_reducible exact pt_loadCells _ _ | with_reducible exact pt_storeCells _ _ _ | with_reducible exact pt_newRow _ _ | with_reducible exact pt_loadVar _ _ | with_reducible exact pt_storeVar _ _ _ | with_reducible exact pt_part _ _ _ | with_reducible exact pt_sure _ | (with_reducible refine p_bnd ?_ fun _ => ?_) | (with_reducible refine p_ite ?_ ?_) | (dsimp only) | split)
theorem pt_mkIface (e : TypeId) (v : Value) : PT P (Instr.makeInterface e v) := by
  unfold Instr.makeInterface
  repeat' (first | with_reducible assumption | with_reducible exact p_pure trivial | with_reducible exact pt_stuck _ | with_reducible exact pt_unsupported _ | with_reducible exact pt_rp _ | with_reducible exact pt_bp _ _ _ _ | with_reducible exact pt_load _ _ | with_reducible exact pt_store _ _ _ | with_reducible exact pt_new _ | with_reducible exact pt_program | with_reducible exact pt_choose _ | with_reducible exact pt_shape _ | with_reducible exact pt_frozen _ | with_reducible exact pt_get _ | with_reducible exact pt_set _ _ | with_reducible exact pt_room _ | with_reducible exact pt_typeInfo _ | with_reducible exact pt_underlying _ | with_reducible exact pt_sizeOf _ | with_reducible exact pt_zero _ | with_reducible exact pt_isAgg _ | with_reducible exact pt_asIntOf _ | with_reducible exact pt_asInt _ | with_reducible exact pt_asBool _ | with_reducible exact pt_asAddr _ | with_reducible exact pt_loadCells _ _ | with_reducible exact pt_storeCells _ _ _ | with_reducible exact pt_newRow _ _ | with_reducible exact pt_loadVar _ _ | with_reducible exact pt_storeVar _ _ _ | with_reducible exact pt_part _ _ _ | with_reducible exact pt_sure _ | (with_reducible refine p_bnd ?_ fun _ => ?_) | (with_reducible refine p_ite ?_ ?_) | (dsimp only) | split)
theorem pt_makeSlice (e : TypeId) (v x : Value) : PT P (Instr.makeSlice e v x) := by
  unfold Instr.makeSlice
  repeat' (first | with_reducible assumption | with_reducible exact p_pure trivial | with_reducible exact pt_stuck _ | with_reducible exact pt_unsupported _ | with_reducible exact pt_rp _ | with_reducible exact pt_bp _ _ _ _ | with_reducible exact pt_load _ _ | with_reducible exact pt_store _ _ _ | with_reducible exact pt_new _ | with_reducible exact pt_program | with_reducible exact pt_choose _ | with_reducible exact pt_shape _ | with_reducible exact pt_frozen _ | with_reducible exact pt_get _ | with_reducible exact pt_set _ _ | with_reducible exact pt_room _ | with_reducible exact pt_typeInfo _ | with_reducible exact pt_underlying _ | with_reducible exact pt_sizeOf _ | with_reducible exact pt_zero _ | with_reducible exact pt_isAgg _ | with_reducible exact pt_asIntOf _ | with_reducible exact pt_asInt _ | with_reducible exact pt_asBool _ | with_reducible exact pt_asAddr _ | with_reducible exact pt_loadCells _ _ | with_reducible exact pt_storeCells _ _ _ | with_reducible exact pt_newRow _ _ | with_reducible exact pt_loadVar _ _ | with_reducible exact pt_storeVar _ _ _ | with_reducible exact pt_part _ _ _ | with_reducible exact pt_sure _ | (with_reducible refine p_bnd ?_ fun _ => ?_) | (with_reducible refine p_ite ?_ ?_) | (dsimp only) | split)
theorem pt_indexAt (e : TypeId) (v x : Value) : PT P (Instr.indexAt e v x) := by
  unfold Instr.indexAt
  repeat' (first | with_reducible assumption | with_reducible exact p_pure trivial | with_reducible exact pt_stuck _ | with_reducible exact pt_unsupported _ | with_reducible exact pt_rp _ | with_reducible exact pt_bp _ _ _ _ | with_reducible exact pt_load _ _ | with_reducible exact pt_store _ _ _ | with_reducible exact pt_new _ | with_reducible exact pt_program | with_reducible exact pt_choose _ | with_reducible exact pt_shape _ | with_reducible exact pt_frozen _ | with_reducible exact pt_get _ | with_reducible exact pt_set _ _ | with_reducible exact pt_room _ | with_reducible exact pt_typeInfo _ | with_reducible exact pt_underlying _ | with_reducible exact pt_sizeOf _ | with_reducible exact pt_zero _ | with_reducible exact pt_isAgg _ | with_reducible exact pt_asIntOf _ | with_reducible exact pt_asInt _ | with_reducible exact pt_asBool _ | with_reducible exact pt_asAddr _ | with_reducible exact pt_loadCells _ _ | with_reducible exact pt_storeCells _ _ _ | with_reducible exact pt_newRow _ _ | with_reducible exact pt_loadVar _ _ | with_reducible exact pt_storeVar _ _ _ | with_reducible exact pt_part _ _ _ | with_reducible exact pt_sure _ | (with_reducible refine p_bnd ?_ fun _ => ?_) | (with_reducible refine p_ite ?_ ?_) | (dsimp only) | split)
theorem pt_index (e : TypeId) (v x : Value) : PT P (Instr.index e v x) := by
  unfold Instr.index
  repeat' (first | with_reducible assumption | with_reducible exact p_pure trivial | with_reducible exact pt_stuck _ | with_reducible exact pt_unsupported _ | with_reducible exact pt_rp _ | with_reducible exact pt_bp _ _ _ _ | with_reducible exact pt_load _ _ | with_reducible exact pt_store _ _ _ | with_reducible exact pt_new _ | with_reducible exact pt_program | with_reducible exact pt_choose _ | with_reducible exact pt_shape _ | with_reducible exact pt_frozen _ | with_reducible exact pt_get _ | with_reducible exact pt_set _ _ | with_reducible exact pt_room _ | with_reducible exact pt_typeInfo _ | with_reducible exact pt_underlying _ | with_reducible exact pt_sizeOf _ | with_reducible exact pt_zero _ | with_reducible exact pt_isAgg _ | with_reducible exact pt_asIntOf _ | with_reducible exact pt_asInt _ | with_reducible exact pt_asBool _ | with_reducible exact pt_asAddr _ | with_reducible exact pt_loadCells _ _ | with_reducible exact pt_storeCells _ _ _ | with_reducible exact pt_newRow _ _ | with_reducible exact pt_loadVar _ _ | with_reducible exact pt_storeVar _ _ _ | with_reducible exact pt_part _ _ _ | with_reducible exact pt_sure _ | (with_reducible refine p_bnd ?_ fun _ => ?_) | (with_reducible refine p_ite ?_ ?_) | (dsimp only) | split)
theorem pt_sliceBound (v : Value) (n : Nat) (c : BoundsCode) : PT P (Instr.sliceBound v n c) := by
  unfold Instr.sliceBound
  repeat' (first | with_reducible assumption | with_reducible exact p_pure trivial | with_reducible exact pt_stuck _ | with_reducible exact pt_unsupported _ | with_reducible exact pt_rp _ | with_reducible exact pt_bp _ _ _ _ | with_reducible exact pt_load _ _ | with_reducible exact pt_store _ _ _ | with_reducible exact pt_new _ | with_reducible exact pt_program | with_reducible exact pt_choose _ | with_reducible exact pt_shape _ | with_reducible exact pt_frozen _ | with_reducible exact pt_get _ | with_reducible exact pt_set _ _ | with_reducible exact pt_room _ | with_reducible exact pt_typeInfo _ | with_reducible exact pt_underlying _ | with_reducible exact pt_sizeOf _ | with_reducible exact pt_zero _ | with_reducible exact pt_isAgg _ | with_reducible exact pt_asIntOf _ | with_reducible exact pt_asInt _ | with_reducible exact pt_asBool _ | with_reducible exact pt_asAddr _ | with_reducible exact pt_loadCells _ _ | with_reducible exact pt_storeCells _ _ _ | with_reducible exact pt_newRow _ _ | with_reducible exact pt_loadVar _ _ | with_reducible exact pt_storeVar _ _ _ | with_reducible exact pt_part _ _ _ | with_reducible exact pt_sure _ | (with_reducible refine p_bnd ?_ fun _ => ?_) | (with_reducible refine p_ite ?_ ?_) | (dsimp only) | split)
theorem pt_sliceBounds (b : Bool) (n m : Nat) (x y z : Option Value) : PT P (Instr.sliceBounds b n m x y z) := by
  unfold Instr.sliceBounds
  repeat' (first | with_reducible assumption | with_reducible exact p_pure trivial | with_reducible exact pt_stuck _ | with_reducible exact pt_unsupported _ | with_reducible exact pt_rp _ | with_reducible exact pt_bp _ _ _ _ | with_reducible exact pt_load _ _ | with_reducible exact pt_store _ _ _ | with_reducible exact pt_new _ | with_reducible exact pt_program | with_reducible exact pt_choose _ | with_reducible exact pt_shape _ | with_reducible exact pt_frozen _ | with_reducible exact pt_get _ | with_reducible exact pt_set _ _ | with_reducible exact pt_room _ | with_reducible exact pt_typeInfo _ | with_reducible exact pt_underlying _ | with_reducible exact pt_sizeOf _ | with_reducible exact pt_zero _ | with_reducible exact pt_isAgg _ | with_reducible exact pt_asIntOf _ | with_reducible exact pt_asInt _ | with_reducible exact pt_asBool _ | with_reducible exact pt_asAddr _ | with_reducible exact pt_loadCells _ _ | with_reducible exact pt_storeCells _ _ _ | with_reducible exact pt_newRow _ _ | with_reducible exact pt_loadVar _ _ | with_reducible exact pt_storeVar _ _ _ | with_reducible exact pt_part _ _ _ | with_reducible exact pt_sure _ | with_reducible exact pt_sliceBound _ _ _ | (with_reducible refine p_bnd ?_ fun _ => ?_) | (with_reducible refine p_ite ?_ ?_) | (dsimp only) | split)
theorem pt_slice (e : TypeId) (v : Value) (x y z : Option Value) : PT P (Instr.slice e v x y z) := by
  unfold Instr.slice
  repeat' (first | with_reducible assumption | with_reducible exact p_pure trivial | with_reducible exact pt_stuck _ | with_reducible exact pt_unsupported _ | with_reducible exact pt_rp _ | with_reducible exact pt_bp _ _ _ _ | with_reducible exact pt_load _ _ | with_reducible exact pt_store _ _ _ | with_reducible exact pt_new _ | with_reducible exact pt_program | with_reducible exact pt_choose _ | with_reducible exact pt_shape _ | with_reducible exact pt_frozen _ | with_reducible exact pt_get _ | with_reducible exact pt_set _ _ | with_reducible exact pt_room _ | with_reducible exact pt_typeInfo _ | with_reducible exact pt_underlying _ | with_reducible exact pt_sizeOf _ | with_reducible exact pt_zero _ | with_reducible exact pt_isAgg _ | with_reducible exact pt_asIntOf _ | with_reducible exact pt_asInt _ | with_reducible exact pt_asBool _ | with_reducible exact pt_asAddr _ | with_reducible exact pt_loadCells _ _ | with_reducible exact pt_storeCells _ _ _ | with_reducible exact pt_newRow _ _ | with_reducible exact pt_loadVar _ _ | with_reducible exact pt_storeVar _ _ _ | with_reducible exact pt_part _ _ _ | with_reducible exact pt_sure _ | with_reducible exact pt_sliceBound _ _ _ | with_reducible exact pt_sliceBounds _ _ _ _ _ _ | (with_reducible refine p_bnd ?_ fun _ => ?_) | (with_reducible refine p_ite ?_ ?_) | (dsimp only) | split)
theorem pt_sliceAt (e : TypeId) (v : Value) (x y z : Option Value) : PT P (Instr.sliceAt e v x y z) := by
  unfold Instr.sliceAt
  repeat' (first | with_reducible assumption | with_reducible exact p_pure trivial | with_reducible exact pt_stuck _ | with_reducible exact pt_unsupported _ | with_reducible exact pt_rp _ | with_reducible exact pt_bp _ _ _ _ | with_reducible exact pt_load _ _ | with_reducible exact pt_store _ _ _ | with_reducible exact pt_new _ | with_reducible exact pt_program | with_reducible exact pt_choose _ | with_reducible exact pt_shape _ | with_reducible exact pt_frozen _ | with_reducible exact pt_get _ | with_reducible exact pt_set _ _ | with_reducible exact pt_room _ | with_reducible exact pt_typeInfo _ | with_reducible exact pt_underlying _ | with_reducible exact pt_sizeOf _ | with_reducible exact pt_zero _ | with_reducible exact pt_isAgg _ | with_reducible exact pt_asIntOf _ | with_reducible exact pt_asInt _ | with_reducible exact pt_asBool _ | with_reducible exact pt_asAddr _ | with_reducible exact pt_loadCells _ _ | with_reducible exact pt_storeCells _ _ _ | with_reducible exact pt_newRow _ _ | with_reducible exact pt_loadVar _ _ | with_reducible exact pt_storeVar _ _ _ | with_reducible exact pt_part _ _ _ | with_reducible exact pt_sure _ | with_reducible exact pt_sliceBound _ _ _ | with_reducible exact pt_sliceBounds _ _ _ _ _ _ | with_reducible exact pt_slice _ _ _ _ _ | (with_reducible refine p_bnd ?_ fun _ => ?_) | (with_reducible refine p_ite ?_ ?_) | (dsimp only) | split)
theorem pt_makeMap (e : TypeId) (v : Option Value) : PT P (Instr.makeMap e v) := by
  unfold Instr.makeMap
  repeat' (first | with_reducible assumption | with_reducible exact p_pure trivial | with_reducible exact pt_stuck _ | with_reducible exact pt_unsupported _ | with_reducible exact pt_rp _ | with_reducible exact pt_bp _ _ _ _ | with_reducible exact pt_load _ _ | with_reducible exact pt_store _ _ _ | with_reducible exact pt_new _ | with_reducible exact pt_program | with_reducible exact pt_choose _ | with_reducible exact pt_shape _ | with_reducible exact pt_frozen _ | with_reducible exact pt_get _ | with_reducible exact pt_set _ _ | with_reducible exact pt_room _ | with_reducible exact pt_typeInfo _ | with_reducible exact pt_underlying _ | with_reducible exact pt_sizeOf _ | with_reducible exact pt_zero _ | with_reducible exact pt_isAgg _ | with_reducible exact pt_asIntOf _ | with_reducible exact pt_asInt _ | with_reducible exact pt_asBool _ | with_reducible exact pt_asAddr _ | with_reducible exact pt_loadCells _ _ | with_reducible exact pt_storeCells _ _ _ | with_reducible exact pt_newRow _ _ | with_reducible exact pt_loadVar _ _ | with_reducible exact pt_storeVar _ _ _ | with_reducible exact pt_part _ _ _ | with_reducible exact pt_sure _ | with_reducible exact pt_sliceBound _ _ _ | with_reducible exact pt_sliceBounds _ _ _ _ _ _ | with_reducible exact pt_slice _ _ _ _ _ | (with_reducible refine p_bnd ?_ fun _ => ?_) | (with_reducible refine p_ite ?_ ?_) | (dsimp only) | split)
theorem pt_mapM {γ δ : Type} (f : γ → Sem δ) (h : ∀ a, PT P (f a)) (l : Array γ) : PT P (l.mapM f) := by
  rw [Array.mapM_eq_foldlM, ← Array.foldlM_toList]
  generalize (#[] : Array δ) = acc
  generalize l.toList = l
  induction l generalizing acc with
  | nil => exact .pure trivial
  | cons a l ih =>
    rw [List.foldlM_cons]
    refine p_bnd ?_ fun b => ih b
    exact p_bnd (h a) fun b => .pure trivial
theorem pt_mapS (l : Array Field) : PT P (l.mapM fun f => do pure (f.offset, ← sizeOf f.type)) := pt_mapM _ (fun _ => p_bnd (pt_sizeOf _) fun _ => .pure trivial) _
theorem pt_build (e : TypeId) (v : Array (Nat × Value)) : PT P (Instr.build e v) := by
  unfold Instr.build
  repeat' (first | with_reducible assumption | with_reducible exact p_pure trivial | with_reducible exact pt_stuck _ | with_reducible exact pt_unsupported _ | with_reducible exact pt_rp _ | with_reducible exact pt_bp _ _ _ _ | with_reducible exact pt_load _ _ | with_reducible exact pt_store _ _ _ | with_reducible exact pt_new _ | with_reducible exact pt_program | with_reducible exact pt_choose _ | with_reducible exact pt_shape _ | with_reducible exact pt_frozen _ | with_reducible exact pt_get _ | with_reducible exact pt_set _ _ | with_reducible exact pt_room _ | with_reducible exact pt_typeInfo _ | with_reducible exact pt_underlying _ | with_reducible exact pt_sizeOf _ | with_reducible exact pt_zero _ | with_reducible exact pt_isAgg _ | with_reducible exact pt_asIntOf _ | with_reducible exact pt_asInt _ | with_reducible exact pt_asBool _ | with_reducible exact pt_asAddr _ | with_reducible exact pt_loadCells _ _ | with_reducible exact pt_storeCells _ _ _ | with_reducible exact pt_newRow _ _ | with_reducible exact pt_loadVar _ _ | with_reducible exact pt_storeVar _ _ _ | with_reducible exact pt_part _ _ _ | with_reducible exact pt_sure _ | with_reducible exact pt_sliceBound _ _ _ | with_reducible exact pt_sliceBounds _ _ _ _ _ _ | with_reducible exact pt_slice _ _ _ _ _ | with_reducible exact pt_mapS _ | (with_reducible refine p_bnd ?_ fun _ => ?_) | (with_reducible refine p_ite ?_ ?_) | (dsimp only) | split)
end
end Go.Proofs.Ytgeoffpcmkofkaa
