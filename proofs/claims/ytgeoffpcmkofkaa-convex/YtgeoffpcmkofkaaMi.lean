/- Beside goroutines that only leave: operations, calls in which blocks are numbered anew, and the start of others. -/
import Derived.Test.YtgeoffpcmkofkaaMh
import Derived.Test.YtgeoffpcmkofkaaLj
namespace Go.Proofs.Ytgeoffpcmkofkaa
open Go Go.Conc

section
variable {P : Program} {Post : Value → World → Prop} {fr fr1 : Frame} {cs cs1 : List Frame} {w w1 : World}
theorem Same.keeps {O S : Nat → Prop} {w' : World} (h : Same w w') : Keeps O S w w' := ⟨by rw [h.heap]; exact Nat.le_refl _, fun r _ => by rw [h.heap], h.os, h.output⟩
theorem evP_of_evO {O S : Nat → Prop} {N : Nat} {e : Event} (h : EvO O S e) (hlow : ∀ r, O r ∨ S r → r < N) : EvP N e := by
  rcases h with ⟨a, rfl, hb⟩ | ⟨a, rfl, hb⟩ | ⟨m, rfl, hm⟩ | ⟨r, rfl, hb⟩
  · exact evP_cell _ _ _ (hlow _ hb)
  · exact evP_cell _ _ _ (hlow _ (.inl hb))
  · rcases hm with rfl | ⟨f, rfl⟩ <;> exact ⟨fun _ _ h => h.elim, by simp, by simp, trivial⟩
  · exact evP_obj _ _ _ (hlow _ (.inl hb))
/-- A call in which blocks are numbered anew. -/
theorem A.of_runs {S O : Nat → Prop} {base : List Frame} {FinR : (Nat → Prop) → Frame → World → Prop} (h : Runs P S base FinR O fr cs w) : (∀ r, O r ∨ S r → r < w.heap.size) →
    (∀ O' fr w', fr.mode = .returning → (∀ w2, Keeps O' S w' w2 → FinR O' fr w2) → (∀ r, O' r → O r ∨ w.heap.size ≤ r) → (∀ r, O' r ∨ S r → r < w'.heap.size) → w.heap.size ≤ w'.heap.size → w'.os = w.os → w'.output = w.output → (∀ r, r < w.heap.size → ¬O r → w'.heap[r]? = w.heap[r]?) → A P Post fr base w') → A P Post fr cs w := by
  induction h with
  | @done O fr w hm hfin => exact fun hlow hf => hf O fr w hm hfin (fun r hr => .inl hr) hlow (Nat.le_refl _) rfl rfl fun _ _ _ => rfl
  | @step O fr cs w h1 h2 ih =>
    intro hlow hf
    refine .one fun w' hs => ?_
    obtain ⟨fr1, cs1, w1, es, k1, k2, k3, k4⟩ := h1 w' hs.keeps
    have hsz : w'.heap.size = w.heap.size := by rw [hs.heap]
    have hlow1 : ∀ r, own O w' w1 r ∨ S r → r < w1.heap.size := by
      intro r hr
      rcases hr with (hr | hr) | hr
      · have := hlow r (.inl hr); have := k3.size; omega
      · exact hr.2
      · have := hlow r (.inr hr); have := k3.size; omega
    refine ⟨fr1, cs1, w1, es, k2 true .running none, fun e he => evP_of_evO (k4 e he) hlow1, k3.size, ?_⟩
    refine ih w' fr1 cs1 w1 es hs.keeps k1 hlow1 fun O' fr w2 q1 q2 q3 q4 q5 q6 q7 q8 => ?_
    refine hf O' fr w2 q1 q2 (fun r hr => ?_) q4 (by have := k3.size; omega) (by rw [q6, k3.os, hs.os]) (by rw [q7, k3.output, hs.output]) fun r hr hn => ?_
    · rcases q3 r hr with (h | h) | h
      · exact .inl h
      · exact .inr (by omega)
      · exact .inr (by have := k3.size; omega)
    · rw [q8 r (by have := k3.size; omega) fun ho => ?_, k3.kept r (by omega) hn, hs.heap]
      rcases ho with ho | ho
      · exact hn ho
      · omega
/-- Others are started, and all that they send is taken. -/
theorem A.of_MB {Fin : Goroutine → World → Prop} (h : ∀ w', Same w w' → MB P (· < w.heap.size) Fin (fun _ => none) none (fun _ => False) (G fr cs) w')
    (hf : ∀ a w', Fin a w' → ∃ fr' cs', a = G fr' cs' ∧ A P Post fr' cs' w') : A P Post fr cs w := by
  intro gs w' sl t q off hs h0 hL hP
  have hsz : w'.heap.size = w.heap.size := by rw [hs.heap]
  have hlt : 0 < gs.size := (Array.getElem?_eq_some_iff.1 h0).1
  have hlive : LiveG gs.size gs.size = (· = 0) := by
    funext g
    refine propext ⟨fun h => h.elim id fun h => by omega, .inl⟩
  refine crowd_fine (n0 := gs.size) (Post := Post) (fun a gs w2 sl t q off hfin h0 hL hP => ?_) (h w' hs) [] q gs w' sl t (fun _ _ => False) (fun _ => w') true ?_
  · obtain ⟨fr', cs', rfl, hA⟩ := hf a w2 hfin
    exact hA gs w2 sl t q off (Same.refl _) h0 hL hP
  · refine ⟨hlt, by simp, fun i g h1 _ hg => hL.old i g h1 hg, hL.above, .inl ⟨rfl, off, h0⟩, rfl, rfl, (fun j x hx => by simp at hx), (fun j x hx => by simp at hx), (fun i j x y hx => by simp at hx), (fun c hc => by cases hc), (fun c o hc => by cases hc), ?_⟩
    refine ⟨⟨fun _ _ _ _ _ h => h.elim, fun _ _ _ h => h.elim, fun _ _ _ h => h.elim, fun b ⟨j, x, hx, _⟩ => by simp at hx⟩, fun _ _ _ h => h.elim, fun b hb => by rw [hsz]; exact hb, fun b ⟨j, x, hx, _⟩ => by simp at hx, fun g _ => Keeps.refl _ _ _, ?_⟩
    rw [hlive]
    exact TB.ofPast hP
end
section
variable {P : Program} {Post : Value → World → Prop} {FS : FuncId → Prop} {b : Frame} {a : Act} {ops : Array Oper} {i : Nat} {rest : List Nat} {o : Oper} {k : List Item} {cs : List Frame} {w : World}
theorem ev_plain (HF : ∀ f, FS f → FuncP P f) (hop : OpP P FS o.op) {n : Next} {w' w1 : World} (hr : (execOp a.eval o).run P w' = .ok n w1) : (∀ e ∈ listed P b.fn a o w', EvP w1.heap.size e) ∧ w'.heap.size ≤ w1.heap.size := by
  have hr' : (execOp a.eval o).runT P w' #[] = (.ok n w1, (execOp a.eval o).events P w' #[]) := by
    have := Sem.runT_eq P (execOp a.eval o) w' #[]
    rw [this, hr]
  have g := (p_execOp HF (fun f => rfl) hop).run_mv hr'
  refine ⟨fun e he => ?_, g.size⟩
  rcases g.low e (mem_listed he) with h | h
  · simp at h
  · exact h
/-- An operation that yields a value. -/
theorem A.op (HF : ∀ f, FS f → FuncP P f) (ho : ops[i]? = some o) (hw : Region.wanted o (yielded ops a.tmps) = true) (hk : b.kind ≠ .early) (hop : OpP P FS o.op)
    (h : ∀ w', Same w w' → ∃ v w1, (execOp a.eval o).run P w' = .ok (.value v) w1 ∧ A P Post (b.at (a.put o.dst v) (.inRegion ops rest :: k)) cs w1) : A P Post (b.at a (.inRegion ops (i :: rest) :: k)) cs w := by
  refine .one fun w' hs => ?_
  obtain ⟨v, w1, hr, hA⟩ := h w' hs
  obtain ⟨h1, h2⟩ := ev_plain (b := b) HF hop hr
  exact ⟨_, _, w1, _, stepG_value ho hw hk hr, h1, h2, hA⟩
/-- .. that yields nothing. -/
theorem A.skp (HF : ∀ f, FS f → FuncP P f) (ho : ops[i]? = some o) (hw : Region.wanted o (yielded ops a.tmps) = true) (hk : b.kind ≠ .early) (hop : OpP P FS o.op)
    (h : ∀ w', Same w w' → ∃ w1, (execOp a.eval o).run P w' = .ok .skip w1 ∧ A P Post (b.at (a.put o.dst undef) (.inRegion ops rest :: k)) cs w1) : A P Post (b.at a (.inRegion ops (i :: rest) :: k)) cs w := by
  refine .one fun w' hs => ?_
  obtain ⟨w1, hr, hA⟩ := h w' hs
  obtain ⟨h1, h2⟩ := ev_plain (b := b) HF hop hr
  exact ⟨_, _, w1, _, stepG_none ho hw hk hr, h1, h2, hA⟩
/-- .. that leaves memory alone. -/
theorem A.val (v : Value) (HF : ∀ f, FS f → FuncP P f) (ho : ops[i]? = some o) (hw : Region.wanted o (yielded ops a.tmps) = true) (hk : b.kind ≠ .early) (hop : OpP P FS o.op) (hr : ∀ w', Same w w' → (execOp a.eval o).run P w' = .ok (.value v) w')
    (h : A P Post (b.at (a.put o.dst v) (.inRegion ops rest :: k)) cs w) : A P Post (b.at a (.inRegion ops (i :: rest) :: k)) cs w :=
  .op HF ho hw hk hop fun w' hs => ⟨v, w', hr w' hs, h.same hs⟩
theorem A.mov {x : Operand} (v : Value) (ho : ops[i]? = some o) (hw : Region.wanted o (yielded ops a.tmps) = true) (hop : o.op = .move x ∨ o.op = .assign x) (hv : a.eval x = v) (hk : b.kind ≠ .early)
    (h : A P Post (b.at (a.put o.dst v) (.inRegion ops rest :: k)) cs w) : A P Post (b.at a (.inRegion ops (i :: rest) :: k)) cs w := by
  refine .op (FS := fun _ => False) (fun _ h => h.elim) ho hw hk (by rcases hop with e | e <;> rw [e] <;> trivial) fun w' hs => ⟨v, w', ?_, h.same hs⟩
  rcases hop with e | e <;> (unfold execOp; simp [e, hv])
/-- A function is entered. -/
theorem A.ent {f : FuncId} {xs : Array Value} (ho : ops[i]? = some o) (hw : Region.wanted o (yielded ops a.tmps) = true) (hk : b.kind ≠ .early) (hr : ∀ w', (execOp a.eval o).run P w' = .ok (.enter f xs) w') (he : ∀ w', (execOp a.eval o).events P w' #[] = #[])
    (h : A P Post (Frame.enter P f xs .normal) (b.at a (.inRegion ops (i :: rest) :: k) :: cs) w) : A P Post (b.at a (.inRegion ops (i :: rest) :: k)) cs w := by
  refine .one fun w' hs => ⟨_, _, w', _, stepG_enter ho hw hk (hr w'), fun e hh => ?_, Nat.le_refl _, h.same hs⟩
  have := mem_listed hh
  rw [he w'] at this
  simp at this
end
end Go.Proofs.Ytgeoffpcmkofkaa
