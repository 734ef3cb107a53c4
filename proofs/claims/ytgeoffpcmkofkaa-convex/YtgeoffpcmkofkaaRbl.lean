/- Mr: texts laid into one. -/
import Derived.Test.YtgeoffpcmkofkaaRows
import Derived.Test.YtgeoffpcmkofkaaRbb
import Derived.Conc.LeavingOf
/- From a walk beside goroutines that only leave to the row's contract. -/
namespace Go.Proofs.Ytgeoffpcmkofkaa
open Go Go.Conc
set_option maxRecDepth 100000

theorem A.start {P : Program} {Post : Value → World → Prop} {fr : Frame} {W : World} (h : A P Post fr [] W) : Fine P Post (solo (G fr []) W) #[] :=
  h #[G fr []] W none #[] (fun _ => 0) none (Same.refl W) rfl (leavers_one P _) (past_nil.mono (Nat.zero_le _))
theorem begun : GN < (begin Try.prog (fun _ _ => 0) default).world.heap.size := of_decide_eq_true (by kernel_rfl)
theorem shaped_GN {w : World} (h : w.ShapedOpen Try.prog) : GN ≤ w.heap.size := by
  obtain ⟨o, _, h1, _⟩ := h.2 GN (Nat.le_refl _) begun
  exact Nat.le_of_lt (Array.getElem?_eq_some_iff.1 h1).1
section
variable {H : Type} {enc : TypeId × Value → H}
/-- A walk from every start gives the contract. -/
theorem leaves {a : Assume} {os : Os} {f : FuncId} {fn : Func} {s : ChangeSpec} {conds : List PathCond} {apart fresh handsOn again : Bool}
    (own : ownKnob Try.checked.prog.godebug = none) (started : os.Started) (hfn : Try.checked.prog.funcs[f]? = some fn)
    (witness : ∃ (w : World) (tape : Tape) (i : Input), w.os = os ∧ (w.forCall tape i).Shaped Try.checked.prog ∧ i.vars = [] ∧ Input.okWide Try.checked.prog (w.forCall tape i) .any w.heap.size f i ∧
      s.pre6 enc Try.checked.prog fn conds apart (w.forCall tape i).memory i.args ∧ a.holds Try.checked.prog (lone (Frame.enter Try.checked.prog f i.args .normal) [] (w.forCall tape i)))
    (runs : ∀ (W : World) (base : Nat) (args : Array Value) (ds gs : List (DataW H)) (before : List MemPlace), GN ≤ W.heap.size →
      (∀ (j : Nat) t v, fn.params[j]? = some t → args[j]? = some v → Value.okWide Try.checked.prog W .any base t v) →
      DataW.Whole enc Try.checked.prog fn.params.toList s.vars apart W args.toList ds gs before →
      (DataW.weightsEach Try.checked.prog (fn.params.toList ++ s.plain.varTypes Try.checked.prog) (ds ++ gs)).all (· ≤ reachBytes) = true →
      A Try.checked.prog (fun v W' => s.post enc Try.checked.prog fn apart fresh handsOn again W args v W') (Frame.enter Try.checked.prog f args .normal) [] W) :
    ReturnsInLeavingWide a Try.checked os f .any (s.pre6 enc Try.checked.prog fn conds apart) (s.post enc Try.checked.prog fn apart fresh handsOn again) := by
  refine returnsInLeavingWide_of_good own started witness ?_
  intro w tape i _ hsh _ hok hpre _
  obtain ⟨_, _, _, fn', hfn', _, _, _, _, hval⟩ := hok
  have e : fn' = fn := Option.some.inj (hfn'.symm.trans hfn)
  subst e
  obtain ⟨⟨ds, gs, before, hw, _⟩, hz⟩ := hpre
  have hw' := DataW.Whole.of_heap (w' := w.forCall tape i) (by rfl) hw
  obtain ⟨M, last, o, w', t', h1, h2, h3, h4⟩ := (runs (w.forCall tape i) w.heap.size i.args ds gs before (shaped_GN hsh) hval hw' (hz.weights hw)).start
  exact ⟨M, last, o, w', t', h1, h2, h3, h4.mono fun v hp => ChangeSpec.post_blind hp⟩
end
end Go.Proofs.Ytgeoffpcmkofkaa
