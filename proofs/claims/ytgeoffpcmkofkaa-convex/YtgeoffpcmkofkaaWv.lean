/- A region that draws its order, by an invariant: each operation that may come up keeps it. -/
import Derived.Test.YtgeoffpcmkofkaaWu
namespace Go.Proofs.Ytgeoffpcmkofkaa
open Go.RowKit
set_option maxRecDepth 100000

section
variable {P : Program} {ops : Array Oper} {Q : Exit → Act → World → Prop} {md : Region.Mode}

/-- An operation may come up: it has not, and what it waits for has. -/
structure Rdy (md : Region.Mode) (listed : Array Bool) (i : Nat) (o : Oper) : Prop where
  mine : listed.getD i true = false
  ahead : ∀ e ∈ o.after, Region.binds md e = true → listed.getD e.on false = true

theorem ready_iff {listed : Array Bool} {i : Nat} (h : i ∈ Region.ready md ops listed) : ∃ o, ops[i]? = some o ∧ i < ops.size ∧ Rdy md listed i o := by
  unfold Region.ready at h
  rw [List.mem_filter] at h
  obtain ⟨h1, h2⟩ := h
  have hi : i < ops.size := by simpa using h1
  rw [Bool.and_eq_true] at h2
  refine ⟨ops[i], Array.getElem?_eq_getElem hi, hi, by simpa using h2.1, ?_⟩
  have h3 := h2.2
  rw [Array.getElem?_eq_getElem hi] at h3
  simp only [Option.map_some, Option.getD_some] at h3
  rw [Array.all_eq_true_iff_forall_mem] at h3
  intro e he hb
  have := h3 e he
  rw [hb] at this
  simpa using this

theorem ready_of {listed : Array Bool} {i : Nat} {o : Oper} (ho : ops[i]? = some o) (h : Rdy md listed i o) : i ∈ Region.ready md ops listed := by
  unfold Region.ready
  rw [List.mem_filter]
  have hi : i < ops.size := (Array.getElem?_eq_some_iff.1 ho).1
  refine ⟨by simpa using hi, ?_⟩
  rw [Bool.and_eq_true, ho]
  refine ⟨by simp [h.mine], ?_⟩
  simp only [Option.map_some, Option.getD_some]
  rw [Array.all_eq_true_iff_forall_mem]
  intro e he
  by_cases hb : Region.binds md e = true
  · rw [h.ahead e he hb]; simp
  · simp [Bool.eq_false_iff.2 hb]

theorem count_set_true : ∀ (l : List Bool) (i : Nat) (h : i < l.length), l[i] = false → l.count false = (l.set i true).count false + 1
  | [], i, h, _ => absurd h (by simp)
  | x :: l, 0, _, hx => by
    have hx' : x = false := hx
    subst hx'
    simp
  | x :: l, i + 1, h, hx => by
    have := count_set_true l i (by simpa using h) hx
    simp only [List.set_cons_succ, List.count_cons, this]
    omega

def left (listed : Array Bool) : Nat := listed.toList.count false

theorem left_set {listed : Array Bool} {i : Nat} (h : listed.getD i true = false) : left listed = left (listed.setIfInBounds i true) + 1 := by
  have hi : i < listed.size := by
    rcases Nat.lt_or_ge i listed.size with h1 | h1
    · exact h1
    · simp [Array.getD, Nat.not_lt.2 h1] at h
  have hv : listed.toList[i]'(by simpa using hi) = false := by simpa [Array.getD, hi] using h
  unfold left
  rw [Array.toList_setIfInBounds]
  exact count_set_true _ i (by simpa using hi) hv

/-- All have come up where none may. -/
theorem all_listed {listed : Array Bool} (hs : listed.size = ops.size) (hac : ∀ (i : Nat) (o : Oper), ops[i]? = some o → ∀ e ∈ o.after, Region.binds md e = true → e.on < i) (h : Region.ready md ops listed = []) : ∀ i, i < ops.size → listed.getD i false = true := by
  intro i
  induction i using Nat.strongRecOn with
  | _ i ih =>
    intro hi
    rcases Bool.eq_false_or_eq_true (listed.getD i false) with h1 | h1
    · exact h1
    · exfalso
      have hm : listed.getD i true = false := by simpa [Array.getD, hs, hi] using h1
      have : i ∈ Region.ready md ops listed := ready_of (Array.getElem?_eq_getElem hi) ⟨hm, fun e he hb => ih e.on (hac i _ (Array.getElem?_eq_getElem hi) e he hb) (Nat.lt_trans (hac i _ (Array.getElem?_eq_getElem hi) e he hb) hi)⟩
      rw [h] at this
      simp at this

theorem wpAny_inv (I : Array Bool → Act → World → Prop) (hac : ∀ (i : Nat) (o : Oper), ops[i]? = some o → ∀ e ∈ o.after, Region.binds md e = true → e.on < i) (hg : ∀ (i : Nat) (o : Oper), ops[i]? = some o → o.guard = none)
    (step : ∀ listed a w i o, I listed a w → ops[i]? = some o → Rdy md listed i o → o.wp P a w (fun a' w' => I (listed.setIfInBounds i true) a' w') Q)
    (fin : ∀ listed a w, I listed a w → (∀ i, i < ops.size → listed.getD i false = true) → Q .normal a w) :
    ∀ fuel listed a w, listed.size = ops.size → left listed = fuel → I listed a w → wpAny P md ops Q fuel listed a w := by
  intro fuel
  induction fuel with
  | zero =>
    intro listed a w hs hl hI
    have hr : Region.ready md ops listed = [] := by
      rw [List.eq_nil_iff_forall_not_mem]
      intro i hi
      obtain ⟨o, ho, hlt, hrd⟩ := ready_iff hi
      have := left_set hrd.mine
      omega
    exact ⟨hr, fin listed a w hI (all_listed hs hac hr)⟩
  | succ fuel ih =>
    intro listed a w hs hl hI
    refine ⟨fun hr => fin listed a w hI (all_listed hs hac hr), fun i hi => ?_⟩
    obtain ⟨o, ho, hlt, hrd⟩ := ready_iff hi
    have hwant : Region.wanted o (yielded ops a.tmps) = true := by simp [Region.wanted, hg i o ho]
    unfold wpOp
    rw [ho]
    simp only [hwant, if_true]
    left
    refine Oper.wp_mono (fun a' w' h => ?_) (step listed a w i o hI ho hrd)
    exact ih _ a' w' (by simpa using hs) (by have := left_set hrd.mine; omega) h

/-- A region that draws, by an invariant. -/
theorem wp_region_inv {id : Nat} {a : Act} {w : World} (hm : P.follows .mixedOrders = true) (I : Array Bool → Act → World → Prop) (hac : ∀ (i : Nat) (o : Oper), ops[i]? = some o → ∀ e ∈ o.after, Region.binds .any e = true → e.on < i) (hg : ∀ (i : Nat) (o : Oper), ops[i]? = some o → o.guard = none)
    (start : I (Array.replicate ops.size false) a w.drew)
    (step : ∀ listed a w i o, I listed a w → ops[i]? = some o → Rdy .any listed i o → o.wp P a w (fun a' w' => I (listed.setIfInBounds i true) a' w') Q)
    (fin : ∀ listed a w, I listed a w → (∀ i, i < ops.size → listed.getD i false = true) → Q .normal a w) : (Code.region id ops true).wp P Q a w :=
  wp_region_any hm (wpAny_inv I hac hg step fin _ _ a _ (by simp) (by simp [left]) start)
end

end Go.Proofs.Ytgeoffpcmkofkaa
