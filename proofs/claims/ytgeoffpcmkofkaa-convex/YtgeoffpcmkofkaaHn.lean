/- The first numbers of points. -/
import Derived.Test.YtgeoffpcmkofkaaHk
import Derived.Test.YtgeoffpcmkofkaaMq
namespace Go.Proofs.Ytgeoffpcmkofkaa
open Go Go.RowKit Fl

theorem numN_out {l : Pts} {k : Nat} (p : Pt) (h : l[k]? = none) : numN l (k + 1) p = numN l k p := by simp only [numN, h]
theorem numN_in {l : Pts} {k : Nat} (p : Pt) {q : Pt} (h : l[k]? = some q) : numN l (k + 1) p = if (numN l k q).isSome then numN l k p else setN (numN l k) q k p := by
  simp only [numN, h]
  split <;> rfl
theorem numN_none (l : Pts) : ∀ (k : Nat) (p : Pt), numN l k p = none → ∀ i, i < k → l[i]? ≠ some p
  | 0, _, _, i, hi => by omega
  | k + 1, p, h, i, hi => by
    cases hk : l[k]? with
    | none =>
      rw [numN_out p hk] at h
      rcases Nat.lt_or_ge i k with h1 | h1
      · exact numN_none l k p h i h1
      · have : i = k := by omega
        subst this
        rw [hk]
        simp
    | some q =>
      rw [numN_in p hk] at h
      split at h
      · rename_i hs
        rcases Nat.lt_or_ge i k with h1 | h1
        · exact numN_none l k p h i h1
        · have : i = k := by omega
          subst this
          rw [hk]
          intro e
          injection e with e
          subst e
          rw [h] at hs
          simp at hs
      · unfold setN at h
        split at h
        · simp at h
        · rename_i hne
          rcases Nat.lt_or_ge i k with h1 | h1
          · exact numN_none l k p h i h1
          · have : i = k := by omega
            subst this
            rw [hk]
            intro e
            injection e with e
            exact hne e.symm
theorem numN_some (l : Pts) : ∀ (k : Nat) (p : Pt) (c : Int), numN l k p = some c → ∃ i : Nat, c = i ∧ i < k ∧ l[i]? = some p ∧ ∀ j, j < i → l[j]? ≠ some p
  | 0, _, _, h => by simp [numN] at h
  | k + 1, p, c, h => by
    have step : numN l k p = some c → ∃ i : Nat, c = i ∧ i < k + 1 ∧ l[i]? = some p ∧ ∀ j, j < i → l[j]? ≠ some p := fun h => by
      obtain ⟨i, h1, h2, h3⟩ := numN_some l k p c h
      exact ⟨i, h1, by omega, h3⟩
    cases hk : l[k]? with
    | none =>
      rw [numN_out p hk] at h
      exact step h
    | some q =>
      rw [numN_in p hk] at h
      split at h
      · exact step h
      · rename_i hs
        unfold setN at h
        split at h
        · rename_i e
          subst e
          injection h with h
          exact ⟨k, h.symm, by omega, hk, fun j hj => numN_none l k p (by simpa using hs) j hj⟩
        · exact step h
/-- The first number of a point. -/
def num (l : Pts) (p : Pt) : Nat := (atN (numN l l.length) p).toNat
structure NumOf (l : Pts) (p : Pt) (n : Nat) : Prop where
  here : l[n]? = some p
  first : ∀ j, j < n → l[j]? ≠ some p
theorem NumOf.one {l : Pts} {p : Pt} {n m : Nat} (h : NumOf l p n) (h' : NumOf l p m) : n = m := by
  rcases Nat.lt_trichotomy n m with hh | hh | hh
  · exact absurd h.here (h'.first n hh)
  · exact hh
  · exact absurd h'.here (h.first m hh)
theorem num_of {l : Pts} {p : Pt} (h : p ∈ l) : NumOf l p (num l p) ∧ atN (numN l l.length) p = (num l p : Int) := by
  obtain ⟨n, hn, e⟩ := List.mem_iff_getElem.1 h
  have e' : l[n]? = some p := by rw [List.getElem?_eq_getElem hn, e]
  cases hc : numN l l.length p with
  | none => exact absurd e' (numN_none l _ p hc n hn)
  | some c =>
    obtain ⟨i, h1, h2, h3, h4⟩ := numN_some l _ p c hc
    have ha : atN (numN l l.length) p = (i : Int) := by simp [atN, hc, h1]
    have hi : num l p = i := by unfold num; rw [ha]; rfl
    rw [hi]
    exact ⟨⟨h3, h4⟩, ha⟩
theorem num_inj {l : Pts} {p q : Pt} (hp : p ∈ l) (hq : q ∈ l) (h : num l p = num l q) : p = q := by
  have h1 := (num_of hp).1.here
  have h2 := (num_of hq).1.here
  rw [h, h2] at h1
  injection h1 with h1
  exact h1.symm
theorem num_lt {l : Pts} {p : Pt} (h : p ∈ l) : num l p < l.length := (List.getElem?_eq_some_iff.1 (num_of h).1.here).1

theorem len_le {α : Type} [DecidableEq α] : ∀ {a b : List α}, a.Nodup → (∀ x ∈ a, x ∈ b) → a.length ≤ b.length
  | [], _, _, _ => Nat.zero_le _
  | x :: a, b, h, hs => by
    have hx : x ∈ b := hs x (by simp)
    have h1 := (List.nodup_cons.1 h).1
    have := len_le (a := a) (b := b.erase x) (List.nodup_cons.1 h).2 fun y hy => by
      refine (List.mem_erase_of_ne ?_).2 (hs y (by simp [hy]))
      rintro rfl
      exact h1 hy
    rw [List.length_erase_of_mem hx] at this
    have := List.length_pos_of_mem hx
    simp
    omega
theorem RingOK.list_nodup {l R : Pts} (h : RingOK l R) : R.Nodup := by
  rw [List.Nodup, List.pairwise_iff_getElem]
  intro i j hi hj hij e
  have := h.nodup i j R[i] (List.getElem?_eq_getElem hi) (by rw [e]; exact List.getElem?_eq_getElem hj)
  omega
end Go.Proofs.Ytgeoffpcmkofkaa
