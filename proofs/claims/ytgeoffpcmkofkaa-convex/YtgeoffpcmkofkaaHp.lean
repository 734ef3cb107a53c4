/- What Convex asks of the ring of corners. -/
import Derived.Test.YtgeoffpcmkofkaaHn
import Derived.Test.YtgeoffpcmkofkaaHm
namespace Go.Proofs.Ytgeoffpcmkofkaa
open Go Go.RowKit Fl

/-- The corners of a list, in their order. -/
def ringOf (l : Pts) : Pts := if l = [] then [] else ringL (hullS l)
structure RingSays (l R : Pts) : Prop where
  some : R = [] ↔ l = []
  sub : ∀ x ∈ R, x ∈ l
  len : R.length ≤ l.length
  turns : 3 ≤ R.length → ∀ i, i < R.length → 0 < D (ptAt R i) (ptAt R ((i + 1) % R.length)) (ptAt R ((i + 2) % R.length))
  left : 3 ≤ R.length → ∀ i, i < R.length → ∀ x ∈ l, 0 ≤ D (ptAt R i) (ptAt R ((i + 1) % R.length)) x
  all : ∀ x ∈ l, 0 ≤ withinN R x
  iff : 3 ≤ R.length → ∀ q, CdP q → (0 ≤ withinN R q ↔ ∀ i, i < R.length → 0 ≤ D (ptAt R i) (ptAt R ((i + 1) % R.length)) q)
theorem hullN_ring {l : Pts} (hc : ∀ x ∈ l, CdP x) : hullN l = (ringOf l).map fun p => Value.int .i64 (num l p : Int) := by
  unfold hullN ringOf
  by_cases hl : l = []
  · simp [hl]
  · rw [if_neg hl, if_neg hl]
    unfold numsOf
    exact List.map_congr_left fun x hx => by rw [(num_of (corner_sub hc (((hull_is hc).mem x).1 (ring_sub hx)))).2]
theorem ring_says {l : Pts} (hc : ∀ x ∈ l, CdP x) : RingSays l (ringOf l) := by
  unfold ringOf
  by_cases hl : l = []
  · subst hl
    rw [if_pos rfl]
    exact ⟨by simp, by simp, by simp, by simp, by simp, by simp, by simp⟩
  · rw [if_neg hl]
    have hsub : ∀ x ∈ ringL (hullS l), x ∈ l := fun x hx => corner_sub hc (((hull_is hc).mem x).1 (ring_sub hx))
    have hne := ring_ne (hull_ne hc hl)
    by_cases hall : ∀ x ∈ l, ∀ y ∈ l, x = y
    · have hs := hull_is hc
      obtain ⟨z, hz⟩ : ∃ z, hullS l = [z] := by
        cases e : hullS l with
        | nil => exact absurd e (hull_ne hc hl)
        | cons z t =>
          cases t with
          | nil => exact ⟨z, rfl⟩
          | cons y t =>
            have hin : ∀ x ∈ hullS l, x ∈ l := fun x hx => corner_sub hc ((hs.mem x).1 hx)
            have := hs.rising 0 1 z y (by rw [e]; rfl) (by rw [e]; rfl) (by omega)
            have e2 := hall z (hin z (by rw [e]; simp)) y (hin y (by rw [e]; simp))
            rw [e2] at this
            omega
      have hR : ringL (hullS l) = [z] := by rw [hz]; simp [ringL]
      rw [hR] at hsub ⊢
      have hzl := hsub z (by simp)
      refine ⟨by simp [hl], hsub, ?_, by simp, by simp, fun x hx => ?_, by simp⟩
      · have := List.length_pos_iff.2 hl
        simp
        omega
      · rw [hall x hx z hzl, within_iff, anyOn_iff]
        refine .inl ⟨0, by simp, ?_⟩
        unfold edgeOn onB
        exact decide_eq_true (Mix.on ⟨1, 0, by omega, by omega, by omega, by simp [ptAt], by simp [ptAt]⟩)
    · obtain ⟨a, b, ha, hb, hab⟩ : ∃ a b, a ∈ l ∧ b ∈ l ∧ K a < K b := by
        apply Classical.byContradiction
        intro hn
        apply hall
        intro x hx y hy
        refine K_inj (hc x hx) (hc y hy) ?_
        rcases Int.lt_trichotomy (K x) (K y) with h | h | h
        · exact absurd ⟨x, y, hx, hy, h⟩ hn
        · exact h
        · exact absurd ⟨y, x, hy, hx, h⟩ hn
      have h := ring_ok hc ha hb hab
      have h2 := h.len
      refine ⟨⟨fun e => absurd e hne, fun e => absurd e hl⟩, hsub, len_le h.list_nodup hsub, fun h3 i hi => ?_, fun h3 i hi x hx => (h.to hi).left x hx, fun x hx => h.within_all hc hx, fun h3 q hq => h.within hc h3 hq⟩
      exact h.turns h3 i _ _ _ (h.has hi) (h.has (h.nx i)) (h.has (Nat.mod_lt _ (by omega)))
end Go.Proofs.Ytgeoffpcmkofkaa
