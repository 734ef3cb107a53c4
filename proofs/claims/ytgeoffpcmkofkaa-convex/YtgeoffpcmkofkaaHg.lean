/- The two ways of one list make a round. (Pure.) -/
import Derived.Test.YtgeoffpcmkofkaaHf
namespace Go.Proofs.Ytgeoffpcmkofkaa
section
variable {α : Type} {D : α → α → α → Int} {K : α → Int} {Seen : α → Prop}
theorem WayOK.two {L : List α} (h : WayOK D K Seen L) {a b : α} (ha : Seen a) (hb : Seen b) (hab : K a < K b) : 2 ≤ L.length := by
  cases L with
  | nil => exact absurd rfl h.some
  | cons t l =>
    cases l with
    | cons u l => simp
    | nil =>
      have h1 := h.top t [] rfl b hb
      have h2 := (h.low t (by simp) a ha).1
      have h3 := h.low t (by simp) b hb
      omega
/-- The first of one is the last of the other. -/
theorem ends_meet {L U : List α} (h : WayOK D K Seen L) (hu : WayOK D (fun x => -K x) Seen U) : L.head? = U.getLast? := by
  cases L with
  | nil => exact absurd rfl h.some
  | cons t l =>
    cases hm : U.getLast? with
    | none => exact absurd (List.getLast?_eq_none_iff.1 hm) hu.some
    | some m =>
      have ht : Seen t := h.part t (by simp)
      have hsm : Seen m := hu.part m (List.mem_of_getLast? hm)
      have h1 := h.top t l rfl m hsm
      have h2 := hu.low m (by rw [hm]; rfl) t ht
      have : t = m := h2.2 (by have := h2.1; omega)
      rw [this]
      rfl
theorem round_of {L U : List α} (h : WayOK D K Seen L) (hu : WayOK D (fun x => -K x) Seen U) {a b : α} (ha : Seen a) (hb : Seen b) (hab : K a < K b) : Round L.reverse U.reverse (L.length - 1) (U.length - 1) := by
  have l2 := h.two ha hb hab
  have u2 := hu.two hb ha (by omega)
  have hu' : WayOK D (fun x => - -K x) Seen L := by
    have e : (fun x => - -K x) = K := by funext x; omega
    rw [e]; exact h
  have m1 := ends_meet h hu
  have m2 := ends_meet hu hu'
  refine ⟨by simp; omega, by simp; omega, by omega, by omega, ?_, ?_⟩
  · rw [List.getElem?_reverse (by omega), List.getElem?_reverse (by omega), show L.length - 1 - (L.length - 1) = 0 by omega, Nat.sub_zero, ← List.head?_eq_getElem?, m1, List.getLast?_eq_getElem?]
  · rw [List.getElem?_reverse (by omega), List.getElem?_reverse (by omega), show U.length - 1 - (U.length - 1) = 0 by omega, Nat.sub_zero, ← List.head?_eq_getElem?, m2, List.getLast?_eq_getElem?]
end
end Go.Proofs.Ytgeoffpcmkofkaa
