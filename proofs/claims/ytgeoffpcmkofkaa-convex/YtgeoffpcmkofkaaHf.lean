/- Which points are corners. (Pure.) -/
import Derived.Test.YtgeoffpcmkofkaaHe
namespace Go.Proofs.Ytgeoffpcmkofkaa
section
variable {α : Type} {D : α → α → α → Int} {K : α → Int} {Seen : α → Prop}
/-- A point from which all others lie left of a way forward, none of them straight behind it, is one of the way there. -/
theorem corner_in (hP : Pl D K) (hA : Aff D K) {way : List α} (hw : WayOK D K Seen way) {x k : α} (hx : Seen x) (hk : K x < K k) (hF : ∀ j, Seen j → 0 ≤ D x k j) (back : ∀ j, Seen j → D x k j = 0 → ¬K j < K x) (inj : ∀ a, Seen a → K a = K x → a = x) : x ∈ way := by
  have ht : ∀ t ∈ way.head?, K x ≤ K t := by
    intro t e
    cases way with
    | nil => simp at e
    | cons t' l =>
      have : t' = t := by simpa using e
      subst this
      exact hw.top t' l rfl x hx
  rcases span hw.falls ht (fun m e => (hw.low m e x hx).1) hw.some (hw.left x hx) with ⟨m, e, e'⟩ | ⟨a, b, h1, h2, h3, h4, h5, h6⟩
  · have : m = x := inj m (hw.part m (by rw [e]; simp)) e'.symm
    rw [e, this]
    simp
  · by_cases ka : K a = K x
    · rw [← inj a (hw.part a h1) ka]; exact h1
    · by_cases kb : K b = K x
      · rw [← inj b (hw.part b h2) kb]; exact h2
      · exfalso
        have e := hA x k a b x
        rw [hP.same] at e
        have fa := hF a (hw.part a h1)
        have fb := hF b (hw.part b h2)
        have a2 := Int.mul_nonneg fb (show 0 ≤ K x - K a by omega)
        have a3 := Int.mul_nonneg h6 (show 0 ≤ K k - K x by omega)
        have z : D x k a = 0 := by
          rcases Int.lt_or_le 0 (D x k a) with hpos | hneg
          · have := Int.mul_pos hpos (show 0 < K b - K x by omega)
            omega
          · omega
        exact back a (hw.part a h1) z (by omega)
/-- A point of the way there, but its last, is such a point: towards the next one. -/
theorem in_corner (hP : Pl D K) {T : List α} (hT : Rises D K Seen T) (first : ∀ f, T[0]? = some f → ∀ j, Seen j → K f ≤ K j) {i : Nat} {x k : α} (e1 : T[i]? = some x) (e2 : T[i + 1]? = some k) : K x < K k ∧ (∀ j, Seen j → 0 ≤ D x k j) ∧ ∀ j, Seen j → D x k j = 0 → ¬K j < K x := by
  have hk := hT.rise i x k e1 e2
  refine ⟨hk, fun j hj => hT.left i x k j e1 e2 hj, fun j hj hz hlt => ?_⟩
  cases i with
  | zero =>
    have := first x e1 j hj
    omega
  | succ i =>
    have hlen : i < T.length := by
      have := (List.getElem?_eq_some_iff.1 e1).1
      omega
    have ea : T[i]? = some T[i] := List.getElem?_eq_getElem hlen
    have t := hT.turns i T[i] x k ea e1 e2
    have l := hT.left i T[i] x j ea e1 hj
    generalize T[i] = a at t l
    -- at x: D x a j * (K k - K x) = D x k j * (K a - K x) - D x k a * (K j - K x)
    have e := hP.pl x k a j
    rw [hz] at e
    have r1 := hP.swp a x j
    have r2 := hP.rot a x k
    have a1 := Int.mul_nonneg l (show 0 ≤ K k - K x by omega)
    have a2 := Int.mul_pos t (show 0 < K x - K j by omega)
    have e3 : D x a j * (K k - K x) = -(D a x j * (K k - K x)) := by rw [r1]; grind
    have e4 : 0 * (K a - K x) - D x k a * (K j - K x) = D a x k * (K x - K j) := by rw [r2]; grind
    omega
end
end Go.Proofs.Ytgeoffpcmkofkaa
