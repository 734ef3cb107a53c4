/- What holds of all corners of a part holds of all its points. (Pure.) -/
import Derived.Test.YtgeoffpcmkofkaaHb
namespace Go.Proofs.Ytgeoffpcmkofkaa
/-- D u v is affine. -/
def Aff {α : Type} (D : α → α → α → Int) (K : α → Int) : Prop := ∀ u v a b x, D u v x * (K b - K a) = D u v a * (K b - K x) + D u v b * (K x - K a) + D a b x * (K v - K u)
section
variable {α : Type} {D : α → α → α → Int} {K : α → Int}
theorem Aff.neg (h : Aff D K) : Aff D (fun x => -K x) := fun u v a b x => by have := h u v a b x; grind
/-- The side of the way below which, or above which, x lies. -/
theorem span : ∀ {way : List α} {x : α}, Falls K way → (∀ t ∈ way.head?, K x ≤ K t) → (∀ m ∈ way.getLast?, K m ≤ K x) → way ≠ [] → LeftOf D x way → (∃ m, way = [m] ∧ K x = K m) ∨ ∃ a b, a ∈ way ∧ b ∈ way ∧ K a < K b ∧ K a ≤ K x ∧ K x ≤ K b ∧ 0 ≤ D a b x
  | [], x, _, _, _, hn, _ => absurd rfl hn
  | [m], x, _, ht, hl, _, _ => .inl ⟨m, rfl, by
      have h1 := ht m (by simp)
      have h2 := hl m (by simp)
      omega⟩
  | b :: a :: l, x, hf, ht, hl, _, hx => by
    rcases Int.lt_or_le (K x) (K a) with hk | hk
    · rcases span hf.2 (fun t e => by
        have : a = t := by simpa using e
        rw [← this]; exact Int.le_of_lt hk) (by simpa using hl) (by simp) hx.2 with ⟨m, e, e'⟩ | ⟨a', b', h1, h2, h3⟩
      · injection e with e1 e2
        subst e1
        omega
      · exact .inr ⟨a', b', List.mem_cons_of_mem _ h1, List.mem_cons_of_mem _ h2, h3⟩
    · exact .inr ⟨a, b, by simp, by simp, hf.1, hk, ht b (by simp), hx.1⟩
/-- A side that looks forward: it is enough to look at the way's points. -/
theorem enough (hA : Aff D K) {Seen : α → Prop} {way : List α} (hw : WayOK D K Seen way) {u v : α} (huv : K u ≤ K v) (hc : ∀ c ∈ way, 0 ≤ D u v c) {x : α} (hx : Seen x) : 0 ≤ D u v x := by
  have ht : ∀ t ∈ way.head?, K x ≤ K t := by
    intro t e
    cases way with
    | nil => simp at e
    | cons t' l =>
      have : t' = t := by simpa using e
      subst this
      exact hw.top t' l rfl x hx
  rcases span hw.falls ht (fun m e => (hw.low m e x hx).1) hw.some (hw.left x hx) with ⟨m, e, e'⟩ | ⟨a, b, h1, h2, h3, h4, h5, h6⟩
  · have : x = m := (hw.low m (by rw [e]; simp) x hx).2 e'
    rw [this]
    exact hc m (by rw [e]; simp)
  · have e := hA u v a b x
    refine pos_of (b := K b - K a) ?_ (by omega)
    rw [e]
    have a1 := Int.mul_nonneg (hc a h1) (show 0 ≤ K b - K x by omega)
    have a2 := Int.mul_nonneg (hc b h2) (show 0 ≤ K x - K a by omega)
    have a3 := Int.mul_nonneg h6 (show 0 ≤ K v - K u by omega)
    omega
end
end Go.Proofs.Ytgeoffpcmkofkaa
