/- There and back: where the two ways meet. (Pure.) -/
import Derived.Test.YtgeoffpcmkofkaaHa
namespace Go.Proofs.Ytgeoffpcmkofkaa
section
variable {α : Type} {D : α → α → α → Int} {K : α → Int}
theorem Pl.neg (h : Pl D K) : Pl D (fun x => -K x) := ⟨h.rot, h.swp, fun s t p x => by have := h.pl s t p x; grind⟩
/-- If the two ways do not turn where they meet, all lies in a line. -/
theorem Pl.join (h : Pl D K) {u m v x : α} (k1 : K u < K m) (k2 : K v < K m) (hd : D u m v = 0) (h1 : 0 ≤ D u m x) (h2 : 0 ≤ D m v x) : D u m x = 0 ∧ D m v x = 0 := by
  have e := h.pl m v u x
  have r1 := h.swp u m x
  have r2 := h.rot u m v
  have e0 : D m v u = 0 := by omega
  rw [e0, r1] at e
  have a1 := Int.mul_nonneg h1 (show 0 ≤ K m - K v by omega)
  have a2 := Int.mul_nonneg h2 (show 0 ≤ K m - K u by omega)
  have e1 : -D u m x * (K v - K m) = D u m x * (K m - K v) := by grind
  have e2 : D m v x * (K u - K m) - 0 * (K x - K m) = -(D m v x * (K m - K u)) := by grind
  have z1 : D u m x * (K m - K v) = 0 := by omega
  have z2 : D m v x * (K m - K u) = 0 := by omega
  rcases Int.mul_eq_zero.1 z1 with z1 | z1
  · rcases Int.mul_eq_zero.1 z2 with z2 | z2
    · exact ⟨z1, z2⟩
    · omega
  · omega
/-- The turn where the way there ends and the way back begins: there are three corners or more. -/
theorem Pl.turn (h : Pl D K) {Seen : α → Prop} {u m v : α} (k1 : K u < K m) (k2 : K v < K m) (hu : ∀ x, Seen x → 0 ≤ D u m x) (hv : ∀ x, Seen x → 0 ≤ D m v x) (hsv : Seen v)
    (more : (∃ a, Seen a ∧ 0 < D a u m) ∨ ∃ b, Seen b ∧ 0 < D m v b) : 0 < D u m v := by
  rcases Int.lt_or_le 0 (D u m v) with hd | hd
  · exact hd
  · have hz : D u m v = 0 := by have := hu v hsv; omega
    rcases more with ⟨a, ha, hp⟩ | ⟨b, hb, hp⟩
    · have := (h.join k1 k2 hz (hu a ha) (hv a ha)).1
      have r := h.rot a u m
      omega
    · have := (h.join k1 k2 hz (hu b hb) (hv b hb)).2
      omega
end
end Go.Proofs.Ytgeoffpcmkofkaa
