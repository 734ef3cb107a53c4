/- The corner behind a corner is one alone. (Pure.) -/
import Derived.Test.YtgeoffpcmkofkaaHg
namespace Go.Proofs.Ytgeoffpcmkofkaa
section
variable {α : Type} {D : α → α → α → Int} {K : α → Int} {Seen : α → Prop}
/-- From x towards k all lie to the left, none straight behind x. -/
structure Towards (D : α → α → α → Int) (K : α → Int) (Seen : α → Prop) (x k : α) : Prop where
  left : ∀ j, Seen j → 0 ≤ D x k j
  ahead : K x < K k → ∀ j, Seen j → D x k j = 0 → ¬K j < K x
  backward : K k < K x → ∀ j, Seen j → D x k j = 0 → ¬K x < K j
  apart : K x ≠ K k
theorem no_between (hP : Pl D K) (hA : Aff D K) {x k a b : α} (h : Towards D K Seen x k) (ha : Seen a) (hb : Seen b) (k1 : K a < K x) (k2 : K x < K b) (hz : D a b x = 0) : False := by
  have e := hA x k a b x
  rw [hP.same, hz] at e
  have fa := h.left a ha
  have fb := h.left b hb
  have a1 := Int.mul_nonneg fa (show 0 ≤ K b - K x by omega)
  have a2 := Int.mul_nonneg fb (show 0 ≤ K x - K a by omega)
  have z1 : D x k a = 0 := by
    rcases Int.lt_or_le 0 (D x k a) with hpos | hneg
    · have := Int.mul_pos hpos (show 0 < K b - K x by omega)
      omega
    · omega
  have z2 : D x k b = 0 := by
    rcases Int.lt_or_le 0 (D x k b) with hpos | hneg
    · have := Int.mul_pos hpos (show 0 < K x - K a by omega)
      omega
    · omega
  rcases Int.lt_or_le (K x) (K k) with hk | hk
  · exact h.ahead hk a ha z1 k1
  · exact h.backward (by have := h.apart; omega) b hb z2 k2
/-- Two corners that both have all at their left, seen from a third, are one. -/
theorem next_one (hP : Pl D K) (hA : Aff D K) {x k k' e e' : α} (hx : Seen x) (hk : Seen k) (hk' : Seen k') (ht : Towards D K Seen x k) (hc : Towards D K Seen k e) (hc' : Towards D K Seen k' e') (h' : 0 ≤ D x k' k) (ne : K k' ≠ K x) : K k' = K k := by
  have h1 := ht.left k' hk'
  have r1 := hP.swp x k k'
  have r2 := hP.rot k x k'
  have hz : D x k k' = 0 := by
    have := hP.rot k' k x
    have := hP.rot x k' k
    have := hP.rot k x k'
    omega
  have hz' : D x k' k = 0 := by
    have := hP.rot k' k x
    have := hP.rot x k' k
    have := hP.swp k' k x
    have := hP.rot x k k'
    omega
  have hs : D k x k' = 0 := by have := hP.swp x k k'; omega
  have hs' : D k' x k = 0 := by have := hP.swp x k' k; omega
  rcases Int.lt_or_le (K x) (K k) with hk1 | hk1
  · have b1 := ht.ahead hk1 k' hk' hz
    rcases Int.lt_trichotomy (K k') (K k) with hq | hq | hq
    · exact (no_between hP hA hc' hx hk (by omega) hq (by have := hP.rot x k k'; omega)).elim
    · exact hq
    · exact (no_between hP hA hc hx hk' hk1 hq hz').elim
  · have hk2 : K k < K x := by have := ht.apart; omega
    have b1 := ht.backward hk2 k' hk' hz
    rcases Int.lt_trichotomy (K k') (K k) with hq | hq | hq
    · exact (no_between hP hA hc hk' hx hq hk2 hs').elim
    · exact hq
    · exact (no_between hP hA hc' hk hx hq (by omega) hs).elim
end
end Go.Proofs.Ytgeoffpcmkofkaa
