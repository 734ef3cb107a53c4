/- Circles through two points: which of them hold which points; what lies beyond a side of an empty circle. -/
import Derived.Test.YtgeoffpcmkofkaaGreatGeo
import Derived.Test.YtgeoffpcmkofkaaGreatWx
namespace Go.Proofs.YtgeoffpcmkofkaaGreat

theorem lt_or_ge' (a b : Int) : a < b ∨ b ≤ a := by omega
/-- The circle's determinant of four points. -/
def C (a b c d : Pt) : Int := cdet a.1 a.2 b.1 b.2 c.1 c.2 d.1 d.2
/-- How a point sees two others: their directions' product. -/
def dot (u v p : Pt) : Int := (u.1 - p.1) * (v.1 - p.1) + (u.2 - p.2) * (v.2 - p.2)

/-- THE CIRCLES THROUGH TWO POINTS: the circle side is a cross product of two numbers that each point has by itself. -/
theorem C_cross (u v p q : Pt) : C u v p q = dot u v p * D u v q - dot u v q * D u v p := by
  unfold C cdet dot D det
  grind
theorem dot_swap (u v p : Pt) : dot v u p = dot u v p := by unfold dot; grind
theorem D_swap' (u v p : Pt) : D v u p = -D u v p := by unfold D det; grind
theorem C_swap (u v p q : Pt) : C v u p q = -C u v p q := by
  rw [C_cross, C_cross, dot_swap u v p, dot_swap u v q, D_swap' u v p, D_swap' u v q]; grind
theorem C_turn (u v p q : Pt) : C v p u q = C u v p q := by unfold C cdet; grind
theorem C_self (u v p : Pt) : C u v p p = 0 := by rw [C_cross]; omega
theorem C_first (u v p : Pt) : C u v p u = 0 := by unfold C cdet; grind
theorem C_second (u v p : Pt) : C u v p v = 0 := by unfold C cdet; grind
theorem C_anti (u v p q : Pt) : C u v q p = -C u v p q := by rw [C_cross, C_cross]; grind

theorem nonpos_of_mul {d x : Int} (hd : 0 < d) (h : d * x ≤ 0) : x ≤ 0 := by
  rcases lt_or_ge' 0 x with h1 | h1
  · have := Int.mul_pos hd h1; omega
  · exact h1

/-- On one side of two points, 'not within' is an order. -/
theorem C_trans {u v p q r : Pt} (hp : 0 < D u v p) (hq : 0 < D u v q) (hr : 0 < D u v r) (h1 : C u v p q ≤ 0) (h2 : C u v q r ≤ 0) : C u v p r ≤ 0 := by
  rw [C_cross] at *
  apply nonpos_of_mul hq
  have e : D u v q * (dot u v p * D u v r - dot u v r * D u v p) = D u v r * (dot u v p * D u v q - dot u v q * D u v p) + D u v p * (dot u v q * D u v r - dot u v r * D u v q) := by grind
  rw [e]
  have a1 : D u v r * (dot u v p * D u v q - dot u v q * D u v p) ≤ 0 := Int.mul_nonpos_of_nonneg_of_nonpos (by omega) h1
  have a2 : D u v p * (dot u v q * D u v r - dot u v r * D u v q) ≤ 0 := Int.mul_nonpos_of_nonneg_of_nonpos (by omega) h2
  omega
theorem C_total (u v p q : Pt) : C u v p q ≤ 0 ∨ C u v q p ≤ 0 := by
  rw [C_anti u v p q]; omega

/-- Of the points on one side there is one whose circle holds none of them. -/
theorem least {u v : Pt} : ∀ (S : List Pt), (∃ x ∈ S, 0 < D u v x) → ∃ p ∈ S, 0 < D u v p ∧ ∀ q ∈ S, 0 < D u v q → C u v p q ≤ 0
  | [], h => by obtain ⟨x, hx, _⟩ := h; simp at hx
  | a :: S, h => by
    by_cases hS : ∃ x ∈ S, 0 < D u v x
    · obtain ⟨p, hp, hd, hm⟩ := least S hS
      by_cases ha : 0 < D u v a
      · rcases C_total u v p a with h1 | h1
        · refine ⟨p, by simp [hp], hd, fun q hq hqd => ?_⟩
          rcases List.mem_cons.1 hq with rfl | hq
          · exact h1
          · exact hm q hq hqd
        · refine ⟨a, by simp, ha, fun q hq hqd => ?_⟩
          rcases List.mem_cons.1 hq with rfl | hq
          · rw [C_self]; omega
          · exact C_trans ha hd hqd h1 (hm q hq hqd)
      · refine ⟨p, by simp [hp], hd, fun q hq hqd => ?_⟩
        rcases List.mem_cons.1 hq with rfl | hq
        · exact absurd hqd ha
        · exact hm q hq hqd
    · obtain ⟨x, hx, hxd⟩ := h
      rcases List.mem_cons.1 hx with rfl | hx
      · refine ⟨x, by simp, hxd, fun q hq hqd => ?_⟩
        rcases List.mem_cons.1 hq with rfl | hq
        · rw [C_self]; omega
        · exact absurd ⟨q, hq, hqd⟩ hS
      · exact absurd ⟨x, hx, hxd⟩ hS

/-- No point of S lies within the circle through three points. -/
def Empty (S : List Pt) (a b c : Pt) : Prop := ∀ x ∈ S, C a b c x ≤ 0

/-- BEYOND A SIDE OF AN EMPTY CIRCLE: the one whose circle holds none of those beyond holds none at all. -/
theorem beyond {S : List Pt} {u v p w : Pt} (hp : 0 < D u v p) (he : Empty S u v p) (hwS : w ∈ S) (hw : 0 < D v u w) (hm : ∀ q ∈ S, 0 < D v u q → C v u w q ≤ 0) : Empty S v u w := by
  intro x hx
  have hdw : D u v w < 0 := by rw [D_swap'] at hw; omega
  rcases Int.lt_trichotomy (D u v x) 0 with h | h | h
  · exact hm x hx (by rw [D_swap']; omega)
  · -- on the line
    have e1 := he x hx
    rw [C_cross, h] at e1
    rw [C_swap, C_cross, h]
    have hg : 0 ≤ dot u v x := by
      rcases lt_or_ge' (dot u v x) 0 with g | g
      · have := Int.mul_pos (show 0 < -dot u v x by omega) hp
        have e : -dot u v x * D u v p = -(dot u v x * D u v p) := by grind
        omega
      · exact g
    have := Int.mul_nonpos_of_nonneg_of_nonpos hg (show D u v w ≤ 0 by omega)
    omega
  · have e1 := he w hwS
    have e2 := he x hx
    rw [C_swap, C_cross]
    rw [C_cross] at e1 e2
    apply nonpos_of_mul hp
    have e : D u v p * -(dot u v w * D u v x - dot u v x * D u v w) = D u v x * (dot u v p * D u v w - dot u v w * D u v p) + (-D u v w) * (dot u v p * D u v x - dot u v x * D u v p) := by grind
    rw [e]
    have a1 : D u v x * (dot u v p * D u v w - dot u v w * D u v p) ≤ 0 := Int.mul_nonpos_of_nonneg_of_nonpos (by omega) e1
    have a2 : (-D u v w) * (dot u v p * D u v x - dot u v x * D u v p) ≤ 0 := Int.mul_nonpos_of_nonneg_of_nonpos (by omega) e2
    omega

/-- ON THE HULL: where nothing lies beyond, the one whose circle holds none of those on this side holds none at all, if none lies between the two. -/
theorem onHull {S : List Pt} {u v p : Pt} (hS : ∀ x ∈ S, 0 ≤ D u v x) (hb : ∀ x ∈ S, D u v x = 0 → 0 ≤ dot u v x) (hp : 0 < D u v p) (hm : ∀ q ∈ S, 0 < D u v q → C u v p q ≤ 0) : Empty S u v p := by
  intro x hx
  rcases lt_or_ge' 0 (D u v x) with h | h
  · exact hm x hx h
  · have h0 : D u v x = 0 := by have := hS x hx; omega
    rw [C_cross, h0]
    have := Int.mul_nonneg (hb x hx h0) (show 0 ≤ D u v p by omega)
    omega

end Go.Proofs.YtgeoffpcmkofkaaGreat
