/- What rounding can make up at the most: sums, differences and products. In parts of 2 to the power 60. -/
import Derived.Test.YtgeoffpcmkofkaaExp
namespace Go.Proofs.Ytgeoffpcmkofkaa.Fl

def W : Int := 1152921504606846976
theorem W_eq : W = 1152921504606846976 := rfl
theorem W_pos : 0 < W := by decide

/-- x stands for X; both are of the size s; k parts of it may be wrong. -/
structure E (X x s k : Int) : Prop where
  err : ((X - x).natAbs : Int) * W ≤ k * s
  size : (x.natAbs : Int) * W ≤ (W + k) * s
  nonneg : 0 ≤ s

theorem Rnd.part {x z : Int} (h : Rnd x z) : ((x - z).natAbs : Int) * W ≤ 128 * x.natAbs ∧ ((x - z).natAbs : Int) * W ≤ 129 * z.natAbs := by
  have hr := h.rel
  have e53 : (2 : Int) ^ 53 = 9007199254740992 := by decide
  rw [e53] at hr
  rw [W_eq]
  omega

theorem E.rnd {x z : Int} (h : Rnd x z) : E x z z.natAbs 129 := by
  have hp := h.part
  refine ⟨hp.2, ?_, by omega⟩
  rw [W_eq]; omega

theorem E.self (x : Int) : E x x x.natAbs 0 := by
  refine ⟨by simp, ?_, by omega⟩
  rw [W_eq]; omega

theorem E.mono {X x s j k : Int} (h : E X x s j) (hk : j ≤ k) : E X x s k := by
  have h1 : j * s ≤ k * s := Int.mul_le_mul_of_nonneg_right hk h.nonneg
  have h2 : (W + j) * s ≤ (W + k) * s := Int.mul_le_mul_of_nonneg_right (by omega) h.nonneg
  exact ⟨Int.le_trans h.err h1, Int.le_trans h.size h2, h.nonneg⟩

theorem E.add {X x s Y y t k : Int} (h : E X x s k) (g : E Y y t k) : E (X + Y) (x + y) (s + t) k := by
  have h1 := h.err
  have g1 := g.err
  have h2 := h.size
  have g2 := g.size
  have h3 := h.nonneg
  have g3 := g.nonneg
  have e1 : k * (s + t) = k * s + k * t := by grind
  have e2 : (W + k) * (s + t) = (W + k) * s + (W + k) * t := by grind
  refine ⟨?_, ?_, by omega⟩
  · rw [e1]; rw [W_eq] at *; omega
  · rw [e2]
    generalize (W + k) * s = a at *
    generalize (W + k) * t = b at *
    rw [W_eq] at *; omega

theorem E.neg {X x s k : Int} (h : E X x s k) : E (-X) (-x) s k := by
  refine ⟨?_, ?_, h.nonneg⟩
  · have e : ((-X - -x).natAbs : Int) = (X - x).natAbs := by omega
    rw [e]; exact h.err
  · rw [Int.natAbs_neg]; exact h.size

theorem E.sub {X x s Y y t k : Int} (h : E X x s k) (g : E Y y t k) : E (X - Y) (x - y) (s + t) k := by
  have := h.add g.neg
  rwa [← Int.sub_eq_add_neg, ← Int.sub_eq_add_neg] at this

/-- Cancelling the parts. -/
theorem W_cancel {a b : Int} (h : a * W ≤ b * W) : a ≤ b := Int.le_of_mul_le_mul_right h W_pos

theorem E.mul {X x s Y y t j k : Int} (h : E X x s j) (g : E Y y t k) (hj : 0 ≤ j) (hk : 0 ≤ k) (hj2 : j ≤ 1048576) (hk2 : k ≤ 1048576) : E (X * Y) (x * y) (s * t) (j + k + 3) := by
  have h1 := h.err
  have g1 := g.err
  have h2 := h.size
  have g2 := g.size
  have hs := h.nonneg
  have ht := g.nonneg
  have hst : 0 ≤ s * t := Int.mul_nonneg hs ht
  have hjk : j * k ≤ 1048576 * 1048576 := Int.mul_le_mul hj2 hk2 hk (by decide)
  have hW : W = 1152921504606846976 := rfl
  refine ⟨?_, ?_, hst⟩
  · have hd : ((X * Y - x * y).natAbs : Int) ≤ (X - x).natAbs * y.natAbs + x.natAbs * (Y - y).natAbs + (X - x).natAbs * (Y - y).natAbs := by
      have e : X * Y - x * y = (X - x) * y + x * (Y - y) + (X - x) * (Y - y) := by grind
      rw [e]
      have a1 := Int.natAbs_add_le ((X - x) * y + x * (Y - y)) ((X - x) * (Y - y))
      have a2 := Int.natAbs_add_le ((X - x) * y) (x * (Y - y))
      rw [← Int.natCast_mul, ← Int.natCast_mul, ← Int.natCast_mul, ← Int.natAbs_mul, ← Int.natAbs_mul, ← Int.natAbs_mul]
      omega
    generalize ((X * Y - x * y).natAbs : Int) = d at *
    have p1 : ((X - x).natAbs : Int) * W * (y.natAbs * W) ≤ (j * s) * ((W + k) * t) := Int.mul_le_mul h1 g2 (Int.mul_nonneg (by omega) (by omega)) (Int.mul_nonneg hj hs)
    have p2 : ((Y - y).natAbs : Int) * W * (x.natAbs * W) ≤ (k * t) * ((W + j) * s) := Int.mul_le_mul g1 h2 (Int.mul_nonneg (by omega) (by omega)) (Int.mul_nonneg hk ht)
    have p3 : ((X - x).natAbs : Int) * W * ((Y - y).natAbs * W) ≤ (j * s) * (k * t) := Int.mul_le_mul h1 g1 (Int.mul_nonneg (by omega) (by omega)) (Int.mul_nonneg hj hs)
    apply W_cancel
    have q1 : d * W * W ≤ ((X - x).natAbs * y.natAbs + x.natAbs * (Y - y).natAbs + (X - x).natAbs * (Y - y).natAbs) * W * W :=
      Int.mul_le_mul_of_nonneg_right (Int.mul_le_mul_of_nonneg_right hd (by omega)) (by omega)
    have q2 : (((X - x).natAbs : Int) * y.natAbs + x.natAbs * (Y - y).natAbs + (X - x).natAbs * (Y - y).natAbs) * W * W = ((X - x).natAbs : Int) * W * (y.natAbs * W) + ((Y - y).natAbs : Int) * W * (x.natAbs * W) + ((X - x).natAbs : Int) * W * ((Y - y).natAbs * W) := by grind
    have q3 : (j * s) * ((W + k) * t) + (k * t) * ((W + j) * s) + (j * s) * (k * t) = ((j + k) * (s * t)) * W + 3 * ((j * k) * (s * t)) := by grind
    have q4 : (j * k) * (s * t) ≤ W * (s * t) := Int.mul_le_mul_of_nonneg_right (by omega) hst
    have q5 : (j + k + 3) * (s * t) * W = ((j + k) * (s * t)) * W + 3 * (W * (s * t)) := by grind
    omega
  · rw [Int.natAbs_mul, Int.natCast_mul]
    have p1 : ((x.natAbs : Int) * W) * (y.natAbs * W) ≤ ((W + j) * s) * ((W + k) * t) := Int.mul_le_mul h2 g2 (Int.mul_nonneg (by omega) (by omega)) (Int.mul_nonneg (by omega) hs)
    apply W_cancel
    have q1 : (x.natAbs : Int) * y.natAbs * W * W = ((x.natAbs : Int) * W) * (y.natAbs * W) := by grind
    have q2 : ((W + j) * s) * ((W + k) * t) = (W + j + k) * (s * t) * W + (j * k) * (s * t) := by grind
    have q4 : (j * k) * (s * t) ≤ W * (s * t) := Int.mul_le_mul_of_nonneg_right (by omega) hst
    have q5 : (W + (j + k + 3)) * (s * t) * W = (W + j + k) * (s * t) * W + 3 * (W * (s * t)) := by grind
    have q6 : 0 ≤ W * (s * t) := Int.mul_nonneg (by omega) hst
    omega

/-- Rounded, the size as it was. -/
theorem E.roundS {X x s k z : Int} (h : E X x s k) (hz : Rnd x z) (hk : 0 ≤ k) (hk2 : k ≤ 1048576) : E X z s (k + 130) := by
  have h1 := h.err
  have h2 := h.size
  have hs := h.nonneg
  have hp := hz.part.1
  have hks : k * s ≤ 1048576 * s := Int.mul_le_mul_of_nonneg_right hk2 hs
  have hks0 : 0 ≤ k * s := Int.mul_nonneg hk hs
  have e1 : (k + 130) * s = k * s + 130 * s := by grind
  have e2 : (W + k) * s = 1152921504606846976 * s + k * s := by rw [W_eq]; grind
  have e3 : (W + (k + 130)) * s = 1152921504606846976 * s + k * s + 130 * s := by rw [W_eq]; grind
  rw [e2] at h2
  rw [W_eq] at h1 h2 hp
  refine ⟨?_, ?_, hs⟩
  · rw [e1, W_eq]; generalize k * s = m at *; omega
  · rw [e3, W_eq]; generalize k * s = m at *; omega

/-- Rounded, the size that of what comes out. -/
theorem E.round {X x s k z : Int} (h : E X x s k) (hz : Rnd x z) (hs : s = x.natAbs) (hk : 0 ≤ k) (hk2 : k ≤ 1048576) : E X z z.natAbs (k + 130) := by
  have h1 := h.err
  have hp := hz.part
  subst hs
  have hkx : k * ((x.natAbs : Int)) * W ≤ k * z.natAbs * W + W * z.natAbs := by
    have a1 : (x.natAbs : Int) * W ≤ (z.natAbs : Int) * W + 129 * z.natAbs := by rw [W_eq] at *; omega
    have a2 : k * ((x.natAbs : Int) * W) ≤ k * ((z.natAbs : Int) * W + 129 * z.natAbs) := Int.mul_le_mul_of_nonneg_left a1 hk
    have a3 : k * (z.natAbs : Int) ≤ 1048576 * z.natAbs := Int.mul_le_mul_of_nonneg_right hk2 (by omega)
    have a4 : k * ((z.natAbs : Int) * W + 129 * z.natAbs) = k * z.natAbs * W + 129 * (k * z.natAbs) := by grind
    have a5 : k * ((x.natAbs : Int) * W) = k * ((x.natAbs : Int)) * W := by grind
    have : W * (z.natAbs : Int) = 1152921504606846976 * z.natAbs := rfl
    omega
  have hkx2 : k * ((x.natAbs : Int)) ≤ k * z.natAbs + z.natAbs := by
    apply W_cancel
    have : (k * (z.natAbs : Int) + z.natAbs) * W = k * z.natAbs * W + W * z.natAbs := by grind
    omega
  have e1 : (k + 130) * (z.natAbs : Int) = k * z.natAbs + 130 * z.natAbs := by grind
  have e3 : (W + (k + 130)) * (z.natAbs : Int) = 1152921504606846976 * z.natAbs + k * z.natAbs + 130 * z.natAbs := by rw [W_eq]; grind
  have h0 : 0 ≤ k * (z.natAbs : Int) := Int.mul_nonneg hk (by omega)
  rw [W_eq] at h1 hp
  refine ⟨?_, ?_, by omega⟩
  · rw [e1, W_eq]; generalize k * (z.natAbs : Int) = m at *; generalize k * (x.natAbs : Int) = n at *; omega
  · rw [e3, W_eq]; generalize k * (z.natAbs : Int) = m at *; omega

/-- z is hardly less than s. -/
def G (s z c : Int) : Prop := s * W ≤ (W + c) * z ∧ 0 ≤ z

theorem G.rnd {x z : Int} (h : Rnd x z) (h0 : 0 ≤ x) : G x z 129 := by
  have hp := h.part.2
  have h1 := h.ge Rep.zero h0
  rw [W_eq] at hp
  refine ⟨?_, h1⟩
  rw [W_eq]; omega

theorem G.add {s z t y c : Int} (h : G s z c) (g : G t y c) : G (s + t) (z + y) c := by
  have e1 : (s + t) * W = s * W + t * W := by grind
  have e2 : (W + c) * (z + y) = (W + c) * z + (W + c) * y := by grind
  refine ⟨?_, by have := h.2; have := g.2; omega⟩
  rw [e1, e2]; have := h.1; have := g.1; omega

theorem G.mul {s z c q : Int} (h : G s z c) (hq : 0 ≤ q) : G (q * s) (q * z) c := by
  refine ⟨?_, Int.mul_nonneg hq h.2⟩
  have := Int.mul_le_mul_of_nonneg_left h.1 hq
  have e1 : q * s * W = q * (s * W) := by grind
  have e2 : (W + c) * (q * z) = q * ((W + c) * z) := by grind
  rw [e1, e2]; exact this

theorem G.round {s x z c : Int} (h : G s x c) (hz : Rnd x z) (hc : 0 ≤ c) (hc2 : c ≤ 1048576) : G s z (c + 130) := by
  have g := G.rnd hz h.2
  refine ⟨?_, g.2⟩
  apply W_cancel
  have a1 : s * W * W ≤ (W + c) * x * W := Int.mul_le_mul_of_nonneg_right h.1 (by decide)
  have a2 : (W + c) * (x * W) ≤ (W + c) * ((W + 129) * z) := Int.mul_le_mul_of_nonneg_left g.1 (by have := W_pos; omega)
  have a3 : (W + c) * (x * W) = (W + c) * x * W := by grind
  have a4 : (W + c) * ((W + 129) * z) = (W + c + 129) * z * W + 129 * (c * z) := by grind
  have a5 : c * z ≤ 1048576 * z := Int.mul_le_mul_of_nonneg_right hc2 g.2
  have a6 : (W + (c + 130)) * z * W = (W + c + 129) * z * W + W * z := by grind
  have a7 : W * z = 1152921504606846976 * z := rfl
  have := g.2
  omega

/-- A rounded value that is greater than the slack has the sign of the exact one. -/
theorem sign_sure {X d s S k c : Int} {m : Int} (h : E X d s k) (g : G s S c) (hk : k ≤ 521) (hc : c ≤ 1000) (hm : m = 1125899906842624) : (S < d * m → 0 < X) ∧ (d * m < -S → X < 0) := by
  have h1 := (h.mono hk).err
  have h2 := (h.mono hk).size
  have g2 := g.2
  have g1 : s * W ≤ (W + 1000) * S := Int.le_trans g.1 (Int.mul_le_mul_of_nonneg_right (by omega) g.2)
  subst hm
  rw [W_eq] at *
  omega

theorem sign_sure' {X d s S k c : Int} {m : Int} (h : E X d s k) (g : G s S c) (hk : k ≤ 1500) (hc : c ≤ 1000) (hm : m = 562949953421312) : (S < d * m → 0 < X) ∧ (d * m < -S → X < 0) := by
  have h1 := (h.mono hk).err
  have h2 := (h.mono hk).size
  have g2 := g.2
  have h3 := h.nonneg
  have g1 : s * W ≤ (W + 1000) * S := Int.le_trans g.1 (Int.mul_le_mul_of_nonneg_right (by omega) g.2)
  subst hm
  rw [W_eq] at *
  omega

end Go.Proofs.Ytgeoffpcmkofkaa.Fl
