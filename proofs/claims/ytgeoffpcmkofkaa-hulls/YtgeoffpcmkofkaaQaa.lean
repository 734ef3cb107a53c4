/- Rnd; Flo; Exp; Wa: texts laid into one. -/
import Ieee.Arith
import Derived.Test.YtgeoffpcmkofkaaProg
import Derived.WalkKit
import Derived.WalkSpells
import Derived.WalkLawsBesides
/- Rounding to 53 binary digits, on whole numbers: what is needed of it. No condition. -/
namespace Go.Proofs.Ytgeoffpcmkofkaa.Fl

theorem p2_pos (k : Nat) : (0 : Int) < 2 ^ k := Int.pow_pos (by decide)
theorem p2_add (a b : Nat) : (2 : Int) ^ (a + b) = 2 ^ a * 2 ^ b := Int.pow_add 2 a b
theorem p2_succ (a : Nat) : (2 : Int) ^ (a + 1) = 2 * 2 ^ a := by rw [p2_add]; omega
theorem p2_dvd {a b : Nat} (h : a ≤ b) : (2 : Int) ^ a ∣ 2 ^ b := by
  obtain ⟨c, rfl⟩ := Nat.exists_eq_add_of_le h
  rw [p2_add]; exact Int.dvd_mul_right _ _
theorem p2_le {a b : Nat} (h : a ≤ b) : (2 : Int) ^ a ≤ 2 ^ b := Int.le_of_dvd (p2_pos b) (p2_dvd h)
theorem p2_ge_one (a : Nat) : (1 : Int) ≤ 2 ^ a := p2_pos a
theorem p2_lt {a b : Nat} (h : a < b) : (2 : Int) ^ a < 2 ^ b := by
  have h1 := p2_le (show a + 1 ≤ b from h)
  have h2 := p2_pos a
  rw [p2_succ] at h1; omega
theorem p2_le_iff {a b : Nat} (h : (2 : Int) ^ a ≤ 2 ^ b) : a ≤ b := by
  rcases Nat.lt_or_ge b a with h1 | h1
  · have := p2_lt h1; omega
  · exact h1
theorem p2_lt_iff {a b : Nat} (h : (2 : Int) ^ a < 2 ^ b) : a < b := by
  rcases Nat.lt_or_ge a b with h1 | h1
  · exact h1
  · have := p2_le h1; omega

theorem small_dvd {P d : Int} (h : P ∣ d) (h2 : (d.natAbs : Int) < P) : d = 0 := by
  refine Int.eq_zero_of_dvd_of_natAbs_lt_natAbs h ?_
  omega

/-- A whole number of at most 53 binary digits, zeros behind them apart. -/
def Rep (x : Int) : Prop := ∃ k : Nat, (2 : Int) ^ k ∣ x ∧ (x.natAbs : Int) ≤ 2 ^ (k + 53)

/-- z is x rounded to 53 binary digits. -/
def Rnd (x z : Int) : Prop :=
  ∃ e : Nat, (2 : Int) ^ e ∣ z ∧ 2 * ((x - z).natAbs : Int) ≤ 2 ^ e ∧ (x.natAbs : Int) < 2 ^ (e + 53) ∧ (e = 0 ∨ (2 : Int) ^ (e + 52) ≤ x.natAbs)

theorem Rep.zero : Rep 0 := ⟨0, Int.dvd_zero _, by decide⟩
theorem Rep.neg {x : Int} (h : Rep x) : Rep (-x) := by
  obtain ⟨k, h1, h2⟩ := h
  exact ⟨k, Int.dvd_neg.2 h1, by omega⟩
theorem Rep.small {x : Int} (h : (x.natAbs : Int) ≤ 2 ^ 53) : Rep x := ⟨0, by simp, by simpa using h⟩
theorem Rep.p2 (k : Nat) : Rep (2 ^ k) := ⟨k, Int.dvd_refl _, by
  have := p2_pos k
  have h2 := p2_le (show k ≤ k + 53 by omega)
  omega⟩
theorem Rep.two {x : Int} (h : Rep x) : Rep (2 * x) := by
  obtain ⟨k, h1, h2⟩ := h
  refine ⟨k + 1, ?_, ?_⟩
  · rw [p2_succ]; exact Int.mul_dvd_mul_left 2 h1
  · have : (2 : Int) ^ (k + 1 + 53) = 2 * 2 ^ (k + 53) := by rw [← p2_succ]
    omega

theorem Rnd.rep {x z : Int} (h : Rnd x z) : Rep z := by
  obtain ⟨e, h1, h2, h3, _⟩ := h
  refine ⟨e, h1, ?_⟩
  have h4 : (2 : Int) ^ e ∣ 2 ^ (e + 53) := p2_dvd (by omega)
  obtain ⟨q, hq⟩ := h1
  obtain ⟨r, hr⟩ := h4
  have hp := p2_pos e
  have hz : (z.natAbs : Int) < 2 ^ (e + 53) + 2 ^ e := by omega
  rw [hr] at hz ⊢
  subst hq
  have hq1 : q.natAbs < r + 1 := by
    rw [Int.natAbs_mul] at hz
    have : ((2 ^ e : Int).natAbs : Int) = 2 ^ e := by omega
    have hz' : (2 : Int) ^ e * q.natAbs < 2 ^ e * (r + 1) := by
      have e1 : ((((2 : Int) ^ e).natAbs * q.natAbs : Nat) : Int) = 2 ^ e * q.natAbs := by rw [Int.natCast_mul, this]
      rw [e1] at hz
      have e2 : (2 : Int) ^ e * (r + 1) = 2 ^ e * r + 2 ^ e := by grind
      omega
    exact Int.lt_of_mul_lt_mul_left hz' (by omega)
  rw [Int.natAbs_mul, Int.natCast_mul]
  have : ((2 ^ e : Int).natAbs : Int) = 2 ^ e := by omega
  rw [this]
  exact Int.mul_le_mul_of_nonneg_left (by omega) (by omega)

theorem Rnd.near_grid {x z y : Int} {e : Nat} (h1 : (2 : Int) ^ e ∣ z) (h2 : 2 * ((x - z).natAbs : Int) ≤ 2 ^ e) (hy : (2 : Int) ^ e ∣ y) : (x - z).natAbs ≤ (x - y).natAbs := by
  rcases Nat.lt_or_ge (x - y).natAbs (x - z).natAbs with h | h
  · have : z - y = 0 := small_dvd (Int.dvd_sub h1 hy) (by omega)
    omega
  · exact h

/-- No number of 53 digits lies nearer. -/
theorem Rnd.near {x z y : Int} (h : Rnd x z) (hy : Rep y) : (x - z).natAbs ≤ (x - y).natAbs := by
  obtain ⟨e, h1, h2, h3, h4⟩ := h
  obtain ⟨k, g1, g2⟩ := hy
  by_cases hk : e ≤ k
  · exact Rnd.near_grid h1 h2 (Int.dvd_trans (p2_dvd hk) g1)
  · have hx : (2 : Int) ^ (e + 52) ≤ x.natAbs := by rcases h4 with h4 | h4 <;> omega
    have hle := p2_le (show k + 53 ≤ e + 52 by omega)
    have hd : (2 : Int) ^ e ∣ 2 ^ (e + 52) := p2_dvd (by omega)
    have a1 := Rnd.near_grid h1 h2 hd
    have a2 := Rnd.near_grid h1 h2 (Int.dvd_neg.2 hd)
    omega

/-- What is a whole number of steps stays one. -/
theorem Rnd.grid {x z : Int} {k : Nat} (h : Rnd x z) (hx : (2 : Int) ^ k ∣ x) : (2 : Int) ^ k ∣ z := by
  obtain ⟨e, h1, h2, _, _⟩ := h
  by_cases hk : k ≤ e
  · exact Int.dvd_trans (p2_dvd hk) h1
  · have hp := p2_pos e
    have : x - z = 0 := small_dvd (Int.dvd_sub (Int.dvd_trans (p2_dvd (by omega : e ≤ k)) hx) h1) (by omega)
    have : z = x := by omega
    rw [this]; exact hx

theorem Rnd.exact {x z : Int} (h : Rnd x z) (hx : Rep x) : z = x := by
  have := h.near hx
  omega

theorem Rnd.self {x : Int} (hx : Rep x) (z : Int) (h : Rnd x z) : z = x := h.exact hx

/-- The rounding takes away at most one part in 2 to the power 53. -/
theorem Rnd.rel {x z : Int} (h : Rnd x z) : ((x - z).natAbs : Int) * 2 ^ 53 ≤ x.natAbs := by
  obtain ⟨e, h1, h2, h3, h4⟩ := h
  rcases h4 with h4 | h4
  · subst h4
    have : (x - z).natAbs = 0 := by omega
    rw [this]; omega
  · have : (2 : Int) ^ (e + 52) = 2 ^ e * 2 ^ 52 := p2_add e 52
    have h53 : (2 : Int) ^ 53 = 2 * 2 ^ 52 := by decide
    have : ((x - z).natAbs : Int) * 2 ^ 53 = (2 * ((x - z).natAbs : Int)) * 2 ^ 52 := by rw [h53]; grind
    have := Int.mul_le_mul_of_nonneg_right h2 (show (0 : Int) ≤ 2 ^ 52 by decide)
    omega

theorem Rnd.le {x z y : Int} (h : Rnd x z) (hy : Rep y) (hxy : x ≤ y) : z ≤ y := by
  have := h.near hy
  omega
theorem Rnd.ge {x z y : Int} (h : Rnd x z) (hy : Rep y) (hxy : y ≤ x) : y ≤ z := by
  have := h.near hy
  omega

/-- What two numbers of 53 digits part by, if it is no more than either. -/
theorem Rep.sub {x y : Int} (hx : Rep x) (hy : Rep y) (h1 : (x - y).natAbs ≤ x.natAbs) (h2 : (x - y).natAbs ≤ y.natAbs) : Rep (x - y) := by
  obtain ⟨j, a1, a2⟩ := hx
  obtain ⟨k, b1, b2⟩ := hy
  by_cases hjk : j ≤ k
  · exact ⟨j, Int.dvd_sub a1 (Int.dvd_trans (p2_dvd hjk) b1), by omega⟩
  · exact ⟨k, Int.dvd_sub (Int.dvd_trans (p2_dvd (by omega : k ≤ j)) a1) b1, by omega⟩

/-- What the rounding of a sum takes away is no more than either part. -/
theorem Rnd.lost_le {a b s : Int} (h : Rnd (a + b) s) (ha : Rep a) (hb : Rep b) : (a + b - s).natAbs ≤ a.natAbs ∧ (a + b - s).natAbs ≤ b.natAbs := by
  have h1 := h.near ha
  have h2 := h.near hb
  omega

theorem Rnd.lost_rep {a b s : Int} (h : Rnd (a + b) s) (ha : Rep a) (hb : Rep b) : Rep (a + b - s) := by
  obtain ⟨l1, l2⟩ := h.lost_le ha hb
  obtain ⟨j, a1, a2⟩ := ha
  obtain ⟨k, b1, b2⟩ := hb
  by_cases hjk : j ≤ k
  · have hd := Int.dvd_add a1 (Int.dvd_trans (p2_dvd hjk) b1)
    exact ⟨j, Int.dvd_sub hd (h.grid hd), by omega⟩
  · have hd := Int.dvd_add (Int.dvd_trans (p2_dvd (by omega : k ≤ j)) a1) b1
    exact ⟨k, Int.dvd_sub hd (h.grid hd), by omega⟩

theorem Rnd.neg {x z : Int} (h : Rnd x z) : Rnd (-x) (-z) := by
  obtain ⟨e, h1, h2, h3, h4⟩ := h
  exact ⟨e, Int.dvd_neg.2 h1, by omega, by omega, by omega⟩

/-- The greater part is taken away again without any rounding: a first. -/
theorem Rnd.fast_pos {a b s : Int} (h : Rnd (a + b) s) (ha : Rep a) (hb : Rep b) (h0 : 0 ≤ a) (hab : b.natAbs ≤ a.natAbs) : Rep (s - a) := by
  rcases Int.le_total 0 b with h1 | h1
  · have g1 := h.ge ha (by omega)
    have g2 := h.le ha.two (by omega)
    exact Rep.sub h.rep ha (by omega) (by omega)
  · by_cases h2 : a < 2 * (-b)
    · have : Rep (a + b) := by
        have := Rep.sub ha hb.neg (by omega) (by omega)
        simpa [Int.sub_neg] using this
      rw [h.exact this]
      have : a + b - a = b := by omega
      rw [this]; exact hb
    · have g1 := h.le ha (by omega)
      by_cases hg : 2 * s < a
      · obtain ⟨k, a1, a2⟩ := ha
        cases k with
        | zero =>
          have : Rep (a + b) := Rep.small (by omega)
          have := h.exact this
          omega
        | succ k =>
          obtain ⟨q, hq⟩ := a1
          rw [p2_succ] at hq
          have hq2 : a = 2 * (2 ^ k * q) := by rw [hq]; grind
          have hr : Rep (2 ^ k * q) := ⟨k, Int.dvd_mul_right _ _, by
            have : (2 : Int) ^ (k + 1 + 53) = 2 * 2 ^ (k + 53) := by rw [← p2_succ]
            omega⟩
          have := h.ge hr (by omega)
          omega
      · exact Rep.sub h.rep ha (by omega) (by omega)

theorem Rnd.fast {a b s : Int} (h : Rnd (a + b) s) (ha : Rep a) (hb : Rep b) (hab : b.natAbs ≤ a.natAbs) : Rep (s - a) := by
  rcases Int.le_total 0 a with h0 | h0
  · exact h.fast_pos ha hb h0 hab
  · have h' : Rnd (-a + -b) (-s) := by
      have := h.neg
      have e : -(a + b) = -a + -b := by omega
      rwa [e] at this
    have := (h'.fast_pos ha.neg hb.neg (by omega) (by omega)).neg
    have e : -(-s - -a) = s - a := by omega
    rwa [e] at this

/-- A sum is split without loss, whichever part is the greater. -/
theorem two_sum {a b s bb aa da db l : Int} (ha : Rep a) (hb : Rep b) (hs : Rnd (a + b) s) (h2 : Rnd (s - a) bb) (h3 : Rnd (s - bb) aa) (h4 : Rnd (a - aa) da) (h5 : Rnd (b - bb) db) (h6 : Rnd (da + db) l) : l = a + b - s := by
  have herr := hs.lost_rep ha hb
  have easy : Rep (s - a) → l = a + b - s := by
    intro hx
    have e1 := h2.exact hx
    subst e1
    have e2 : s - (s - a) = a := by omega
    rw [e2] at h3
    have e3 := h3.exact ha
    subst e3
    have e4 : aa - aa = 0 := by omega
    rw [e4] at h4
    have e5 := h4.exact Rep.zero
    subst e5
    have e6 : b - (s - aa) = aa + b - s := by omega
    rw [e6] at h5
    have e7 := h5.exact herr
    subst e7
    have e8 : 0 + (aa + b - s) = aa + b - s := by omega
    rw [e8] at h6
    exact h6.exact herr
  by_cases hab : b.natAbs ≤ a.natAbs
  · exact easy (hs.fast ha hb hab)
  · by_cases hsa : s.natAbs < a.natAbs
    · -- the sum is exact: the parts cancel
      apply easy
      have hsum : Rep (a + b) := by
        have hn := hs.near ha
        have hn2 := hs.near ha.neg
        have l1 := hs.lost_le ha hb
        by_cases hg : (a + b).natAbs ≤ a.natAbs
        · have := Rep.sub ha hb.neg (by omega) (by omega)
          simpa [Int.sub_neg] using this
        · rcases Int.le_total 0 (a + b) with g | g
          · rcases Int.le_total 0 a with g2 | g2
            · have := hs.ge ha (by omega); omega
            · have := hs.ge ha.neg (by omega); omega
          · rcases Int.le_total 0 a with g2 | g2
            · have := hs.le ha.neg (by omega); omega
            · have := hs.le ha (by omega); omega
      have e := hs.exact hsum
      have e2 : s - a = b := by omega
      rw [e2]; exact hb
    · have h2' : Rnd (s + -a) bb := by have e : s - a = s + -a := by omega
                                       rwa [e] at h2
      have r1 := (h2'.fast hs.rep ha.neg (by omega)).neg
      have e1 : -(bb - s) = s - bb := by omega
      rw [e1] at r1
      have e2 := h3.exact r1
      subst e2
      have r2 := (h2'.lost_rep hs.rep ha.neg).neg
      have e3 : -(s + -a - bb) = a - (s - bb) := by omega
      rw [e3] at r2
      have e4 := h4.exact r2
      subst e4
      have hrel := hs.rel
      have hn := h2'.near hb
      have hbb : Rep (b - bb) := by
        have : (2 : Int) ^ 53 = 9007199254740992 := by decide
        rw [this] at hrel
        exact Rep.sub hb h2'.rep (by omega) (by omega)
      have e5 := h5.exact hbb
      subst e5
      have e6 : a - (s - bb) + (b - bb) = a + b - s := by omega
      rw [e6] at h6
      exact h6.exact herr

/-- What the rounding of a product takes away has 53 digits. -/
theorem Rnd.prod_rep {a b s : Int} (h : Rnd (a * b) s) (ha : Rep a) (hb : Rep b) : Rep (a * b - s) := by
  obtain ⟨j, a1, a2⟩ := ha
  obtain ⟨k, b1, b2⟩ := hb
  have hd : (2 : Int) ^ (j + k) ∣ a * b := by rw [p2_add]; exact Int.mul_dvd_mul a1 b1
  refine ⟨j + k, Int.dvd_sub hd (h.grid hd), ?_⟩
  have hab : ((a * b).natAbs : Int) ≤ 2 ^ (j + k + 106) := by
    rw [Int.natAbs_mul, Int.natCast_mul]
    have e : (2 : Int) ^ (j + k + 106) = 2 ^ (j + 53) * 2 ^ (k + 53) := by rw [← p2_add]; congr 1; omega
    rw [e]
    exact Int.mul_le_mul a2 b2 (by omega) (by have := p2_pos (j + 53); omega)
  obtain ⟨e, g1, g2, g3, g4⟩ := h
  rcases g4 with g4 | g4
  · subst g4
    have := p2_pos (j + k + 53)
    omega
  · have := p2_le_iff (Int.le_trans g4 hab)
    have h2 := p2_le (show e ≤ j + k + 54 by omega)
    have e2 : (2 : Int) ^ (j + k + 54) = 2 * 2 ^ (j + k + 53) := by rw [← p2_succ]
    omega

end Go.Proofs.Ytgeoffpcmkofkaa.Fl
/- What the words of float64 stand for, where they are whole numbers (or whole numbers of a step): sums, products, comparisons. No condition but that no number is too great. -/
namespace Go.Proofs.Ytgeoffpcmkofkaa.Fl
open Ieee

def sm (s : Bool) (m : Nat) : Int := if s then -(m : Int) else m

/-- The datum is the number x / 2 ^ k. -/
def Is (d : Datum) (x : Int) (k : Nat) : Prop :=
  ∃ s m p, d = .number s m p ∧ ∀ u v : Nat, (u : Int) - v = p + k → sm s m * 2 ^ u = x * 2 ^ v

theorem p2_cancel {a b : Int} {c : Nat} (h : a * 2 ^ c = b * 2 ^ c) : a = b :=
  Int.eq_of_mul_eq_mul_right (by have := p2_pos c; omega) h

/-- One pair serves for all. -/
theorem Is.mk {s : Bool} {m : Nat} {p : Int} {x : Int} {k u v : Nat} (h : (u : Int) - v = p + k) (e : sm s m * 2 ^ u = x * 2 ^ v) : Is (.number s m p) x k := by
  refine ⟨s, m, p, rfl, fun u' v' h' => ?_⟩
  have huv : u' + v = u + v' := by omega
  apply p2_cancel (c := v)
  have e1 : sm s m * 2 ^ u' * 2 ^ v = sm s m * 2 ^ (u' + v) := by rw [p2_add]; grind
  have e2 : x * 2 ^ v' * 2 ^ v = x * 2 ^ v * 2 ^ v' := by grind
  rw [e1, huv, p2_add, e2, ← e]; grind

theorem Is.scale {d : Datum} {x : Int} {k : Nat} (h : Is d x k) (c : Nat) : Is d (x * 2 ^ c) (k + c) := by
  obtain ⟨s, m, p, rfl, h⟩ := h
  obtain ⟨u, v, huv⟩ : ∃ u v : Nat, (u : Int) - v = p + k := ⟨(p + k).toNat, (-(p + k)).toNat, by omega⟩
  refine Is.mk (u := u + c) (v := v) (by omega) ?_
  have := h u v huv
  rw [p2_add]; grind

theorem Is.opp {d : Datum} {x : Int} {k : Nat} (h : Is d x k) : Is d.opposite (-x) k := by
  obtain ⟨s, m, p, rfl, h⟩ := h
  refine ⟨!s, m, p, rfl, fun u v huv => ?_⟩
  have := h u v huv
  cases s <;> simp [sm] at this ⊢ <;> grind

theorem signed_eq (s : Bool) (m u : Nat) : signed s m u = sm s m * 2 ^ u := by
  unfold signed sm
  cases s <;> simp [Nat.shiftLeft_eq, Int.natCast_mul, Int.natCast_pow] <;> grind

theorem sm_natAbs (n : Int) (b : Bool) (h : n ≠ 0 → b = decide (n < 0)) : sm b n.natAbs = n := by
  by_cases h0 : n = 0
  · subst h0; cases b <;> rfl
  · rw [h h0]
    by_cases h1 : n < 0
    · simp [sm, h1]; omega
    · simp [sm, h1]; omega

theorem Is.sum {d e : Datum} {x y : Int} {k : Nat} (hd : Is d x k) (he : Is e y k) : ∃ g, d.sum e = some g ∧ Is g (x + y) k := by
  obtain ⟨s, m, i, rfl, hd⟩ := hd
  obtain ⟨t, n, j, rfl, he⟩ := he
  refine ⟨_, rfl, ?_⟩
  generalize hT : signed s m (i - min i j).toNat + signed t n (j - min i j).toNat = total
  have hs : sm (if total = 0 then s && t else decide (total < 0)) total.natAbs = total := by
    apply sm_natAbs
    intro h0
    simp [h0]
  obtain ⟨u, v, huv⟩ : ∃ u v : Nat, (u : Int) - v = min i j + k := ⟨(min i j + k).toNat, (-(min i j + k)).toNat, by omega⟩
  refine Is.mk (u := u) (v := v) huv ?_
  rw [hs, ← hT, signed_eq, signed_eq]
  have h1 := hd (u + (i - min i j).toNat) v (by omega)
  have h2 := he (u + (j - min i j).toNat) v (by omega)
  rw [p2_add] at h1 h2
  grind

theorem sm_mul (s t : Bool) (m n : Nat) : sm (s ^^ t) (m * n) = sm s m * sm t n := by
  cases s <;> cases t <;> simp [sm, Int.natCast_mul] <;> grind

theorem Is.product {d e : Datum} {x y : Int} {k l : Nat} (hd : Is d x k) (he : Is e y l) : ∃ g, d.product e = some g ∧ Is g (x * y) (k + l) := by
  obtain ⟨s, m, i, rfl, hd⟩ := hd
  obtain ⟨t, n, j, rfl, he⟩ := he
  refine ⟨_, rfl, ?_⟩
  obtain ⟨u, v, huv⟩ : ∃ u v : Nat, (u : Int) - v = i + k := ⟨(i + k).toNat, (-(i + k)).toNat, by omega⟩
  obtain ⟨u', v', huv'⟩ : ∃ u v : Nat, (u : Int) - v = j + l := ⟨(j + l).toNat, (-(j + l)).toNat, by omega⟩
  refine Is.mk (u := u + u') (v := v + v') (by omega) ?_
  have h1 := hd u v huv
  have h2 := he u' v' huv'
  rw [sm_mul, p2_add, p2_add]
  have e1 : sm s m * sm t n * (2 ^ u * 2 ^ u') = (sm s m * 2 ^ u) * (sm t n * 2 ^ u') := by grind
  rw [e1, h1, h2]; grind

theorem compare_mul (a b c : Int) (h : 0 < c) : compare (a * c) (b * c) = compare a b := by
  rcases Int.lt_trichotomy a b with h1 | h1 | h1
  · have := Int.mul_lt_mul_of_pos_right h1 h
    rw [Int.compare_eq_lt.2 h1, Int.compare_eq_lt.2 this]
  · subst h1; rw [Int.compare_eq_eq.2 rfl, Int.compare_eq_eq.2 rfl]
  · have := Int.mul_lt_mul_of_pos_right h1 h
    rw [Int.compare_eq_gt.2 h1, Int.compare_eq_gt.2 this]

theorem Is.order {d e : Datum} {x y : Int} {k : Nat} (hd : Is d x k) (he : Is e y k) : d.order e = some (compare x y) := by
  obtain ⟨s, m, i, rfl, hd⟩ := hd
  obtain ⟨t, n, j, rfl, he⟩ := he
  show some (compare _ _) = _
  congr 1
  obtain ⟨u, v, huv⟩ : ∃ u v : Nat, (u : Int) - v = min i j + k := ⟨(min i j + k).toNat, (-(min i j + k)).toNat, by omega⟩
  have h1 := hd (u + (i - min i j).toNat) v (by omega)
  have h2 := he (u + (j - min i j).toNat) v (by omega)
  rw [← compare_mul _ _ (2 ^ u) (p2_pos u), ← compare_mul x y (2 ^ v) (p2_pos v), signed_eq, signed_eq, ← h1, ← h2, p2_add, p2_add]
  congr 1 <;> grind

/-- Cut to the nearest: by half a step at most. -/
theorem cut_near (n drop : Nat) (neg : Bool) (h : drop ≤ n.log2 + 2) : ∃ r : Nat, Toward.even.cut neg n drop = r ∧ 2 * ((n : Int) - r * 2 ^ drop).natAbs ≤ 2 ^ drop := by
  refine ⟨_, rfl, ?_⟩
  unfold Toward.cut
  simp only [Nat.min_eq_left h, Nat.shiftLeft_eq, Nat.one_mul]
  have hd := Nat.div_add_mod n (2 ^ drop)
  have hm := Nat.mod_lt n (Nat.two_pow_pos drop)
  generalize hq : n / 2 ^ drop = q at *
  generalize hr : n % 2 ^ drop = r at *
  have hc : ((2 ^ drop : Nat) : Int) = 2 ^ drop := by simp
  generalize hP : 2 ^ drop = P at *
  have hcast : (n : Int) = P * q + r := by rw [← hd]; simp
  by_cases hb : P < 2 * r ∨ (P = 2 * r ∧ q % 2 = 1)
  · have : (decide (P < 2 * r) || P == 2 * r && q % 2 == 1) = true := by simpa using hb
    simp only [this, Bool.toNat_true]
    rw [hcast, ← hc]
    have : (P : Int) * q + r - ((q + 1 : Nat) : Int) * P = r - P := by push_cast; grind
    rw [this]; omega
  · have : (decide (P < 2 * r) || P == 2 * r && q % 2 == 1) = false := by
      rw [Bool.eq_false_iff]; simpa using hb
    simp only [this, Bool.toNat_false, Nat.add_zero]
    rw [hcast, ← hc]
    have : (P : Int) * q + r - (q : Int) * P = r := by grind
    rw [this]; omega

theorem read_word (neg : Bool) (L r : Nat) (hr : r ≤ 9007199254740992) (hL : L ≤ 2000) (h : L = 0 ∨ 4503599627370496 ≤ r) :
    ∃ m c : Nat, double.read (double.word neg (L * 4503599627370496 + r)) = .number neg m (-1074 + c) ∧ m * 2 ^ c = r * 2 ^ L := by
  have e1 : double.signWeight = 9223372036854775808 := by decide
  have e2 : double.binade = 4503599627370496 := by decide
  have e3 : double.infRung = 9218868437227405312 := by decide
  have e4 : double.leastPlace = -1074 := by decide
  have hneg : (double.word neg (L * 4503599627370496 + r) / double.signWeight % 2 == 1) = neg := by
    unfold Format.word; rw [e1]
    cases neg
    · simp; omega
    · simp; omega
  have hrung : double.word neg (L * 4503599627370496 + r) % double.signWeight = L * 4503599627370496 + r := by
    unfold Format.word; rw [e1]
    cases neg
    · simp; omega
    · simp; omega
  unfold Format.read
  simp only [hneg, hrung, e2, e3, e4]
  by_cases h1 : L * 4503599627370496 + r < 4503599627370496
  · rw [if_pos h1]
    have : L = 0 := by omega
    subst this
    exact ⟨r, 0, by simp, rfl⟩
  · rw [if_neg h1, if_pos (by omega)]
    by_cases h2 : r < 4503599627370496
    · omega
    · by_cases h3 : r = 9007199254740992
      · refine ⟨4503599627370496, L + 1, ?_, ?_⟩
        · subst h3
          rw [Datum.number.injEq]
          exact ⟨rfl, by omega, by omega⟩
        · subst h3; rw [Nat.pow_succ]; omega
      · refine ⟨r, L, ?_, rfl⟩
        rw [Datum.number.injEq]
        exact ⟨rfl, by omega, by omega⟩

theorem log2_mul_pow (m u : Nat) (h : m ≠ 0) : (m * 2 ^ u).log2 = m.log2 + u := by
  have h1 := Nat.log2_self_le h
  have h2 := Nat.lt_log2_self (n := m)
  have hne : m * 2 ^ u ≠ 0 := Nat.mul_ne_zero h (by have := Nat.two_pow_pos u; omega)
  have a1 : ¬ (m * 2 ^ u).log2 < m.log2 + u := by
    rw [Nat.log2_lt hne, Nat.pow_add]
    have := Nat.mul_le_mul_right (2 ^ u) h1
    omega
  have a2 : (m * 2 ^ u).log2 < m.log2 + u + 1 := by
    rw [Nat.log2_lt hne]
    have e : m.log2 + u + 1 = (m.log2 + 1) + u := by omega
    rw [e, Nat.pow_add]
    exact Nat.mul_lt_mul_of_pos_right h2 (Nat.two_pow_pos u)
  omega

theorem natAbs_sm (s : Bool) (m : Nat) : (sm s m).natAbs = m := by cases s <;> simp [sm]

theorem p2_cast (k : Nat) : ((2 ^ k : Nat) : Int) = 2 ^ k := by simp

theorem natAbs_mul_p2 (x : Int) (k : Nat) : (x * 2 ^ k).natAbs = x.natAbs * 2 ^ k := by
  rw [Int.natAbs_mul]
  have e : ((2 : Int) ^ k).natAbs = 2 ^ k := by rw [← p2_cast k, Int.natAbs_natCast]
  rw [e]

theorem Rnd.refl {x : Int} (h : (x.natAbs : Int) < 2 ^ 53) : Rnd x x := ⟨0, by simp, by simp, by simpa using h, Or.inl rfl⟩

/-- What is written of a number is the number, rounded. -/
theorem Is.write {d : Datum} {x : Int} {k : Nat} (h : Is d x k) (hk : k ≤ 1074) (hx : (x.natAbs : Int) < 2 ^ 900) :
    ∃ z, Rnd x z ∧ Is (double.read (double.write d)) z k := by
  obtain ⟨s, m, p, rfl, h⟩ := h
  obtain ⟨u, v, huv⟩ : ∃ u v : Nat, (u : Int) - v = p + k := ⟨(p + k).toNat, (-(p + k)).toNat, by omega⟩
  have hm := h u v huv
  have hmn : m * 2 ^ u = x.natAbs * 2 ^ v := by
    have := congrArg Int.natAbs hm
    rwa [natAbs_mul_p2, natAbs_mul_p2, natAbs_sm] at this
  by_cases hm0 : m = 0
  · subst hm0
    have hx0 : x.natAbs = 0 := by
      rw [Nat.zero_mul] at hmn
      rcases Nat.mul_eq_zero.1 hmn.symm with h1 | h1
      · exact h1
      · have := Nat.two_pow_pos v; omega
    have hx0 : x = 0 := by omega
    subst hx0
    refine ⟨0, Rnd.refl (by decide), ?_⟩
    have hw : double.write (.number s 0 p) = double.word s (0 * 4503599627370496 + 0) := by simp [Format.write, Format.nearest]
    rw [hw]
    obtain ⟨m', c, e1, e2⟩ := read_word s 0 0 (by omega) (by omega) (Or.inl rfl)
    rw [e1]
    have hm' : m' = 0 := by
      rw [Nat.zero_mul] at e2
      rcases Nat.mul_eq_zero.1 e2 with h1 | h1
      · exact h1
      · have := Nat.two_pow_pos c; omega
    subst hm'
    refine Is.mk (u := c + k) (v := 1074) (by omega) ?_
    have e0 : sm s 0 = 0 := by cases s <;> rfl
    rw [e0, Int.zero_mul, Int.zero_mul]
  · have hn0 : x.natAbs ≠ 0 := by
      intro h0
      rw [h0, Nat.zero_mul] at hmn
      rcases Nat.mul_eq_zero.1 hmn with h1 | h1
      · exact hm0 h1
      · have := Nat.two_pow_pos u; omega
    -- the sign
    have hsg : sm s x.natAbs = x := by
      have hp := p2_pos u
      have hq := p2_pos v
      have hp' := p2_pos v
      cases s
      · simp only [sm] at hm ⊢
        have : 0 ≤ x := by
          rcases Int.le_total 0 x with h1 | h1
          · exact h1
          · have h2 : x * 2 ^ v ≤ 0 := Int.mul_nonpos_of_nonpos_of_nonneg h1 (by omega)
            have h3 : (0 : Int) < (m : Int) * 2 ^ u := Int.mul_pos (by omega) hp
            simp at hm; omega
        simp; omega
      · simp only [sm] at hm ⊢
        have : x ≤ 0 := by
          rcases Int.le_total x 0 with h1 | h1
          · exact h1
          · have h2 : 0 ≤ x * 2 ^ v := Int.mul_nonneg h1 (by omega)
            have h3 : (0 : Int) < (m : Int) * 2 ^ u := Int.mul_pos (by omega) hp
            simp at hm
            have : -(m : Int) * 2 ^ u = -((m : Int) * 2 ^ u) := Int.neg_mul _ _
            omega
        simp; omega
    generalize hN : x.natAbs = n at *
    have hlog : (m.log2 : Int) + p = n.log2 - k := by
      have h1 := log2_mul_pow m u hm0
      have h2 := log2_mul_pow n v hn0
      rw [hmn, h2] at h1
      omega
    have hL900 : n.log2 < 900 := by
      rw [Nat.log2_lt hn0]
      have := p2_cast 900
      omega
    have hnlo := Nat.log2_self_le hn0
    have hnhi := Nat.lt_log2_self (n := n)
    obtain ⟨last, hlast⟩ : ∃ last : Int, last = max (p + m.log2 - 52) (-1074) := ⟨_, rfl⟩
    obtain ⟨up, hup⟩ : ∃ up : Nat, up = (p - last).toNat := ⟨_, rfl⟩
    obtain ⟨drop, hdrop⟩ : ∃ drop : Nat, drop = (last - p).toNat := ⟨_, rfl⟩
    have hA0 : m * 2 ^ up ≠ 0 := Nat.mul_ne_zero hm0 (by have := Nat.two_pow_pos up; omega)
    have hAlog := log2_mul_pow m up hm0
    obtain ⟨r, hr, hnear⟩ := cut_near (m * 2 ^ up) drop s (by rw [hAlog]; omega)
    have hAlo := Nat.log2_self_le hA0
    have hAhi := Nat.lt_log2_self (n := m * 2 ^ up)
    generalize hA : m * 2 ^ up = A at *
    have hw : double.write (.number s m p) = double.word s (min ((last + 1074).toNat * 4503599627370496 + r) 9218868437227405312) := by
      have e2 : double.binade = 4503599627370496 := by decide
      have e3 : double.infRung = 9218868437227405312 := by decide
      have e4 : double.leastPlace = -1074 := by decide
      have e5 : double.fractionBits = 52 := rfl
      simp only [Format.write, Format.nearest, if_neg hm0, e2, e3, e4, e5]
      have e6 : max (p + (m.log2 : Int) - ((52 : Nat) : Int)) (-1074) = last := by rw [hlast]; rfl
      have e7 : (last - -1074).toNat = (last + 1074).toNat := by omega
      rw [e6, ← hup, ← hdrop, Nat.shiftLeft_eq, hA, hr, e7]
    -- bounds of r
    have hpd := Nat.two_pow_pos drop
    have hr1 : r ≤ 9007199254740992 := by
      have : A < 2 ^ (53 + drop) := Nat.lt_of_lt_of_le hAhi (Nat.pow_le_pow_right (by decide) (by omega))
      rw [Nat.pow_add] at this
      have e53 : (2 : Nat) ^ 53 = 9007199254740992 := by decide
      rw [e53] at this
      rcases Nat.lt_or_ge 9007199254740992 r with h1 | h1
      · have h2 := Nat.mul_le_mul_right (2 ^ drop) (show 9007199254740992 + 1 ≤ r from h1)
        have hc := p2_cast drop
        have hc2 : ((r * 2 ^ drop : Nat) : Int) = r * 2 ^ drop := by simp
        have h3 : (9007199254740992 + 1) * 2 ^ drop = 9007199254740992 * 2 ^ drop + 2 ^ drop := by grind
        omega
      · exact h1
    have hr2 : (last + 1074).toNat = 0 ∨ 4503599627370496 ≤ r := by
      by_cases h1 : last = -1074
      · left; omega
      · right
        have : 2 ^ (52 + drop) ≤ A := Nat.le_trans (Nat.pow_le_pow_right (by decide) (by omega)) hAlo
        rw [Nat.pow_add] at this
        have e52 : (2 : Nat) ^ 52 = 4503599627370496 := by decide
        rw [e52] at this
        rcases Nat.lt_or_ge r 4503599627370496 with h1 | h1
        · have h2 := Nat.mul_le_mul_right (2 ^ drop) (show r + 1 ≤ 4503599627370496 from h1)
          have hc := p2_cast drop
          have hc2 : ((r * 2 ^ drop : Nat) : Int) = r * 2 ^ drop := by simp
          have h3 : (r + 1) * 2 ^ drop = r * 2 ^ drop + 2 ^ drop := by grind
          omega
        · exact h1
    rw [hw, Nat.min_eq_left (by omega)]
    obtain ⟨m', c, e1, e2⟩ := read_word s (last + 1074).toNat r hr1 (by omega) hr2
    rw [e1]
    have e2' : sm s m' * 2 ^ c = sm s r * 2 ^ (last + 1074).toNat := by
      have : (m' : Int) * 2 ^ c = r * 2 ^ (last + 1074).toNat := by
        rw [← p2_cast, ← p2_cast, ← Int.natCast_mul, ← Int.natCast_mul, e2]
      cases s
      · simpa [sm] using this
      · simp [sm, Int.neg_mul, this]
    -- n and A
    have hnA : ∀ a b : Nat, (a : Int) - b = last + k → n * 2 ^ drop * 2 ^ b = A * 2 ^ a := by
      intro a b hab
      have h1 := h (up + a) (drop + b) (by omega)
      have h2 := congrArg Int.natAbs h1
      rw [natAbs_mul_p2, natAbs_mul_p2, natAbs_sm, hN, Nat.pow_add, Nat.pow_add] at h2
      rw [← hA]
      grind
    by_cases hE : 0 ≤ last + k
    · obtain ⟨e, he⟩ : ∃ e : Nat, (e : Int) = last + k := ⟨(last + k).toNat, by omega⟩
      have h1 := hnA e 0 (by omega)
      simp only [Nat.pow_zero, Nat.mul_one] at h1
      refine ⟨sm s r * 2 ^ e, ?_, ?_⟩
      · refine ⟨e, Int.dvd_mul_left _ _, ?_, ?_, ?_⟩
        · have hx2 : x - sm s r * 2 ^ e = sm s 1 * ((n : Int) - r * 2 ^ e) := by
            rw [← hsg]; cases s <;> simp [sm] <;> grind
          rw [hx2, Int.natAbs_mul, natAbs_sm, Nat.one_mul]
          have hc := p2_cast drop
          have key : (2 * ((n : Int) - r * 2 ^ e).natAbs) * 2 ^ drop ≤ 2 ^ e * 2 ^ drop := by
            have e3 : ((n : Int) - r * 2 ^ e) * 2 ^ drop = ((A : Int) - r * 2 ^ drop) * 2 ^ e := by
              have : (n : Int) * 2 ^ drop = A * 2 ^ e := by
                rw [← p2_cast, ← p2_cast, ← Int.natCast_mul, ← Int.natCast_mul, h1]
              grind
            have e4 := congrArg Int.natAbs e3
            rw [natAbs_mul_p2, natAbs_mul_p2] at e4
            have e5 := Nat.mul_le_mul_right (2 ^ e) hnear
            have e6 : 2 * ((A : Int) - r * 2 ^ drop).natAbs * 2 ^ e = 2 * (((A : Int) - r * 2 ^ drop).natAbs * 2 ^ e) := by grind
            rw [e6, ← e4] at e5
            have e7 : (2 * ((n : Int) - r * 2 ^ e).natAbs) * 2 ^ drop = 2 * (((n : Int) - r * 2 ^ e).natAbs * 2 ^ drop) := by grind
            rw [e7, Nat.mul_comm (2 ^ e)]
            exact e5
          have := Nat.le_of_mul_le_mul_right key hpd
          have hce := p2_cast e
          omega
        · rw [hN]
          have := p2_cast (e + 53)
          have h4 := Nat.pow_le_pow_right (n := 2) (by decide) (show n.log2 + 1 ≤ e + 53 by omega)
          omega
        · by_cases h0 : e = 0
          · exact Or.inl h0
          · right
            rw [hN]
            by_cases h5 : last = -1074
            · omega
            · have := p2_cast (e + 52)
              have h4 := Nat.pow_le_pow_right (n := 2) (by decide) (show e + 52 ≤ n.log2 by omega)
              omega
      · refine Is.mk (u := c + k) (v := 1074) (by omega) ?_
        rw [p2_add, ← Int.mul_assoc, e2']
        have e3 : (last + 1074).toNat + k = e + 1074 := by omega
        have e4 : sm s r * 2 ^ (last + 1074).toNat * 2 ^ k = sm s r * 2 ^ ((last + 1074).toNat + k) := by rw [p2_add]; grind
        rw [e4, e3, p2_add]; grind
    · obtain ⟨b, hb⟩ : ∃ b : Nat, (b : Int) = -(last + k) := ⟨(-(last + k)).toNat, by omega⟩
      have h1 := hnA 0 b (by omega)
      simp only [Nat.pow_zero, Nat.mul_one] at h1
      have hr3 : r = n * 2 ^ b := by
        have h2 : (A : Int) - r * 2 ^ drop = (((n * 2 ^ b : Nat) : Int) - r) * 2 ^ drop := by
          rw [← h1]; push_cast; grind
        rw [h2, natAbs_mul_p2] at hnear
        have hz : ((n * 2 ^ b : Nat) : Int) - r = 0 := by
          rcases Nat.eq_zero_or_pos (((n * 2 ^ b : Nat) : Int) - r).natAbs with h3 | h3
          · omega
          · have := Nat.mul_le_mul_right (2 ^ drop) (show 1 ≤ (((n * 2 ^ b : Nat) : Int) - r).natAbs from h3)
            omega
        omega
      refine ⟨x, Rnd.refl ?_, ?_⟩
      · have := p2_cast 53
        have h4 := Nat.pow_le_pow_right (n := 2) (by decide) (show n.log2 + 1 ≤ 53 by omega)
        omega
      · refine Is.mk (u := c + k) (v := 1074) (by omega) ?_
        rw [p2_add, ← Int.mul_assoc, e2', hr3, ← hsg]
        have e3 : b + (last + 1074).toNat + k = 1074 := by omega
        have e4 : sm s (n * 2 ^ b) = sm s n * 2 ^ b := by cases s <;> simp [sm, Int.natCast_mul, Int.neg_mul]
        have e5 : sm s n * 2 ^ b * 2 ^ (last + 1074).toNat * 2 ^ k = sm s n * 2 ^ (b + (last + 1074).toNat + k) := by rw [p2_add, p2_add]; grind
        rw [e4, e5, e3]

/-- No number that comes up is as great. -/
def Big : Int := 2 ^ 900
def Mid : Int := 2 ^ 890
theorem Big_eq : Big = 1024 * Mid := by
  have h := p2_add 10 890
  have e : (2 : Int) ^ 10 = 1024 := by decide
  rw [e] at h
  exact h
theorem Mid_pos : 0 < Mid := p2_pos 890
theorem p2_lt_Big {k : Nat} (h : k < 900) : (2 : Int) ^ k < Big := p2_lt h
theorem p2_lt_Mid {k : Nat} (h : k < 890) : (2 : Int) ^ k < Mid := p2_lt h

theorem add_bd {x y A B : Int} (hx : (x.natAbs : Int) ≤ A) (hy : (y.natAbs : Int) ≤ B) : ((x + y).natAbs : Int) ≤ A + B := by omega
theorem sub_bd {x y A B : Int} (hx : (x.natAbs : Int) ≤ A) (hy : (y.natAbs : Int) ≤ B) : ((x - y).natAbs : Int) ≤ A + B := by omega
theorem Rnd.bd {x z A : Int} (h : Rnd x z) (hx : (x.natAbs : Int) ≤ A) : (z.natAbs : Int) ≤ 2 * A := by
  have := h.near Rep.zero
  omega

/-- The word b of float64 is the number x / 2 ^ k. -/
def F (b : Nat) (x : Int) (k : Nat) : Prop := b < 2 ^ 64 ∧ Is (double.read b) x k

theorem write_lt (d : Datum) : double.write d < 2 ^ 64 := by
  have e1 : double.signWeight = 9223372036854775808 := by decide
  have e2 : double.binade = 4503599627370496 := by decide
  have e3 : double.infRung = 9218868437227405312 := by decide
  have hw : ∀ neg r, r < 9223372036854775808 → double.word neg r < 2 ^ 64 := by
    intro neg r hr
    unfold Format.word; rw [e1]
    split <;> omega
  cases d with
  | number neg m p =>
    simp only [Format.write, Format.nearest]
    split
    · exact hw _ _ (by omega)
    · exact hw _ _ (by rw [e3]; omega)
  | infinity neg => exact hw _ _ (by rw [e3]; omega)
  | nan neg t => exact hw _ _ (by rw [e3, e2]; omega)

theorem F.of_write {d : Datum} {x : Int} {k : Nat} (h : Is d x k) (hk : k ≤ 1074) (hx : (x.natAbs : Int) < Big) : ∃ z, Rnd x z ∧ F (double.write d) z k := by
  obtain ⟨z, h1, h2⟩ := h.write hk (by unfold Big at hx; exact hx)
  exact ⟨z, h1, write_lt d, h2⟩

theorem F.add {a b : Nat} {x y : Int} {k : Nat} (ha : F a x k) (hb : F b y k) (hk : k ≤ 1074) (hx : ((x + y).natAbs : Int) < Big) : ∃ r z, double.add a b = some r ∧ Rnd (x + y) z ∧ F r z k := by
  obtain ⟨g, e1, h1⟩ := ha.2.sum hb.2
  obtain ⟨z, h2, h3⟩ := F.of_write h1 hk hx
  exact ⟨_, z, by rw [Format.add, e1]; rfl, h2, h3⟩

theorem F.sub {a b : Nat} {x y : Int} {k : Nat} (ha : F a x k) (hb : F b y k) (hk : k ≤ 1074) (hx : ((x - y).natAbs : Int) < Big) : ∃ r z, double.sub a b = some r ∧ Rnd (x - y) z ∧ F r z k := by
  obtain ⟨g, e1, h1⟩ := ha.2.sum hb.2.opp
  have e : x + -y = x - y := by omega
  rw [e] at h1
  obtain ⟨z, h2, h3⟩ := F.of_write h1 hk hx
  exact ⟨_, z, by rw [Format.sub, e1]; rfl, h2, h3⟩

theorem F.mul {a b : Nat} {x y : Int} {k l : Nat} (ha : F a x k) (hb : F b y l) (hk : k + l ≤ 1074) (hx : ((x * y).natAbs : Int) < Big) : ∃ r z, double.mul a b = some r ∧ Rnd (x * y) z ∧ F r z (k + l) := by
  obtain ⟨g, e1, h1⟩ := ha.2.product hb.2
  obtain ⟨z, h2, h3⟩ := F.of_write h1 hk hx
  exact ⟨_, z, by rw [Format.mul, e1]; rfl, h2, h3⟩

theorem F.fma {a b c : Nat} {x y t : Int} (ha : F a x 0) (hb : F b y 0) (hc : F c t 0) (hx : ((x * y + t).natAbs : Int) < Big) : ∃ r z, double.fma a b c = some r ∧ Rnd (x * y + t) z ∧ F r z 0 := by
  obtain ⟨g, e1, h1⟩ := ha.2.product hb.2
  obtain ⟨g', e2, h2⟩ := h1.sum hc.2
  obtain ⟨z, h3, h4⟩ := F.of_write h2 (by omega) hx
  exact ⟨_, z, by rw [Format.fma, e1, Option.bind_some, e2]; rfl, h3, h4⟩

theorem F.order {a b : Nat} {x y : Int} {k : Nat} (ha : F a x k) (hb : F b y k) : double.order a b = some (compare x y) := ha.2.order hb.2

theorem F.scale {b : Nat} {x : Int} {k : Nat} (h : F b x k) (c : Nat) : F b (x * 2 ^ c) (k + c) := ⟨h.1, h.2.scale c⟩

/-- A whole number of 53 digits is itself a float64. -/
theorem F.ofInt (n : Int) (hn : (n.natAbs : Int) ≤ 2 ^ 53) : F (double.write (.number (n < 0) n.natAbs 0)) n 0 := by
  have h : Is (.number (n < 0) n.natAbs 0) n 0 := by
    refine Is.mk (u := 0) (v := 0) (by omega) ?_
    rw [sm_natAbs n _ (fun _ => rfl)]
  have : (2 : Int) ^ 53 < Big := p2_lt_Big (by omega)
  obtain ⟨z, h1, h2⟩ := F.of_write h (by omega) (by omega)
  rw [h1.exact (Rep.small hn)] at h2
  exact h2

theorem read_neg (b : Nat) (h : b < 2 ^ 64) : double.read (b ^^^ 2 ^ 63) = (double.read b).opposite := by
  have e1 : double.signWeight = 9223372036854775808 := by decide
  have hx : b ^^^ 2 ^ 63 = if b < 2 ^ 63 then b + 2 ^ 63 else b - 2 ^ 63 := by
    have hb : b = 2 ^ 63 * (b / 2 ^ 63) + b % 2 ^ 63 := (Nat.div_add_mod b (2 ^ 63)).symm
    split
    · rename_i h1
      apply Nat.eq_of_testBit_eq
      intro i
      rw [Nat.testBit_xor, Nat.add_comm, Nat.testBit_two_pow]
      by_cases hi : i = 63
      · subst hi
        rw [Nat.testBit_two_pow_add_eq]; simp
      · rcases Nat.lt_or_ge i 63 with h2 | h2
        · rw [Nat.testBit_two_pow_add_gt h2, decide_eq_false (by omega), Bool.xor_false]
        · have a1 : b.testBit i = false := Nat.testBit_lt_two_pow (Nat.lt_of_lt_of_le h1 (Nat.pow_le_pow_right (by decide) (by omega)))
          have a2 : (2 ^ 63 + b).testBit i = false := Nat.testBit_lt_two_pow (Nat.lt_of_lt_of_le (by omega) (Nat.pow_le_pow_right (n := 2) (by decide) (show 64 ≤ i by omega)))
          rw [a1, a2, decide_eq_false (by omega)]; rfl
    · rename_i h1
      have h3 : b - 2 ^ 63 < 2 ^ 63 := by omega
      have h4 : b = 2 ^ 63 + (b - 2 ^ 63) := by omega
      generalize b - 2 ^ 63 = c at *
      subst h4
      apply Nat.eq_of_testBit_eq
      intro i
      rw [Nat.testBit_xor, Nat.testBit_two_pow]
      by_cases hi : i = 63
      · subst hi
        rw [Nat.testBit_two_pow_add_eq, Nat.testBit_lt_two_pow h3]; simp
      · rcases Nat.lt_or_ge i 63 with h2 | h2
        · rw [Nat.testBit_two_pow_add_gt h2, decide_eq_false (by omega), Bool.xor_false]
        · have a1 : c.testBit i = false := Nat.testBit_lt_two_pow (Nat.lt_of_lt_of_le h3 (Nat.pow_le_pow_right (by decide) (by omega)))
          have a2 : (2 ^ 63 + c).testBit i = false := Nat.testBit_lt_two_pow (Nat.lt_of_lt_of_le (by omega) (Nat.pow_le_pow_right (n := 2) (by decide) (show 64 ≤ i by omega)))
          rw [a1, a2, decide_eq_false (by omega)]; rfl
  have a1 : ((b ^^^ 2 ^ 63) / double.signWeight % 2 == 1) = !(b / double.signWeight % 2 == 1) := by
    rw [hx, e1]
    by_cases h1 : b < 2 ^ 63
    · rw [if_pos h1]
      have : b / 9223372036854775808 = 0 := by omega
      have h2 : (b + 2 ^ 63) / 9223372036854775808 = 1 := by omega
      rw [this, h2]; rfl
    · rw [if_neg h1]
      have : b / 9223372036854775808 = 1 := by omega
      have h2 : (b - 2 ^ 63) / 9223372036854775808 = 0 := by omega
      rw [this, h2]; rfl
  have a2 : (b ^^^ 2 ^ 63) % double.signWeight = b % double.signWeight := by
    rw [hx, e1]; split <;> omega
  unfold Format.read
  simp only [a1, a2]
  split
  · rfl
  · split
    · rfl
    · split <;> rfl

/-- The word with the other sign; the word without its sign. -/
def ng (b : Nat) : Nat := b ^^^ 2 ^ 63
def ab (b : Nat) : Nat := b % 2 ^ 63

theorem F.neg {b : Nat} {x : Int} {k : Nat} (h : F b x k) : F (ng b) (-x) k :=
  ⟨Nat.xor_lt_two_pow h.1 (by decide), by rw [ng, read_neg b h.1]; exact h.2.opp⟩

theorem read_abs (b : Nat) {s : Bool} {m : Nat} {p : Int} (hr : double.read b = .number s m p) : double.read (ab b) = .number false m p := by
  have e1 : double.signWeight = 9223372036854775808 := by decide
  have a1 : (ab b / double.signWeight % 2 == 1) = false := by
    unfold ab; rw [e1]
    have : b % 2 ^ 63 / 9223372036854775808 = 0 := by omega
    rw [this]; rfl
  have a2 : ab b % double.signWeight = b % double.signWeight := by
    unfold ab; rw [e1]; omega
  unfold Format.read at hr ⊢
  simp only [a1, a2] at hr ⊢
  split at hr
  · rename_i h1
    rw [if_pos h1]
    rw [Datum.number.injEq] at hr ⊢
    exact ⟨rfl, hr.2.1, hr.2.2⟩
  · rename_i h1
    rw [if_neg h1]
    split at hr
    · rename_i h2
      rw [if_pos h2]
      rw [Datum.number.injEq] at hr ⊢
      exact ⟨rfl, hr.2.1, hr.2.2⟩
    · split at hr <;> cases hr

theorem F.abs {b : Nat} {x : Int} {k : Nat} (h : F b x k) : F (ab b) (x.natAbs : Int) k := by
  refine ⟨by unfold ab; omega, ?_⟩
  obtain ⟨_, s, m, p, hd, h2⟩ := h
  rw [read_abs b hd]
  refine ⟨false, m, p, rfl, fun u v huv => ?_⟩
  have h3 := congrArg Int.natAbs (h2 u v huv)
  rw [natAbs_mul_p2, natAbs_mul_p2, natAbs_sm] at h3
  simp only [sm]
  rw [← p2_cast, ← p2_cast]
  simp only [Bool.false_eq_true, if_false]
  rw [← Int.natCast_mul, ← Int.natCast_mul, h3]

end Go.Proofs.Ytgeoffpcmkofkaa.Fl
/- Expansions: lists of float64s whose sum is the number; one more added; the sign. No condition but that no number is too great. -/
namespace Go.Proofs.Ytgeoffpcmkofkaa.Fl

/-- The parts are not 0, of 53 digits, and no two share a binary place; the lesser ones come first. -/
def Ex : List Int → Prop
  | [] => True
  | a :: l => a ≠ 0 ∧ Rep a ∧ (∃ s : Nat, (a.natAbs : Int) < 2 ^ s ∧ ∀ b ∈ l, (2 : Int) ^ s ∣ b) ∧ Ex l

def mass : List Int → Int
  | [] => 0
  | a :: l => a.natAbs + mass l

def total : List Int → Int
  | [] => 0
  | a :: l => a + total l

theorem mass_nonneg (l : List Int) : 0 ≤ mass l := by
  induction l with
  | nil => exact Int.le_refl _
  | cons a l ih => simp only [mass]; omega
theorem mass_append (l m : List Int) : mass (l ++ m) = mass l + mass m := by
  induction l with
  | nil => simp [mass]
  | cons a l ih => simp only [List.cons_append, mass, ih]; omega
theorem total_append (l m : List Int) : total (l ++ m) = total l + total m := by
  induction l with
  | nil => simp [total]
  | cons a l ih => simp only [List.cons_append, total, ih]; omega

/-- One float64 is added to an expansion, part by part: what comes of it. -/
inductive Gr : Int → List Int → List Int → Prop
  | nil : Gr 0 [] []
  | one {q : Int} : q ≠ 0 → Gr q [] [q]
  | keep {q p s : Int} {l out : List Int} : Rnd (q + p) s → q + p - s ≠ 0 → Gr s l out → Gr q (p :: l) ((q + p - s) :: out)
  | drop {q p s : Int} {l out : List Int} : Rnd (q + p) s → q + p - s = 0 → Gr s l out → Gr q (p :: l) out

theorem Gr.total {q : Int} {l out : List Int} (h : Gr q l out) : Fl.total out = q + Fl.total l := by
  induction h with
  | nil => rfl
  | one _ => rfl
  | keep _ _ _ ih => simp only [Fl.total, ih]; omega
  | drop _ _ _ ih => simp only [Fl.total, ih]; omega

theorem Gr.grid {q : Int} {l out : List Int} {s : Nat} (h : Gr q l out) (hq : (2 : Int) ^ s ∣ q) (hl : ∀ p ∈ l, (2 : Int) ^ s ∣ p) : ∀ x ∈ out, (2 : Int) ^ s ∣ x := by
  induction h with
  | nil => simp
  | one _ => simpa using hq
  | keep h1 _ _ ih =>
    have hs := Int.dvd_add hq (hl _ (List.mem_cons_self ..))
    have hs2 := h1.grid hs
    intro x hx
    rcases List.mem_cons.1 hx with rfl | hx
    · exact Int.dvd_sub hs hs2
    · exact ih hs2 (fun p hp => hl p (List.mem_cons_of_mem _ hp)) x hx
  | drop h1 _ _ ih =>
    have hs := Int.dvd_add hq (hl _ (List.mem_cons_self ..))
    exact ih (h1.grid hs) (fun p hp => hl p (List.mem_cons_of_mem _ hp))

theorem Gr.ex {q : Int} {l out : List Int} (h : Gr q l out) (hq : Rep q) (hl : Ex l) : Ex out := by
  induction h with
  | nil => trivial
  | @one q h0 =>
    refine ⟨h0, hq, ⟨q.natAbs.log2 + 1, ?_, by simp⟩, trivial⟩
    have h1 := Nat.lt_log2_self (n := q.natAbs)
    rw [← p2_cast]
    exact Int.ofNat_lt.2 h1
  | @keep q p s l out h1 h0 hg ih =>
    obtain ⟨hp0, hpr, ⟨t, ht1, ht2⟩, hex⟩ := hl
    refine ⟨h0, h1.lost_rep hq hpr, ?_, ih h1.rep hex⟩
    obtain ⟨_, l2⟩ := h1.lost_le hq hpr
    obtain ⟨e, g1, g2, g3, g4⟩ := h1
    refine ⟨min t e, ?_, ?_⟩
    · rcases Nat.le_total t e with h | h
      · rw [Nat.min_eq_left h]; omega
      · rw [Nat.min_eq_right h]; have := p2_pos e; omega
    · exact hg.grid (Int.dvd_trans (p2_dvd (Nat.min_le_right ..)) g1) (fun p hp => Int.dvd_trans (p2_dvd (Nat.min_le_left ..)) (ht2 p hp))
  | drop h1 _ _ ih =>
    exact ih h1.rep hl.2.2.2

theorem Gr.length {q : Int} {l out : List Int} (h : Gr q l out) : out.length ≤ l.length + 1 := by
  induction h with
  | nil => simp
  | one _ => simp
  | keep _ _ _ ih => simp; omega
  | drop _ _ _ ih => simp; omega

/-- The sign is that of the last part. -/
theorem Ex.dvd_total {l : List Int} {s : Nat} (h : ∀ b ∈ l, (2 : Int) ^ s ∣ b) : (2 : Int) ^ s ∣ total l := by
  induction l with
  | nil => exact Int.dvd_zero _
  | cons a l ih => exact Int.dvd_add (h a (List.mem_cons_self ..)) (ih (fun b hb => h b (List.mem_cons_of_mem _ hb)))

theorem Ex.sign {l : List Int} (h : Ex l) (hne : l ≠ []) : (total l < 0 ↔ l.getLast hne < 0) ∧ (0 < total l ↔ 0 < l.getLast hne) ∧ total l ≠ 0 := by
  induction l with
  | nil => exact absurd rfl hne
  | cons a l ih =>
    obtain ⟨h0, _, ⟨s, hs1, hs2⟩, hex⟩ := h
    cases l with
    | nil => simp only [total, List.getLast_singleton]; omega
    | cons b l =>
      have ih' := ih hex (by simp)
      rw [List.getLast_cons (by simp)]
      have hd := Ex.dvd_total hs2
      have hbig : (2 : Int) ^ s ≤ (total (b :: l)).natAbs := by
        have h1 : (2 : Int) ^ s ∣ ((total (b :: l)).natAbs : Int) := Int.dvd_natAbs.2 hd
        exact Int.le_of_dvd (by omega) h1
      generalize hT : total (b :: l) = T at *
      simp only [total] at hT ⊢
      omega

/-- One step of the growing: what the masses come to. -/
theorem step_mass {q p s T K : Int} (h : Rnd (q + p) s) (hT : T ≤ 2 ^ 52 * K) {rest : Int} (hr : 0 ≤ rest) (hb : (q.natAbs : Int) + p.natAbs + rest ≤ T) :
    (s.natAbs : Int) + (q + p - s).natAbs + rest ≤ T + K := by
  have hrel := h.rel
  have e53 : (2 : Int) ^ 53 = 9007199254740992 := by decide
  have e52 : (2 : Int) ^ 52 = 4503599627370496 := by decide
  rw [e53] at hrel
  rw [e52] at hT
  omega

/-- Pairs of a word and the number that it is. -/
abbrev Ws := List (Nat × Int)
def vals (ws : Ws) : List Int := ws.map (·.2)
def Fs (ws : Ws) : Prop := ∀ p ∈ ws, F p.1 p.2 0

theorem vals_append (a b : Ws) : vals (a ++ b) = vals a ++ vals b := by simp [vals]

/-- The growing, at part i: Q is carried, O has been put down. -/
structure GrInv (b : Int) (es : Ws) (T : Int) (K : Nat) (i : Nat) (Q : Nat × Int) (O : Ws) : Prop where
  rep : Rep Q.2
  word : F Q.1 Q.2 0
  words : Fs O
  len : O.length ≤ i
  le : i ≤ es.length
  bound : (Q.2.natAbs : Int) + mass (vals O) + mass (vals (es.drop i)) ≤ T + i * 2 ^ K
  gr : ∀ out, Gr Q.2 (vals (es.drop i)) out → Gr b (vals es) (vals O ++ out)

theorem GrInv.start {b : Nat × Int} {es : Ws} {T : Int} {K : Nat} (hb : Rep b.2) (hw : F b.1 b.2 0) (hm : (b.2.natAbs : Int) + mass (vals es) ≤ T) : GrInv b.2 es T K 0 b [] :=
  ⟨hb, hw, fun _ h => absurd h (by simp), Nat.le_refl _, Nat.zero_le _, by simpa [vals, mass] using hm, fun out h => by simpa [vals] using h⟩

theorem drop_cons {es : Ws} {i : Nat} (h : i < es.length) : es.drop i = es[i] :: es.drop (i + 1) := List.drop_eq_getElem_cons h

/-- The step's numbers are small enough. -/
theorem GrInv.small {b : Int} {es : Ws} {T : Int} {K i : Nat} {Q : Nat × Int} {O : Ws} (h : GrInv b es T K i Q O) (hi : i < es.length) (hT : T + es.length * 2 ^ K ≤ 2 ^ 52 * 2 ^ K) (hK : K + 52 ≤ 880) :
    ((Q.2.natAbs : Int) + es[i].2.natAbs) < Mid := by
  have hb := h.bound
  rw [drop_cons hi] at hb
  simp only [vals, List.map_cons, mass] at hb
  have h1 := mass_nonneg (O.map (·.2))
  have h2 := mass_nonneg ((es.drop (i + 1)).map (·.2))
  have h3 : T + i * 2 ^ K ≤ 2 ^ 52 * 2 ^ K := Int.le_trans (by have := Int.mul_le_mul_of_nonneg_right (show (i : Int) ≤ es.length by omega) (show (0 : Int) ≤ 2 ^ K by have := p2_pos K; omega); omega) hT
  rw [← p2_add] at h3
  have h4 := p2_lt_Mid (show 52 + K < 890 by omega)
  omega

theorem GrInv.keep {b : Int} {es : Ws} {T : Int} {K i : Nat} {Q : Nat × Int} {O : Ws} (h : GrInv b es T K i Q O) (hi : i < es.length) (hT : T + es.length * 2 ^ K ≤ 2 ^ 52 * 2 ^ K) {s l : Nat × Int}
    (hs : Rnd (Q.2 + es[i].2) s.2) (hsF : F s.1 s.2 0) (hl : l.2 = Q.2 + es[i].2 - s.2) (hlF : F l.1 l.2 0) (h0 : l.2 ≠ 0) : GrInv b es T K (i + 1) s (O ++ [l]) := by
  have hb := h.bound
  have hg := h.gr
  rw [drop_cons hi] at hb hg
  simp only [vals, List.map_cons, mass] at hb hg
  refine ⟨hs.rep, hsF, ?_, by have := h.len; simp; omega, hi, ?_, ?_⟩
  · intro p hp
    rcases List.mem_append.1 hp with hp | hp
    · exact h.words p hp
    · rw [List.mem_singleton.1 hp]; exact hlF
  · have h1 := mass_nonneg (O.map (·.2))
    have h2 := mass_nonneg ((es.drop (i + 1)).map (·.2))
    have h3 : T + i * 2 ^ K ≤ 2 ^ 52 * 2 ^ K := Int.le_trans (by have := Int.mul_le_mul_of_nonneg_right (show (i : Int) ≤ es.length by omega) (show (0 : Int) ≤ 2 ^ K by have := p2_pos K; omega); omega) hT
    have := step_mass (T := T + i * 2 ^ K) (K := 2 ^ K) (rest := mass (O.map (·.2)) + mass ((es.drop (i + 1)).map (·.2))) hs h3 (by omega) (by omega)
    simp only [vals, List.map_append, mass_append, List.map_cons, List.map_nil, mass, hl]
    have e : ((i + 1 : Nat) : Int) * 2 ^ K = i * 2 ^ K + 2 ^ K := by push_cast; grind
    rw [e]
    omega
  · intro out ho
    rw [vals_append, List.append_assoc]
    refine hg _ ?_
    simp only [vals, List.map_cons, List.map_nil, List.cons_append, List.nil_append, hl]
    exact Gr.keep hs (by rw [← hl]; exact h0) ho

theorem GrInv.skip {b : Int} {es : Ws} {T : Int} {K i : Nat} {Q : Nat × Int} {O : Ws} (h : GrInv b es T K i Q O) (hi : i < es.length) (hT : T + es.length * 2 ^ K ≤ 2 ^ 52 * 2 ^ K) {s : Nat × Int}
    (hs : Rnd (Q.2 + es[i].2) s.2) (hsF : F s.1 s.2 0) (h0 : Q.2 + es[i].2 - s.2 = 0) : GrInv b es T K (i + 1) s O := by
  have hb := h.bound
  have hg := h.gr
  rw [drop_cons hi] at hb hg
  simp only [vals, List.map_cons, mass] at hb hg
  refine ⟨hs.rep, hsF, h.words, by have := h.len; omega, hi, ?_, ?_⟩
  · have h1 := mass_nonneg (O.map (·.2))
    have h2 := mass_nonneg ((es.drop (i + 1)).map (·.2))
    have h3 : T + i * 2 ^ K ≤ 2 ^ 52 * 2 ^ K := Int.le_trans (by have := Int.mul_le_mul_of_nonneg_right (show (i : Int) ≤ es.length by omega) (show (0 : Int) ≤ 2 ^ K by have := p2_pos K; omega); omega) hT
    have := step_mass (T := T + i * 2 ^ K) (K := 2 ^ K) (rest := mass (O.map (·.2)) + mass ((es.drop (i + 1)).map (·.2))) hs h3 (by omega) (by omega)
    simp only [vals]
    have e : ((i + 1 : Nat) : Int) * 2 ^ K = i * 2 ^ K + 2 ^ K := by push_cast; grind
    rw [e]
    omega
  · intro out ho
    exact hg _ (Gr.drop hs h0 ho)

/-- What has come of the growing. -/
structure Grown (b : Int) (es : Ws) (T : Int) (K : Nat) (out : Ws) : Prop where
  words : Fs out
  len : out.length ≤ es.length + 1
  bound : mass (vals out) ≤ T + es.length * 2 ^ K
  gr : Gr b (vals es) (vals out)

theorem GrInv.last {b : Int} {es : Ws} {T : Int} {K : Nat} {Q : Nat × Int} {O : Ws} (h : GrInv b es T K es.length Q O) (h0 : Q.2 ≠ 0) : Grown b es T K (O ++ [Q]) := by
  have hb := h.bound
  have hg := h.gr
  rw [List.drop_length] at hb hg
  refine ⟨?_, by have := h.len; simp; omega, ?_, ?_⟩
  · intro p hp
    rcases List.mem_append.1 hp with hp | hp
    · exact h.words p hp
    · rw [List.mem_singleton.1 hp]; exact h.word
  · simp only [vals, List.map_append, mass_append, List.map_cons, List.map_nil, mass] at hb ⊢
    omega
  · rw [vals_append]
    exact hg _ (Gr.one h0)

theorem GrInv.last0 {b : Int} {es : Ws} {T : Int} {K : Nat} {Q : Nat × Int} {O : Ws} (h : GrInv b es T K es.length Q O) (h0 : Q.2 = 0) : Grown b es T K O := by
  have hb := h.bound
  have hg := h.gr
  rw [List.drop_length] at hb hg
  refine ⟨h.words, by have := h.len; omega, ?_, ?_⟩
  · simp only [vals, List.map_nil, mass] at hb ⊢
    omega
  · have := hg [] (by rw [h0]; exact Gr.nil)
    rwa [List.append_nil] at this

end Go.Proofs.Ytgeoffpcmkofkaa.Fl
/- The walks of package expansion's small functions. -/
namespace Go.Proofs.Ytgeoffpcmkofkaa
open Go.RowKit Fl
set_option maxRecDepth 100000

theorem fadd {a b r : Nat} (h : Ieee.double.add a b = some r) (t : TypeId) (w : World) : (binOp .add t (.float .f64 a) (.float .f64 b)).run Try.prog w = .ok (.float .f64 r) w := run_float_arith w .add t .f64 a b r h
theorem fsub {a b r : Nat} (h : Ieee.double.sub a b = some r) (t : TypeId) (w : World) : (binOp .sub t (.float .f64 a) (.float .f64 b)).run Try.prog w = .ok (.float .f64 r) w := run_float_arith w .sub t .f64 a b r h
theorem fmul {a b r : Nat} (h : Ieee.double.mul a b = some r) (t : TypeId) (w : World) : (binOp .mul t (.float .f64 a) (.float .f64 b)).run Try.prog w = .ok (.float .f64 r) w := run_float_arith w .mul t .f64 a b r h

set_option maxHeartbeats 400000 in
theorem splitSum_walk (a b s bb aa da db l : Nat) (w : World) (h1 : Ieee.double.add a b = some s) (h2 : Ieee.double.sub s a = some bb) (h3 : Ieee.double.sub s bb = some aa) (h4 : Ieee.double.sub a aa = some da) (h5 : Ieee.double.sub b bb = some db) (h6 : Ieee.double.add da db = some l) :
    Calls Try.prog 105 #[.float .f64 a, .float .f64 b] w fun e w' => e = .returned (.tuple #[.float .f64 s, .float .f64 l]) ∧ w' = w := by
  have g1 := fadd h1 81
  have g2 := fsub h2 81
  have g3 := fsub h3 81
  have g4 := fsub h4 81
  have g5 := fsub h5 81
  have g6 := fadd h6 81
  clear h1 h2 h3 h4 h5 h6
  go_enter Try.func105, Try.ntmps105
  go_wp2
  go_ret2
  exact ⟨rfl, rfl⟩

theorem splitSum_any (a b : Nat × Int) (w : World) (ha : F a.1 a.2 0) (hb : F b.1 b.2 0) (ra : Rep a.2) (rb : Rep b.2) (hm : (a.2.natAbs : Int) + b.2.natAbs < Mid) :
    Calls Try.prog 105 #[.float .f64 a.1, .float .f64 b.1] w fun e w' => ∃ s l : Nat × Int, e = .returned (.tuple #[.float .f64 s.1, .float .f64 l.1]) ∧ w' = w ∧ Rnd (a.2 + b.2) s.2 ∧ F s.1 s.2 0 ∧ l.2 = a.2 + b.2 - s.2 ∧ F l.1 l.2 0 := by
  have hB := Big_eq
  have h0 := Mid_pos
  have ba : (a.2.natAbs : Int) ≤ Mid := by omega
  have bb' : (b.2.natAbs : Int) ≤ Mid := by omega
  generalize Mid = M at hB h0 ba bb'
  clear hm
  have t1 := add_bd ba bb'
  obtain ⟨s, zs, e1, q1, f1⟩ := ha.add hb (by omega) (Int.lt_of_le_of_lt t1 (by omega))
  have u1 := q1.bd t1
  have t2 := sub_bd u1 ba
  obtain ⟨bb, zbb, e2, q2, f2⟩ := f1.sub ha (by omega) (Int.lt_of_le_of_lt t2 (by clear t1 u1; omega))
  have u2 := q2.bd t2
  have t3 := sub_bd u1 u2
  obtain ⟨aa, zaa, e3, q3, f3⟩ := f1.sub f2 (by omega) (Int.lt_of_le_of_lt t3 (by clear t1 u1 t2 u2 t3; omega))
  have u3 := q3.bd t3
  have t4 := sub_bd ba u3
  obtain ⟨da, zda, e4, q4, f4⟩ := ha.sub f3 (by omega) (Int.lt_of_le_of_lt t4 (by clear t1 u1 t2 u2 t3 u3 t4; omega))
  have u4 := q4.bd t4
  have t5 := sub_bd bb' u2
  obtain ⟨db, zdb, e5, q5, f5⟩ := hb.sub f2 (by omega) (Int.lt_of_le_of_lt t5 (by clear t1 u1 t2 u2 t3 u3 t4 u4 t5; omega))
  have u5 := q5.bd t5
  have t6 := add_bd u4 u5
  obtain ⟨l, zl, e6, q6, f6⟩ := f4.add f5 (by omega) (Int.lt_of_le_of_lt t6 (by clear t1 u1 t2 u2 t3 u3 t4 u4 t5 u5 t6; omega))
  refine (splitSum_walk _ _ s bb aa da db l w e1 e2 e3 e4 e5 e6).mono ?_
  rintro e w' ⟨rfl, rfl⟩
  exact ⟨(s, zs), (l, zl), rfl, rfl, q1, f1, two_sum ra rb q1 q2 q3 q4 q5 q6, f6⟩

theorem fneg (b : Nat) (w : World) : (Op.unary .neg (.float .f64 b)).run Try.prog w = .ok (.float .f64 (ng b)) w := rfl

theorem fma_run {a b c r : Nat} (h : Ieee.double.fma a b c = some r) (w : World) : (callFunc 104 #[.float .f64 a, .float .f64 b, .float .f64 c]).run Try.prog w = .ok (.value (.float .f64 r)) w := by
  have hh : FloatKind.f64.format.fma a b c = some r := h
  have e : Extern.MathFMA.fma #[.float .f64 a, .float .f64 b, .float .f64 c] = pure (.float .f64 r) := by
    show (match FloatKind.f64.format.fma a b c with | some r => (pure (Value.float .f64 r) : Sem Value) | none => _) = _
    rw [hh]
  rw [run_callFunc_extern (fn := Try.f104) (e := Extern.MathFMA.fma) (by kernel_rfl) (by kernel_rfl) (by kernel_rfl) (by kernel_rfl) (by kernel_rfl), e]
  rfl

set_option maxHeartbeats 400000 in
theorem splitProduct_walk (a b s l : Nat) (w : World) (h1 : Ieee.double.mul a b = some s) (h2 : Ieee.double.fma a b (ng s) = some l) :
    Calls Try.prog 95 #[.float .f64 a, .float .f64 b] w fun e w' => e = .returned (.tuple #[.float .f64 s, .float .f64 l]) ∧ w' = w := by
  have g1 := fmul h1 81
  have g2 := fun w => fma_run h2 w
  have g3 := fneg
  clear h1 h2
  go_enter Try.func95, Try.ntmps95
  go_wp2
  go_ret2
  exact ⟨rfl, rfl⟩

theorem splitProduct_any (a b : Nat × Int) (w : World) (ha : F a.1 a.2 0) (hb : F b.1 b.2 0) (ra : Rep a.2) (rb : Rep b.2) (hm : ((a.2 * b.2).natAbs : Int) ≤ Mid) :
    Calls Try.prog 95 #[.float .f64 a.1, .float .f64 b.1] w fun e w' => ∃ s l : Nat × Int, e = .returned (.tuple #[.float .f64 s.1, .float .f64 l.1]) ∧ w' = w ∧ Rnd (a.2 * b.2) s.2 ∧ F s.1 s.2 0 ∧ l.2 = a.2 * b.2 - s.2 ∧ F l.1 l.2 0 ∧ Rep l.2 := by
  have hB := Big_eq
  have h0 := Mid_pos
  generalize Mid = M at hB h0 hm
  obtain ⟨s, zs, e1, q1, f1⟩ := ha.mul hb (by omega) (Int.lt_of_le_of_lt hm (by omega))
  have u1 := q1.bd hm
  have hn := f1.neg
  have t2 : ((a.2 * b.2 + -zs).natAbs : Int) ≤ M + 2 * M := add_bd hm (by omega)
  obtain ⟨l, zl, e2, q2, f2⟩ := ha.fma hb hn (Int.lt_of_le_of_lt t2 (by omega))
  have hr := q1.prod_rep ra rb
  have e3 : a.2 * b.2 + -zs = a.2 * b.2 - zs := by omega
  rw [e3] at q2
  have e4 := q2.exact hr
  refine (splitProduct_walk _ _ s l w e1 e2).mono ?_
  rintro e w' ⟨rfl, rfl⟩
  exact ⟨(s, zs), (l, zl), rfl, rfl, q1, f1, e4, f2, by rw [e4]; exact hr⟩

theorem bits_run (b : Nat) (w : World) : (callFunc 93 #[.float .f64 b]).run Try.prog w = .ok (.value (.int .u64 b)) w := by
  rw [run_callFunc_extern (fn := Try.f93) (e := Extern.MathFloatBits.float64bits) (by kernel_rfl) (by kernel_rfl) (by kernel_rfl) (by kernel_rfl) (by kernel_rfl)]
  rfl
theorem frombits_run (b : Nat) (w : World) : (callFunc 92 #[.int .u64 b]).run Try.prog w = .ok (.value (.float .f64 b)) w := by
  rw [run_callFunc_extern (fn := Try.f92) (e := Extern.MathFloatBits.float64frombits) (by kernel_rfl) (by kernel_rfl) (by kernel_rfl) (by kernel_rfl) (by kernel_rfl)]
  rfl

theorem andNot_ab (b : Nat) (h : b < 2 ^ 64) : bits .andNot .u64 b 9223372036854775808 = (ab b : Int) := by
  rw [u64_andNot _ _ (by omega) (by omega) (by omega) (by omega)]
  have e2 : (b : Int).toNat &&& (18446744073709551615 - (9223372036854775808 : Int).toNat) = ab b := by
    have : (18446744073709551615 - (9223372036854775808 : Int).toNat) = 2 ^ 63 - 1 := by decide
    rw [this, Nat.and_two_pow_sub_one_eq_mod]; rfl
  rw [e2]

set_option maxHeartbeats 400000 in
theorem abs_walk (b : Nat) (w : World) (h : b < 2 ^ 64) :
    Calls Try.prog 74 #[.float .f64 b] w fun e w' => e = .returned (.float .f64 (ab b)) ∧ w' = w := by
  have g1 := bits_run
  have g2 : ∀ w, (callFunc 92 #[.int .u64 (bits .andNot .u64 b 9223372036854775808)]).run Try.prog w = .ok (.value (.float .f64 (ab b))) w := fun w => by rw [andNot_ab b h]; exact frombits_run _ w
  clear h
  go_enter Try.func74, Try.ntmps74
  go_wp2
  go_ret
  exact ⟨rfl, rfl⟩

end Go.Proofs.Ytgeoffpcmkofkaa
