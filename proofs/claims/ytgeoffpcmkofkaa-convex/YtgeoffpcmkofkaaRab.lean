/- Rnd: texts laid into one. -/
/- Rounding to 53 binary digits, on whole numbers: what is needed of it. No condition. -/
namespace Go.Proofs.Ytgeoffpcmkofkaa.Fl

theorem p2_pos (k : Nat) : (0 : Int) < 2 ^ k := Int.pow_pos (by decide)
theorem p2_add (a b : Nat) : (2 : Int) ^ (a + b) = 2 ^ a * 2 ^ b := Int.pow_add 2 a b
theorem p2_succ (a : Nat) : (2 : Int) ^ (a + 1) = 2 * 2 ^ a := by rw [p2_add]; omega
theorem p2_dvd {a b : Nat} (h : a ≤ b) : (2 : Int) ^ a ∣ 2 ^ b := by
  obtain ⟨c, rfl⟩ := Nat.exists_eq_add_of_le h
  rw [p2_add]; exact Int.dvd_mul_right _ _
theorem p2_le {a b : Nat} (h : a ≤ b) : (2 : Int) ^ a ≤ 2 ^ b := Int.le_of_dvd (p2_pos b) (p2_dvd h)
theorem p2_ge_one (a : Nat) : (1 : Int) ≤ 2 ^ a := p2_pos a
theorem p2_lt {a b : Nat} (h : a < b) : (2 : Int) ^ a < 2 ^ b := by
  have h1 := p2_le (show a + 1 ≤ b from h)
  have h2 := p2_pos a
  rw [p2_succ] at h1; omega
theorem p2_le_iff {a b : Nat} (h : (2 : Int) ^ a ≤ 2 ^ b) : a ≤ b := by
  rcases Nat.lt_or_ge b a with h1 | h1
  · have := p2_lt h1; omega
  · exact h1
theorem p2_lt_iff {a b : Nat} (h : (2 : Int) ^ a < 2 ^ b) : a < b := by
  rcases Nat.lt_or_ge a b with h1 | h1
  · exact h1
  · have := p2_le h1; omega

theorem small_dvd {P d : Int} (h : P ∣ d) (h2 : (d.natAbs : Int) < P) : d = 0 := by
  refine Int.eq_zero_of_dvd_of_natAbs_lt_natAbs h ?_
  omega

/-- A whole number of at most 53 binary digits, zeros behind them apart. -/
def Rep (x : Int) : Prop := ∃ k : Nat, (2 : Int) ^ k ∣ x ∧ (x.natAbs : Int) ≤ 2 ^ (k + 53)

/-- z is x rounded to 53 binary digits. -/
def Rnd (x z : Int) : Prop :=
  ∃ e : Nat, (2 : Int) ^ e ∣ z ∧ 2 * ((x - z).natAbs : Int) ≤ 2 ^ e ∧ (x.natAbs : Int) < 2 ^ (e + 53) ∧ (e = 0 ∨ (2 : Int) ^ (e + 52) ≤ x.natAbs)

theorem Rep.zero : Rep 0 := ⟨0, Int.dvd_zero _, by decide⟩
theorem Rep.neg {x : Int} (h : Rep x) : Rep (-x) := by
  obtain ⟨k, h1, h2⟩ := h
  exact ⟨k, Int.dvd_neg.2 h1, by omega⟩
theorem Rep.small {x : Int} (h : (x.natAbs : Int) ≤ 2 ^ 53) : Rep x := ⟨0, by simp, by simpa using h⟩
theorem Rep.p2 (k : Nat) : Rep (2 ^ k) := ⟨k, Int.dvd_refl _, by
  have := p2_pos k
  have h2 := p2_le (show k ≤ k + 53 by omega)
  omega⟩
theorem Rep.two {x : Int} (h : Rep x) : Rep (2 * x) := by
  obtain ⟨k, h1, h2⟩ := h
  refine ⟨k + 1, ?_, ?_⟩
  · rw [p2_succ]; exact Int.mul_dvd_mul_left 2 h1
  · have : (2 : Int) ^ (k + 1 + 53) = 2 * 2 ^ (k + 53) := by rw [← p2_succ]
    omega

theorem Rnd.rep {x z : Int} (h : Rnd x z) : Rep z := by
  obtain ⟨e, h1, h2, h3, _⟩ := h
  refine ⟨e, h1, ?_⟩
  have h4 : (2 : Int) ^ e ∣ 2 ^ (e + 53) := p2_dvd (by omega)
  obtain ⟨q, hq⟩ := h1
  obtain ⟨r, hr⟩ := h4
  have hp := p2_pos e
  have hz : (z.natAbs : Int) < 2 ^ (e + 53) + 2 ^ e := by omega
  rw [hr] at hz ⊢
  subst hq
  have hq1 : q.natAbs < r + 1 := by
    rw [Int.natAbs_mul] at hz
    have : ((2 ^ e : Int).natAbs : Int) = 2 ^ e := by omega
    have hz' : (2 : Int) ^ e * q.natAbs < 2 ^ e * (r + 1) := by
      have e1 : ((((2 : Int) ^ e).natAbs * q.natAbs : Nat) : Int) = 2 ^ e * q.natAbs := by rw [Int.natCast_mul, this]
      rw [e1] at hz
      have e2 : (2 : Int) ^ e * (r + 1) = 2 ^ e * r + 2 ^ e := by grind
      omega
    exact Int.lt_of_mul_lt_mul_left hz' (by omega)
  rw [Int.natAbs_mul, Int.natCast_mul]
  have : ((2 ^ e : Int).natAbs : Int) = 2 ^ e := by omega
  rw [this]
  exact Int.mul_le_mul_of_nonneg_left (by omega) (by omega)

theorem Rnd.near_grid {x z y : Int} {e : Nat} (h1 : (2 : Int) ^ e ∣ z) (h2 : 2 * ((x - z).natAbs : Int) ≤ 2 ^ e) (hy : (2 : Int) ^ e ∣ y) : (x - z).natAbs ≤ (x - y).natAbs := by
  rcases Nat.lt_or_ge (x - y).natAbs (x - z).natAbs with h | h
  · have : z - y = 0 := small_dvd (Int.dvd_sub h1 hy) (by omega)
    omega
  · exact h

/-- No number of 53 digits lies nearer. -/
theorem Rnd.near {x z y : Int} (h : Rnd x z) (hy : Rep y) : (x - z).natAbs ≤ (x - y).natAbs := by
  obtain ⟨e, h1, h2, h3, h4⟩ := h
  obtain ⟨k, g1, g2⟩ := hy
  by_cases hk : e ≤ k
  · exact Rnd.near_grid h1 h2 (Int.dvd_trans (p2_dvd hk) g1)
  · have hx : (2 : Int) ^ (e + 52) ≤ x.natAbs := by rcases h4 with h4 | h4 <;> omega
    have hle := p2_le (show k + 53 ≤ e + 52 by omega)
    have hd : (2 : Int) ^ e ∣ 2 ^ (e + 52) := p2_dvd (by omega)
    have a1 := Rnd.near_grid h1 h2 hd
    have a2 := Rnd.near_grid h1 h2 (Int.dvd_neg.2 hd)
    omega

/-- What is a whole number of steps stays one. -/
theorem Rnd.grid {x z : Int} {k : Nat} (h : Rnd x z) (hx : (2 : Int) ^ k ∣ x) : (2 : Int) ^ k ∣ z := by
  obtain ⟨e, h1, h2, _, _⟩ := h
  by_cases hk : k ≤ e
  · exact Int.dvd_trans (p2_dvd hk) h1
  · have hp := p2_pos e
    have : x - z = 0 := small_dvd (Int.dvd_sub (Int.dvd_trans (p2_dvd (by omega : e ≤ k)) hx) h1) (by omega)
    have : z = x := by omega
    rw [this]; exact hx

theorem Rnd.exact {x z : Int} (h : Rnd x z) (hx : Rep x) : z = x := by
  have := h.near hx
  omega

theorem Rnd.self {x : Int} (hx : Rep x) (z : Int) (h : Rnd x z) : z = x := h.exact hx

/-- The rounding takes away at most one part in 2 to the power 53. -/
theorem Rnd.rel {x z : Int} (h : Rnd x z) : ((x - z).natAbs : Int) * 2 ^ 53 ≤ x.natAbs := by
  obtain ⟨e, h1, h2, h3, h4⟩ := h
  rcases h4 with h4 | h4
  · subst h4
    have : (x - z).natAbs = 0 := by omega
    rw [this]; omega
  · have : (2 : Int) ^ (e + 52) = 2 ^ e * 2 ^ 52 := p2_add e 52
    have h53 : (2 : Int) ^ 53 = 2 * 2 ^ 52 := by decide
    have : ((x - z).natAbs : Int) * 2 ^ 53 = (2 * ((x - z).natAbs : Int)) * 2 ^ 52 := by rw [h53]; grind
    have := Int.mul_le_mul_of_nonneg_right h2 (show (0 : Int) ≤ 2 ^ 52 by decide)
    omega

theorem Rnd.le {x z y : Int} (h : Rnd x z) (hy : Rep y) (hxy : x ≤ y) : z ≤ y := by
  have := h.near hy
  omega
theorem Rnd.ge {x z y : Int} (h : Rnd x z) (hy : Rep y) (hxy : y ≤ x) : y ≤ z := by
  have := h.near hy
  omega

/-- What two numbers of 53 digits part by, if it is no more than either. -/
theorem Rep.sub {x y : Int} (hx : Rep x) (hy : Rep y) (h1 : (x - y).natAbs ≤ x.natAbs) (h2 : (x - y).natAbs ≤ y.natAbs) : Rep (x - y) := by
  obtain ⟨j, a1, a2⟩ := hx
  obtain ⟨k, b1, b2⟩ := hy
  by_cases hjk : j ≤ k
  · exact ⟨j, Int.dvd_sub a1 (Int.dvd_trans (p2_dvd hjk) b1), by omega⟩
  · exact ⟨k, Int.dvd_sub (Int.dvd_trans (p2_dvd (by omega : k ≤ j)) a1) b1, by omega⟩

/-- What the rounding of a sum takes away is no more than either part. -/
theorem Rnd.lost_le {a b s : Int} (h : Rnd (a + b) s) (ha : Rep a) (hb : Rep b) : (a + b - s).natAbs ≤ a.natAbs ∧ (a + b - s).natAbs ≤ b.natAbs := by
  have h1 := h.near ha
  have h2 := h.near hb
  omega

theorem Rnd.lost_rep {a b s : Int} (h : Rnd (a + b) s) (ha : Rep a) (hb : Rep b) : Rep (a + b - s) := by
  obtain ⟨l1, l2⟩ := h.lost_le ha hb
  obtain ⟨j, a1, a2⟩ := ha
  obtain ⟨k, b1, b2⟩ := hb
  by_cases hjk : j ≤ k
  · have hd := Int.dvd_add a1 (Int.dvd_trans (p2_dvd hjk) b1)
    exact ⟨j, Int.dvd_sub hd (h.grid hd), by omega⟩
  · have hd := Int.dvd_add (Int.dvd_trans (p2_dvd (by omega : k ≤ j)) a1) b1
    exact ⟨k, Int.dvd_sub hd (h.grid hd), by omega⟩

theorem Rnd.neg {x z : Int} (h : Rnd x z) : Rnd (-x) (-z) := by
  obtain ⟨e, h1, h2, h3, h4⟩ := h
  exact ⟨e, Int.dvd_neg.2 h1, by omega, by omega, by omega⟩

/-- The greater part is taken away again without any rounding: a first. -/
theorem Rnd.fast_pos {a b s : Int} (h : Rnd (a + b) s) (ha : Rep a) (hb : Rep b) (h0 : 0 ≤ a) (hab : b.natAbs ≤ a.natAbs) : Rep (s - a) := by
  rcases Int.le_total 0 b with h1 | h1
  · have g1 := h.ge ha (by omega)
    have g2 := h.le ha.two (by omega)
    exact Rep.sub h.rep ha (by omega) (by omega)
  · by_cases h2 : a < 2 * (-b)
    · have : Rep (a + b) := by
        have := Rep.sub ha hb.neg (by omega) (by omega)
        simpa [Int.sub_neg] using this
      rw [h.exact this]
      have : a + b - a = b := by omega
      rw [this]; exact hb
    · have g1 := h.le ha (by omega)
      by_cases hg : 2 * s < a
      · obtain ⟨k, a1, a2⟩ := ha
        cases k with
        | zero =>
          have : Rep (a + b) := Rep.small (by omega)
          have := h.exact this
          omega
        | succ k =>
          obtain ⟨q, hq⟩ := a1
          rw [p2_succ] at hq
          have hq2 : a = 2 * (2 ^ k * q) := by rw [hq]; grind
          have hr : Rep (2 ^ k * q) := ⟨k, Int.dvd_mul_right _ _, by
            have : (2 : Int) ^ (k + 1 + 53) = 2 * 2 ^ (k + 53) := by rw [← p2_succ]
            omega⟩
          have := h.ge hr (by omega)
          omega
      · exact Rep.sub h.rep ha (by omega) (by omega)

theorem Rnd.fast {a b s : Int} (h : Rnd (a + b) s) (ha : Rep a) (hb : Rep b) (hab : b.natAbs ≤ a.natAbs) : Rep (s - a) := by
  rcases Int.le_total 0 a with h0 | h0
  · exact h.fast_pos ha hb h0 hab
  · have h' : Rnd (-a + -b) (-s) := by
      have := h.neg
      have e : -(a + b) = -a + -b := by omega
      rwa [e] at this
    have := (h'.fast_pos ha.neg hb.neg (by omega) (by omega)).neg
    have e : -(-s - -a) = s - a := by omega
    rwa [e] at this

/-- A sum is split without loss, whichever part is the greater. -/
theorem two_sum {a b s bb aa da db l : Int} (ha : Rep a) (hb : Rep b) (hs : Rnd (a + b) s) (h2 : Rnd (s - a) bb) (h3 : Rnd (s - bb) aa) (h4 : Rnd (a - aa) da) (h5 : Rnd (b - bb) db) (h6 : Rnd (da + db) l) : l = a + b - s := by
  have herr := hs.lost_rep ha hb
  have easy : Rep (s - a) → l = a + b - s := by
    intro hx
    have e1 := h2.exact hx
    subst e1
    have e2 : s - (s - a) = a := by omega
    rw [e2] at h3
    have e3 := h3.exact ha
    subst e3
    have e4 : aa - aa = 0 := by omega
    rw [e4] at h4
    have e5 := h4.exact Rep.zero
    subst e5
    have e6 : b - (s - aa) = aa + b - s := by omega
    rw [e6] at h5
    have e7 := h5.exact herr
    subst e7
    have e8 : 0 + (aa + b - s) = aa + b - s := by omega
    rw [e8] at h6
    exact h6.exact herr
  by_cases hab : b.natAbs ≤ a.natAbs
  · exact easy (hs.fast ha hb hab)
  · by_cases hsa : s.natAbs < a.natAbs
    · -- the sum is exact: the parts cancel
      apply easy
      have hsum : Rep (a + b) := by
        have hn := hs.near ha
        have hn2 := hs.near ha.neg
        have l1 := hs.lost_le ha hb
        by_cases hg : (a + b).natAbs ≤ a.natAbs
        · have := Rep.sub ha hb.neg (by omega) (by omega)
          simpa [Int.sub_neg] using this
        · rcases Int.le_total 0 (a + b) with g | g
          · rcases Int.le_total 0 a with g2 | g2
            · have := hs.ge ha (by omega); omega
            · have := hs.ge ha.neg (by omega); omega
          · rcases Int.le_total 0 a with g2 | g2
            · have := hs.le ha.neg (by omega); omega
            · have := hs.le ha (by omega); omega
      have e := hs.exact hsum
      have e2 : s - a = b := by omega
      rw [e2]; exact hb
    · have h2' : Rnd (s + -a) bb := by have e : s - a = s + -a := by omega
                                       rwa [e] at h2
      have r1 := (h2'.fast hs.rep ha.neg (by omega)).neg
      have e1 : -(bb - s) = s - bb := by omega
      rw [e1] at r1
      have e2 := h3.exact r1
      subst e2
      have r2 := (h2'.lost_rep hs.rep ha.neg).neg
      have e3 : -(s + -a - bb) = a - (s - bb) := by omega
      rw [e3] at r2
      have e4 := h4.exact r2
      subst e4
      have hrel := hs.rel
      have hn := h2'.near hb
      have hbb : Rep (b - bb) := by
        have : (2 : Int) ^ 53 = 9007199254740992 := by decide
        rw [this] at hrel
        exact Rep.sub hb h2'.rep (by omega) (by omega)
      have e5 := h5.exact hbb
      subst e5
      have e6 : a - (s - bb) + (b - bb) = a + b - s := by omega
      rw [e6] at h6
      exact h6.exact herr

/-- What the rounding of a product takes away has 53 digits. -/
theorem Rnd.prod_rep {a b s : Int} (h : Rnd (a * b) s) (ha : Rep a) (hb : Rep b) : Rep (a * b - s) := by
  obtain ⟨j, a1, a2⟩ := ha
  obtain ⟨k, b1, b2⟩ := hb
  have hd : (2 : Int) ^ (j + k) ∣ a * b := by rw [p2_add]; exact Int.mul_dvd_mul a1 b1
  refine ⟨j + k, Int.dvd_sub hd (h.grid hd), ?_⟩
  have hab : ((a * b).natAbs : Int) ≤ 2 ^ (j + k + 106) := by
    rw [Int.natAbs_mul, Int.natCast_mul]
    have e : (2 : Int) ^ (j + k + 106) = 2 ^ (j + 53) * 2 ^ (k + 53) := by rw [← p2_add]; congr 1; omega
    rw [e]
    exact Int.mul_le_mul a2 b2 (by omega) (by have := p2_pos (j + 53); omega)
  obtain ⟨e, g1, g2, g3, g4⟩ := h
  rcases g4 with g4 | g4
  · subst g4
    have := p2_pos (j + k + 53)
    omega
  · have := p2_le_iff (Int.le_trans g4 hab)
    have h2 := p2_le (show e ≤ j + k + 54 by omega)
    have e2 : (2 : Int) ^ (j + k + 54) = 2 * 2 ^ (j + k + 53) := by rw [← p2_succ]
    omega

end Go.Proofs.Ytgeoffpcmkofkaa.Fl
