/- Rnd; Dig: texts laid into one. -/
/- Rounding to 53 binary digits, on whole numbers: what is needed of it. No condition. -/
namespace Go.Proofs.Ytgeoffpcmkofkaa.Fl

theorem p2_pos (k : Nat) : (0 : Int) < 2 ^ k := Int.pow_pos (by decide)
theorem p2_add (a b : Nat) : (2 : Int) ^ (a + b) = 2 ^ a * 2 ^ b := Int.pow_add 2 a b
theorem p2_succ (a : Nat) : (2 : Int) ^ (a + 1) = 2 * 2 ^ a := by rw [p2_add]; omega
theorem p2_dvd {a b : Nat} (h : a ≤ b) : (2 : Int) ^ a ∣ 2 ^ b := by
  obtain ⟨c, rfl⟩ := Nat.exists_eq_add_of_le h
  rw [p2_add]; exact Int.dvd_mul_right _ _
theorem p2_le {a b : Nat} (h : a ≤ b) : (2 : Int) ^ a ≤ 2 ^ b := Int.le_of_dvd (p2_pos b) (p2_dvd h)
theorem p2_ge_one (a : Nat) : (1 : Int) ≤ 2 ^ a := p2_pos a
theorem p2_lt {a b : Nat} (h : a < b) : (2 : Int) ^ a < 2 ^ b := by
  have h1 := p2_le (show a + 1 ≤ b from h)
  have h2 := p2_pos a
  rw [p2_succ] at h1; omega
theorem p2_le_iff {a b : Nat} (h : (2 : Int) ^ a ≤ 2 ^ b) : a ≤ b := by
  rcases Nat.lt_or_ge b a with h1 | h1
  · have := p2_lt h1; omega
  · exact h1
theorem p2_lt_iff {a b : Nat} (h : (2 : Int) ^ a < 2 ^ b) : a < b := by
  rcases Nat.lt_or_ge a b with h1 | h1
  · exact h1
  · have := p2_le h1; omega

theorem small_dvd {P d : Int} (h : P ∣ d) (h2 : (d.natAbs : Int) < P) : d = 0 := by
  refine Int.eq_zero_of_dvd_of_natAbs_lt_natAbs h ?_
  omega

/-- A whole number of at most 53 binary digits, zeros behind them apart. -/
def Rep (x : Int) : Prop := ∃ k : Nat, (2 : Int) ^ k ∣ x ∧ (x.natAbs : Int) ≤ 2 ^ (k + 53)

/-- z is x rounded to 53 binary digits. -/
def Rnd (x z : Int) : Prop :=
  ∃ e : Nat, (2 : Int) ^ e ∣ z ∧ 2 * ((x - z).natAbs : Int) ≤ 2 ^ e ∧ (x.natAbs : Int) < 2 ^ (e + 53) ∧ (e = 0 ∨ (2 : Int) ^ (e + 52) ≤ x.natAbs)

theorem Rep.zero : Rep 0 := ⟨0, Int.dvd_zero _, by decide⟩
theorem Rep.neg {x : Int} (h : Rep x) : Rep (-x) := by
  obtain ⟨k, h1, h2⟩ := h
  exact ⟨k, Int.dvd_neg.2 h1, by omega⟩
theorem Rep.small {x : Int} (h : (x.natAbs : Int) ≤ 2 ^ 53) : Rep x := ⟨0, by simp, by simpa using h⟩
theorem Rep.p2 (k : Nat) : Rep (2 ^ k) := ⟨k, Int.dvd_refl _, by
  have := p2_pos k
  have h2 := p2_le (show k ≤ k + 53 by omega)
  omega⟩
theorem Rep.two {x : Int} (h : Rep x) : Rep (2 * x) := by
  obtain ⟨k, h1, h2⟩ := h
  refine ⟨k + 1, ?_, ?_⟩
  · rw [p2_succ]; exact Int.mul_dvd_mul_left 2 h1
  · have : (2 : Int) ^ (k + 1 + 53) = 2 * 2 ^ (k + 53) := by rw [← p2_succ]
    omega

theorem Rnd.rep {x z : Int} (h : Rnd x z) : Rep z := by
  obtain ⟨e, h1, h2, h3, _⟩ := h
  refine ⟨e, h1, ?_⟩
  have h4 : (2 : Int) ^ e ∣ 2 ^ (e + 53) := p2_dvd (by omega)
  obtain ⟨q, hq⟩ := h1
  obtain ⟨r, hr⟩ := h4
  have hp := p2_pos e
  have hz : (z.natAbs : Int) < 2 ^ (e + 53) + 2 ^ e := by omega
  rw [hr] at hz ⊢
  subst hq
  have hq1 : q.natAbs < r + 1 := by
    rw [Int.natAbs_mul] at hz
    have : ((2 ^ e : Int).natAbs : Int) = 2 ^ e := by omega
    have hz' : (2 : Int) ^ e * q.natAbs < 2 ^ e * (r + 1) := by
      have e1 : ((((2 : Int) ^ e).natAbs * q.natAbs : Nat) : Int) = 2 ^ e * q.natAbs := by rw [Int.natCast_mul, this]
      rw [e1] at hz
      have e2 : (2 : Int) ^ e * (r + 1) = 2 ^ e * r + 2 ^ e := by grind
      omega
    exact Int.lt_of_mul_lt_mul_left hz' (by omega)
  rw [Int.natAbs_mul, Int.natCast_mul]
  have : ((2 ^ e : Int).natAbs : Int) = 2 ^ e := by omega
  rw [this]
  exact Int.mul_le_mul_of_nonneg_left (by omega) (by omega)

theorem Rnd.near_grid {x z y : Int} {e : Nat} (h1 : (2 : Int) ^ e ∣ z) (h2 : 2 * ((x - z).natAbs : Int) ≤ 2 ^ e) (hy : (2 : Int) ^ e ∣ y) : (x - z).natAbs ≤ (x - y).natAbs := by
  rcases Nat.lt_or_ge (x - y).natAbs (x - z).natAbs with h | h
  · have : z - y = 0 := small_dvd (Int.dvd_sub h1 hy) (by omega)
    omega
  · exact h

/-- No number of 53 digits lies nearer. -/
theorem Rnd.near {x z y : Int} (h : Rnd x z) (hy : Rep y) : (x - z).natAbs ≤ (x - y).natAbs := by
  obtain ⟨e, h1, h2, h3, h4⟩ := h
  obtain ⟨k, g1, g2⟩ := hy
  by_cases hk : e ≤ k
  · exact Rnd.near_grid h1 h2 (Int.dvd_trans (p2_dvd hk) g1)
  · have hx : (2 : Int) ^ (e + 52) ≤ x.natAbs := by rcases h4 with h4 | h4 <;> omega
    have hle := p2_le (show k + 53 ≤ e + 52 by omega)
    have hd : (2 : Int) ^ e ∣ 2 ^ (e + 52) := p2_dvd (by omega)
    have a1 := Rnd.near_grid h1 h2 hd
    have a2 := Rnd.near_grid h1 h2 (Int.dvd_neg.2 hd)
    omega

/-- What is a whole number of steps stays one. -/
theorem Rnd.grid {x z : Int} {k : Nat} (h : Rnd x z) (hx : (2 : Int) ^ k ∣ x) : (2 : Int) ^ k ∣ z := by
  obtain ⟨e, h1, h2, _, _⟩ := h
  by_cases hk : k ≤ e
  · exact Int.dvd_trans (p2_dvd hk) h1
  · have hp := p2_pos e
    have : x - z = 0 := small_dvd (Int.dvd_sub (Int.dvd_trans (p2_dvd (by omega : e ≤ k)) hx) h1) (by omega)
    have : z = x := by omega
    rw [this]; exact hx

theorem Rnd.exact {x z : Int} (h : Rnd x z) (hx : Rep x) : z = x := by
  have := h.near hx
  omega

theorem Rnd.self {x : Int} (hx : Rep x) (z : Int) (h : Rnd x z) : z = x := h.exact hx

/-- The rounding takes away at most one part in 2 to the power 53. -/
theorem Rnd.rel {x z : Int} (h : Rnd x z) : ((x - z).natAbs : Int) * 2 ^ 53 ≤ x.natAbs := by
  obtain ⟨e, h1, h2, h3, h4⟩ := h
  rcases h4 with h4 | h4
  · subst h4
    have : (x - z).natAbs = 0 := by omega
    rw [this]; omega
  · have : (2 : Int) ^ (e + 52) = 2 ^ e * 2 ^ 52 := p2_add e 52
    have h53 : (2 : Int) ^ 53 = 2 * 2 ^ 52 := by decide
    have : ((x - z).natAbs : Int) * 2 ^ 53 = (2 * ((x - z).natAbs : Int)) * 2 ^ 52 := by rw [h53]; grind
    have := Int.mul_le_mul_of_nonneg_right h2 (show (0 : Int) ≤ 2 ^ 52 by decide)
    omega

theorem Rnd.le {x z y : Int} (h : Rnd x z) (hy : Rep y) (hxy : x ≤ y) : z ≤ y := by
  have := h.near hy
  omega
theorem Rnd.ge {x z y : Int} (h : Rnd x z) (hy : Rep y) (hxy : y ≤ x) : y ≤ z := by
  have := h.near hy
  omega

/-- What two numbers of 53 digits part by, if it is no more than either. -/
theorem Rep.sub {x y : Int} (hx : Rep x) (hy : Rep y) (h1 : (x - y).natAbs ≤ x.natAbs) (h2 : (x - y).natAbs ≤ y.natAbs) : Rep (x - y) := by
  obtain ⟨j, a1, a2⟩ := hx
  obtain ⟨k, b1, b2⟩ := hy
  by_cases hjk : j ≤ k
  · exact ⟨j, Int.dvd_sub a1 (Int.dvd_trans (p2_dvd hjk) b1), by omega⟩
  · exact ⟨k, Int.dvd_sub (Int.dvd_trans (p2_dvd (by omega : k ≤ j)) a1) b1, by omega⟩

/-- What the rounding of a sum takes away is no more than either part. -/
theorem Rnd.lost_le {a b s : Int} (h : Rnd (a + b) s) (ha : Rep a) (hb : Rep b) : (a + b - s).natAbs ≤ a.natAbs ∧ (a + b - s).natAbs ≤ b.natAbs := by
  have h1 := h.near ha
  have h2 := h.near hb
  omega

theorem Rnd.lost_rep {a b s : Int} (h : Rnd (a + b) s) (ha : Rep a) (hb : Rep b) : Rep (a + b - s) := by
  obtain ⟨l1, l2⟩ := h.lost_le ha hb
  obtain ⟨j, a1, a2⟩ := ha
  obtain ⟨k, b1, b2⟩ := hb
  by_cases hjk : j ≤ k
  · have hd := Int.dvd_add a1 (Int.dvd_trans (p2_dvd hjk) b1)
    exact ⟨j, Int.dvd_sub hd (h.grid hd), by omega⟩
  · have hd := Int.dvd_add (Int.dvd_trans (p2_dvd (by omega : k ≤ j)) a1) b1
    exact ⟨k, Int.dvd_sub hd (h.grid hd), by omega⟩

theorem Rnd.neg {x z : Int} (h : Rnd x z) : Rnd (-x) (-z) := by
  obtain ⟨e, h1, h2, h3, h4⟩ := h
  exact ⟨e, Int.dvd_neg.2 h1, by omega, by omega, by omega⟩

/-- The greater part is taken away again without any rounding: a first. -/
theorem Rnd.fast_pos {a b s : Int} (h : Rnd (a + b) s) (ha : Rep a) (hb : Rep b) (h0 : 0 ≤ a) (hab : b.natAbs ≤ a.natAbs) : Rep (s - a) := by
  rcases Int.le_total 0 b with h1 | h1
  · have g1 := h.ge ha (by omega)
    have g2 := h.le ha.two (by omega)
    exact Rep.sub h.rep ha (by omega) (by omega)
  · by_cases h2 : a < 2 * (-b)
    · have : Rep (a + b) := by
        have := Rep.sub ha hb.neg (by omega) (by omega)
        simpa [Int.sub_neg] using this
      rw [h.exact this]
      have : a + b - a = b := by omega
      rw [this]; exact hb
    · have g1 := h.le ha (by omega)
      by_cases hg : 2 * s < a
      · obtain ⟨k, a1, a2⟩ := ha
        cases k with
        | zero =>
          have : Rep (a + b) := Rep.small (by omega)
          have := h.exact this
          omega
        | succ k =>
          obtain ⟨q, hq⟩ := a1
          rw [p2_succ] at hq
          have hq2 : a = 2 * (2 ^ k * q) := by rw [hq]; grind
          have hr : Rep (2 ^ k * q) := ⟨k, Int.dvd_mul_right _ _, by
            have : (2 : Int) ^ (k + 1 + 53) = 2 * 2 ^ (k + 53) := by rw [← p2_succ]
            omega⟩
          have := h.ge hr (by omega)
          omega
      · exact Rep.sub h.rep ha (by omega) (by omega)

theorem Rnd.fast {a b s : Int} (h : Rnd (a + b) s) (ha : Rep a) (hb : Rep b) (hab : b.natAbs ≤ a.natAbs) : Rep (s - a) := by
  rcases Int.le_total 0 a with h0 | h0
  · exact h.fast_pos ha hb h0 hab
  · have h' : Rnd (-a + -b) (-s) := by
      have := h.neg
      have e : -(a + b) = -a + -b := by omega
      rwa [e] at this
    have := (h'.fast_pos ha.neg hb.neg (by omega) (by omega)).neg
    have e : -(-s - -a) = s - a := by omega
    rwa [e] at this

/-- A sum is split without loss, whichever part is the greater. -/
theorem two_sum {a b s bb aa da db l : Int} (ha : Rep a) (hb : Rep b) (hs : Rnd (a + b) s) (h2 : Rnd (s - a) bb) (h3 : Rnd (s - bb) aa) (h4 : Rnd (a - aa) da) (h5 : Rnd (b - bb) db) (h6 : Rnd (da + db) l) : l = a + b - s := by
  have herr := hs.lost_rep ha hb
  have easy : Rep (s - a) → l = a + b - s := by
    intro hx
    have e1 := h2.exact hx
    subst e1
    have e2 : s - (s - a) = a := by omega
    rw [e2] at h3
    have e3 := h3.exact ha
    subst e3
    have e4 : aa - aa = 0 := by omega
    rw [e4] at h4
    have e5 := h4.exact Rep.zero
    subst e5
    have e6 : b - (s - aa) = aa + b - s := by omega
    rw [e6] at h5
    have e7 := h5.exact herr
    subst e7
    have e8 : 0 + (aa + b - s) = aa + b - s := by omega
    rw [e8] at h6
    exact h6.exact herr
  by_cases hab : b.natAbs ≤ a.natAbs
  · exact easy (hs.fast ha hb hab)
  · by_cases hsa : s.natAbs < a.natAbs
    · -- the sum is exact: the parts cancel
      apply easy
      have hsum : Rep (a + b) := by
        have hn := hs.near ha
        have hn2 := hs.near ha.neg
        have l1 := hs.lost_le ha hb
        by_cases hg : (a + b).natAbs ≤ a.natAbs
        · have := Rep.sub ha hb.neg (by omega) (by omega)
          simpa [Int.sub_neg] using this
        · rcases Int.le_total 0 (a + b) with g | g
          · rcases Int.le_total 0 a with g2 | g2
            · have := hs.ge ha (by omega); omega
            · have := hs.ge ha.neg (by omega); omega
          · rcases Int.le_total 0 a with g2 | g2
            · have := hs.le ha.neg (by omega); omega
            · have := hs.le ha (by omega); omega
      have e := hs.exact hsum
      have e2 : s - a = b := by omega
      rw [e2]; exact hb
    · have h2' : Rnd (s + -a) bb := by have e : s - a = s + -a := by omega
                                       rwa [e] at h2
      have r1 := (h2'.fast hs.rep ha.neg (by omega)).neg
      have e1 : -(bb - s) = s - bb := by omega
      rw [e1] at r1
      have e2 := h3.exact r1
      subst e2
      have r2 := (h2'.lost_rep hs.rep ha.neg).neg
      have e3 : -(s + -a - bb) = a - (s - bb) := by omega
      rw [e3] at r2
      have e4 := h4.exact r2
      subst e4
      have hrel := hs.rel
      have hn := h2'.near hb
      have hbb : Rep (b - bb) := by
        have : (2 : Int) ^ 53 = 9007199254740992 := by decide
        rw [this] at hrel
        exact Rep.sub hb h2'.rep (by omega) (by omega)
      have e5 := h5.exact hbb
      subst e5
      have e6 : a - (s - bb) + (b - bb) = a + b - s := by omega
      rw [e6] at h6
      exact h6.exact herr

/-- What the rounding of a product takes away has 53 digits. -/
theorem Rnd.prod_rep {a b s : Int} (h : Rnd (a * b) s) (ha : Rep a) (hb : Rep b) : Rep (a * b - s) := by
  obtain ⟨j, a1, a2⟩ := ha
  obtain ⟨k, b1, b2⟩ := hb
  have hd : (2 : Int) ^ (j + k) ∣ a * b := by rw [p2_add]; exact Int.mul_dvd_mul a1 b1
  refine ⟨j + k, Int.dvd_sub hd (h.grid hd), ?_⟩
  have hab : ((a * b).natAbs : Int) ≤ 2 ^ (j + k + 106) := by
    rw [Int.natAbs_mul, Int.natCast_mul]
    have e : (2 : Int) ^ (j + k + 106) = 2 ^ (j + 53) * 2 ^ (k + 53) := by rw [← p2_add]; congr 1; omega
    rw [e]
    exact Int.mul_le_mul a2 b2 (by omega) (by have := p2_pos (j + 53); omega)
  obtain ⟨e, g1, g2, g3, g4⟩ := h
  rcases g4 with g4 | g4
  · subst g4
    have := p2_pos (j + k + 53)
    omega
  · have := p2_le_iff (Int.le_trans g4 hab)
    have h2 := p2_le (show e ≤ j + k + 54 by omega)
    have e2 : (2 : Int) ^ (j + k + 54) = 2 * 2 ^ (j + k + 53) := by rw [← p2_succ]
    omega

end Go.Proofs.Ytgeoffpcmkofkaa.Fl
/- Whole numbers as lists of digits, the least first: sums, differences, products, which is the greater. -/
namespace Go.Proofs.Ytgeoffpcmkofkaa.Dg

abbrev B : Int := 1048576

/-- The number of some digits. -/
def dv : List Int → Int
  | [] => 0
  | d :: l => d + 1048576 * dv l

def Dok (ds : List Int) : Prop := ∀ d ∈ ds, 0 ≤ d ∧ d < 1048576
/-- None of the highest is 0. -/
def Tr (ds : List Int) : Prop := ∀ h : ds ≠ [], ds.getLast h ≠ 0

theorem bp (n : Nat) : (0 : Int) < B ^ n := Int.pow_pos (by decide)
theorem bs (n : Nat) : B ^ (n + 1) = 1048576 * B ^ n := by rw [Int.pow_succ, Int.mul_comm]
theorem ba (m n : Nat) : B ^ (m + n) = B ^ m * B ^ n := Int.pow_add B m n
theorem bm {m n : Nat} (h : m ≤ n) : B ^ m ≤ B ^ n := by
  obtain ⟨c, rfl⟩ := Nat.exists_eq_add_of_le h
  rw [ba]
  have h1 := bp m
  have h2 := bp c
  have : B ^ m * 1 ≤ B ^ m * B ^ c := Int.mul_le_mul_of_nonneg_left h2 (by omega)
  omega
theorem bl {m n : Nat} (h : B ^ m < B ^ n) : m < n := by
  rcases Nat.lt_or_ge m n with h1 | h1
  · exact h1
  · have := bm h1; omega

theorem dv_append (a b : List Int) : dv (a ++ b) = dv a + B ^ a.length * dv b := by
  induction a with
  | nil => simp [dv]
  | cons d l ih => simp only [List.cons_append, dv, ih, List.length_cons, bs]; grind

theorem Dok.nil : Dok [] := fun _ h => absurd h (by simp)
theorem Dok.append {a b : List Int} (ha : Dok a) (hb : Dok b) : Dok (a ++ b) := fun d hd => by
  rcases List.mem_append.1 hd with h | h
  · exact ha d h
  · exact hb d h
theorem Dok.one {d : Int} (h0 : 0 ≤ d) (h1 : d < 1048576) : Dok [d] := fun x hx => by rw [List.mem_singleton.1 hx]; exact ⟨h0, h1⟩
theorem Dok.take {a : List Int} (h : Dok a) (n : Nat) : Dok (a.take n) := fun d hd => h d (List.mem_of_mem_take hd)
theorem Dok.drop {a : List Int} (h : Dok a) (n : Nat) : Dok (a.drop n) := fun d hd => h d (List.mem_of_mem_drop hd)

theorem dv_nonneg {ds : List Int} (h : Dok ds) : 0 ≤ dv ds := by
  induction ds with
  | nil => simp [dv]
  | cons d l ih =>
    have h1 := h d (List.mem_cons_self ..)
    have h2 := ih (fun x hx => h x (List.mem_cons_of_mem _ hx))
    simp only [dv]; omega

theorem dv_lt {ds : List Int} (h : Dok ds) : dv ds < B ^ ds.length := by
  induction ds with
  | nil => simp [dv]
  | cons d l ih =>
    have h1 := h d (List.mem_cons_self ..)
    have h2 := ih (fun x hx => h x (List.mem_cons_of_mem _ hx))
    simp only [dv, List.length_cons, bs]; omega

theorem dv_split (ds : List Int) (n : Nat) (h : n ≤ ds.length) : dv ds = dv (ds.take n) + B ^ n * dv (ds.drop n) := by
  have := dv_append (ds.take n) (ds.drop n)
  rw [List.take_append_drop, List.length_take, Nat.min_eq_left h] at this
  exact this

theorem dv_drop (ds : List Int) (i : Nat) : dv (ds.drop i) = ds.getD i 0 + 1048576 * dv (ds.drop (i + 1)) := by
  by_cases h : i < ds.length
  · rw [List.drop_eq_getElem_cons h]
    simp only [dv]
    rw [List.getD_eq_getElem?_getD, List.getElem?_eq_getElem h]; rfl
  · rw [List.drop_eq_nil_of_le (by omega), List.drop_eq_nil_of_le (by omega), List.getD_eq_getElem?_getD, List.getElem?_eq_none (by omega)]; rfl

theorem getD_ok {ds : List Int} (h : Dok ds) (i : Nat) : 0 ≤ ds.getD i 0 ∧ ds.getD i 0 < 1048576 := by
  rw [List.getD_eq_getElem?_getD]
  by_cases hi : i < ds.length
  · rw [List.getElem?_eq_getElem hi]; exact h _ (List.getElem_mem hi)
  · rw [List.getElem?_eq_none (by omega)]; simp

theorem drop_last {ds : List Int} (hn : ds ≠ []) : ds.drop (ds.length - 1) = [ds.getLast hn] := by
  have hlen : 0 < ds.length := List.length_pos_iff.2 hn
  rw [List.drop_eq_getElem_cons (by omega), List.drop_eq_nil_of_le (by omega), List.getLast_eq_getElem]

/-- Of digits without 0 at the top the number is great. -/
theorem dv_ge {ds : List Int} (h : Dok ds) (ht : Tr ds) (hn : ds ≠ []) : B ^ (ds.length - 1) ≤ dv ds := by
  have h1 := ht hn
  have hlen : 0 < ds.length := List.length_pos_iff.2 hn
  have h2 := dv_split ds (ds.length - 1) (by omega)
  rw [drop_last hn] at h2
  have h3 := h _ (List.getLast_mem hn)
  have h4 := dv_nonneg (h.take (ds.length - 1))
  have h5 : B ^ (ds.length - 1) * 1 ≤ B ^ (ds.length - 1) * dv [ds.getLast hn] := by
    refine Int.mul_le_mul_of_nonneg_left ?_ (by have := bp (ds.length - 1); omega)
    simp only [dv]; omega
  omega

theorem tr_of {ds : List Int} (h : Dok ds) (hg : ds ≠ [] → B ^ (ds.length - 1) ≤ dv ds) : Tr ds := by
  intro hn h0
  have h1 := hg hn
  have hlen : 0 < ds.length := List.length_pos_iff.2 hn
  have h2 := dv_split ds (ds.length - 1) (by omega)
  rw [drop_last hn, h0] at h2
  simp only [dv] at h2
  have h3 := dv_lt (h.take (ds.length - 1))
  rw [List.length_take, Nat.min_eq_left (by omega)] at h3
  omega

theorem dv_zero {ds : List Int} (h : Dok ds) (ht : Tr ds) : dv ds = 0 ↔ ds = [] := by
  constructor
  · intro h0
    by_cases hn : ds = []
    · exact hn
    · have := dv_ge h ht hn
      have := bp (ds.length - 1)
      omega
  · rintro rfl; rfl

/-! ### Sums -/
structure AddI (a b : List Int) (i : Nat) (d : List Int) (c : Int) : Prop where
  len : d.length = i
  ok : Dok d
  c0 : 0 ≤ c
  c1 : c ≤ 1
  val : dv d + B ^ i * c + B ^ i * (dv (a.drop i) + dv (b.drop i)) = dv a + dv b
  top : i ≤ a.length ∨ i ≤ b.length ∨ B ^ (i - 1) ≤ dv a + dv b
  stop : i ≤ a.length + 1 ∨ i ≤ b.length + 1

theorem AddI.start (a b : List Int) : AddI a b 0 [] 0 := ⟨rfl, Dok.nil, by omega, by omega, by simp [dv], Or.inl (by omega), Or.inl (by omega)⟩

theorem AddI.next {a b : List Int} {i : Nat} {d : List Int} {c s : Int} (h : AddI a b i d c) (ha : Dok a) (hb : Dok b) (hgo : i < a.length ∨ i < b.length ∨ 0 < c) (hs : s = a.getD i 0 + b.getD i 0 + c) :
    AddI a b (i + 1) (d ++ [s % 1048576]) (s / 1048576) ∧ 0 ≤ s ∧ s < 2097152 := by
  have h1 := getD_ok ha i
  have h2 := getD_ok hb i
  have hc0 := h.c0
  have hc1 := h.c1
  have hsb : 0 ≤ s ∧ s < 2097152 := by omega
  refine ⟨⟨by simp [h.len], h.ok.append (Dok.one (by omega) (by omega)), by omega, by omega, ?_, ?_, ?_⟩, hsb.1, hsb.2⟩
  · have hv := h.val
    rw [dv_drop a i, dv_drop b i] at hv
    rw [dv_append, h.len, bs]
    have hsd : s = 1048576 * (s / 1048576) + s % 1048576 := by omega
    simp only [dv]
    generalize s / 1048576 = q at *
    generalize s % 1048576 = r at *
    rw [← hv]
    have : a.getD i 0 + b.getD i 0 = 1048576 * q + r - c := by omega
    generalize a.getD i 0 = x at *
    generalize b.getD i 0 = y at *
    have hx : x = 1048576 * q + r - c - y := by omega
    subst hx
    grind
  · rcases hgo with g | g | g
    · left; omega
    · right; left; omega
    · right; right
      have hv := h.val
      have h3 := dv_nonneg h.ok
      have h4 := dv_nonneg (ha.drop i)
      have h5 := dv_nonneg (hb.drop i)
      have hc : c = 1 := by omega
      subst hc
      have h6 : 0 ≤ B ^ i * (dv (a.drop i) + dv (b.drop i)) := Int.mul_nonneg (by have := bp i; omega) (by omega)
      simp only [Nat.add_sub_cancel]
      omega
  · have hst := h.stop
    rcases hgo with g | g | g
    · left; omega
    · right; omega
    · by_cases g1 : i < a.length + 1
      · left; omega
      · by_cases g2 : i < b.length + 1
        · right; omega
        · exfalso
          have hv := h.val
          rw [List.drop_eq_nil_of_le (by omega), List.drop_eq_nil_of_le (by omega)] at hv
          simp only [dv] at hv
          have h3 := dv_nonneg h.ok
          have h4 := dv_lt ha
          have h5 := dv_lt hb
          have hc : c = 1 := by omega
          subst hc
          have g3 := bm (show a.length ≤ i - 1 by omega)
          have g4 := bm (show b.length ≤ i - 1 by omega)
          have g5 := bs (i - 1)
          rw [show i - 1 + 1 = i by omega] at g5
          have g6 := bp (i - 1)
          omega

/-- At the end. -/
theorem AddI.done {a b : List Int} {i : Nat} {d : List Int} (h : AddI a b i d 0) (ha : Dok a) (hb : Dok b) (ta : Tr a) (tb : Tr b) (h1 : a.length ≤ i) (h2 : b.length ≤ i) : dv d = dv a + dv b ∧ Tr d := by
  have hv := h.val
  rw [List.drop_eq_nil_of_le h1, List.drop_eq_nil_of_le h2] at hv
  simp only [dv] at hv
  have hd : dv d = dv a + dv b := by omega
  refine ⟨hd, tr_of h.ok fun hn => ?_⟩
  have hl := h.len
  have hpos : 0 < d.length := List.length_pos_iff.2 hn
  have n1 := dv_nonneg ha
  have n2 := dv_nonneg hb
  rw [hd]
  rcases h.top with h3 | h3 | h3
  · have e : d.length = a.length := by omega
    have := dv_ge ha ta (by intro e2; rw [e2] at e; simp at e; exact hn e)
    rw [e]; omega
  · have e : d.length = b.length := by omega
    have := dv_ge hb tb (by intro e2; rw [e2] at e; simp at e; exact hn e)
    rw [e]; omega
  · rw [hl]; exact h3

/-! ### Differences -/
structure SubI (a b : List Int) (i : Nat) (d : List Int) (c : Int) : Prop where
  len : d.length = i
  ok : Dok d
  c0 : 0 ≤ c
  c1 : c ≤ 1
  val : dv d - B ^ i * c + B ^ i * (dv (a.drop i) - dv (b.drop i)) = dv a - dv b

theorem SubI.start (a b : List Int) : SubI a b 0 [] 0 := ⟨rfl, Dok.nil, by omega, by omega, by simp [dv]⟩

theorem SubI.next {a b : List Int} {i : Nat} {d : List Int} {c s t c' : Int} (h : SubI a b i d c) (ha : Dok a) (hb : Dok b) (hs : s = a.getD i 0 - b.getD i 0 - c) (ht : (s < 0 ∧ t = s + 1048576 ∧ c' = 1) ∨ (0 ≤ s ∧ t = s ∧ c' = 0)) :
    SubI a b (i + 1) (d ++ [t]) c' := by
  have h1 := getD_ok ha i
  have h2 := getD_ok hb i
  have hc0 := h.c0
  have hc1 := h.c1
  have htc : s = t - 1048576 * c' := by omega
  refine ⟨by simp [h.len], h.ok.append (Dok.one (by omega) (by omega)), by omega, by omega, ?_⟩
  have hv := h.val
  rw [dv_drop a i, dv_drop b i] at hv
  rw [dv_append, h.len, bs]
  simp only [dv]
  rw [← hv]
  generalize a.getD i 0 = x at *
  generalize b.getD i 0 = y at *
  have hx : x = t - 1048576 * c' + y + c := by omega
  subst hx
  grind

theorem SubI.done {a b d : List Int} {c : Int} (h : SubI a b a.length d c) (hb : Dok b) (hle : dv b ≤ dv a) : dv d = dv a - dv b := by
  have hv := h.val
  rw [List.drop_length] at hv
  simp only [dv] at hv
  have h1 := dv_lt h.ok
  rw [h.len] at h1
  have h2 := dv_nonneg (hb.drop a.length)
  have h3 := h.c0
  have h4 := bp a.length
  generalize dv (b.drop a.length) = y at *
  have h5 : B ^ a.length * c + B ^ a.length * y ≤ dv d := by
    have : B ^ a.length * (0 - y) = - (B ^ a.length * y) := by grind
    omega
  have h6 : B ^ a.length * (c + y) < B ^ a.length * 1 := by
    have : B ^ a.length * (c + y) = B ^ a.length * c + B ^ a.length * y := by grind
    omega
  have h7 := Int.lt_of_mul_lt_mul_left h6 (by omega)
  have hc : c = 0 := by omega
  have hy : y = 0 := by omega
  subst hc hy
  omega

/-! ### Trimming -/
theorem trim_step {ds : List Int} {n : Nat} (hn : n + 1 ≤ ds.length) (h0 : ds.getD n 0 = 0) (hv : dv (ds.take (n + 1)) = dv ds) : dv (ds.take n) = dv ds := by
  rw [List.take_succ_eq_append_getElem (by omega), dv_append] at hv
  rw [List.getD_eq_getElem?_getD, List.getElem?_eq_getElem (by omega)] at h0
  simp only [Option.getD_some] at h0
  rw [h0] at hv
  simp only [dv] at hv
  omega

theorem trim_tr {ds : List Int} {n : Nat} (hn : n ≤ ds.length) (h : n = 0 ∨ ds.getD (n - 1) 0 ≠ 0) : Tr (ds.take n) := by
  intro hne h0
  rcases h with h | h
  · subst h; simp at hne
  · have hn0 : n ≠ 0 := by rintro rfl; simp at hne
    apply h
    rw [List.getLast_eq_getElem] at h0
    rw [List.getD_eq_getElem?_getD, List.getElem?_eq_getElem (by omega)]
    simp only [Option.getD_some]
    rw [List.getElem_take] at h0
    have e : (List.take n ds).length - 1 = n - 1 := by rw [List.length_take, Nat.min_eq_left hn]
    simp only [e] at h0
    exact h0

/-! ### Which is the greater -/
theorem greater_len {a b : List Int} (ha : Dok a) (hb : Dok b) (ta : Tr a) (h : b.length < a.length) : dv b < dv a := by
  have h1 := dv_lt hb
  have h2 := dv_ge ha ta (by intro e; rw [e] at h; simp at h)
  have h3 := bm (show b.length ≤ a.length - 1 by omega)
  omega

theorem greater_at {a b : List Int} (ha : Dok a) (hb : Dok b) (hl : a.length = b.length) {i : Nat} (hi : i < a.length) (he : dv (a.drop (i + 1)) = dv (b.drop (i + 1))) (h : b.getD i 0 < a.getD i 0) : dv b < dv a := by
  have h1 := dv_split a i (by omega)
  have h2 := dv_split b i (by omega)
  rw [dv_drop a i] at h1
  rw [dv_drop b i, ← he] at h2
  have h3 := dv_lt (hb.take i)
  rw [List.length_take, Nat.min_eq_left (by omega)] at h3
  have h4 := dv_nonneg (ha.take i)
  have h5 := bp i
  generalize a.getD i 0 = x at *
  generalize b.getD i 0 = y at *
  generalize dv (a.drop (i + 1)) = z at *
  have h6 : B ^ i * (y + 1) ≤ B ^ i * x := Int.mul_le_mul_of_nonneg_left (by omega) (by omega)
  have e1 : B ^ i * (x + 1048576 * z) = B ^ i * x + B ^ i * (1048576 * z) := by grind
  have e2 : B ^ i * (y + 1048576 * z) = B ^ i * (y + 1) - B ^ i + B ^ i * (1048576 * z) := by grind
  rw [e1] at h1
  rw [e2] at h2
  omega

/-! ### Products -/
theorem dv_set {d : List Int} {j : Nat} (hj : j < d.length) (x : Int) : dv (d.set j x) = dv d + B ^ j * (x - d.getD j 0) := by
  induction d generalizing j with
  | nil => simp at hj
  | cons y l ih =>
    cases j with
    | zero => simp [dv]; omega
    | succ j =>
      have := ih (j := j) (by simpa using hj)
      simp only [List.set_cons_succ, dv, this, List.getD_cons_succ, bs]
      grind

theorem dok_set {d : List Int} (h : Dok d) (j : Nat) {x : Int} (h0 : 0 ≤ x) (h1 : x < 1048576) : Dok (d.set j x) := by
  intro y hy
  rcases List.mem_or_eq_of_mem_set hy with hy | rfl
  · exact h y hy
  · exact ⟨h0, h1⟩

theorem dv_zeros (n : Nat) : dv (List.replicate n 0) = 0 := by
  induction n with
  | zero => rfl
  | succ n ih => simp [List.replicate_succ, dv, ih]

theorem dok_zeros (n : Nat) : Dok (List.replicate n 0) := fun d hd => by
  rw [List.eq_of_mem_replicate hd]; omega

/-- At digit i of a, digit k of b. -/
structure MulI (a b : List Int) (i k : Nat) (d : List Int) (c : Int) : Prop where
  len : d.length = a.length + b.length + 1
  ok : Dok d
  c0 : 0 ≤ c
  c1 : c < 1048576
  val : dv d + B ^ (i + k) * c = dv (a.take i) * dv b + a.getD i 0 * dv (b.take k) * B ^ i

theorem MulI.start (a b : List Int) : MulI a b 0 0 (List.replicate (a.length + b.length + 1) 0) 0 :=
  ⟨by simp, dok_zeros _, by omega, by omega, by simp [dv, dv_zeros]⟩

/-- While there is something to carry the place is not past the end. -/
theorem MulI.place {a b : List Int} {i k : Nat} {d : List Int} {c : Int} (h : MulI a b i k d c) (ha : Dok a) (hb : Dok b) (hi : i < a.length) (hgo : k < b.length ∨ 0 < c) : k ≤ b.length := by
  rcases hgo with g | g
  · omega
  · by_cases hk : k ≤ b.length
    · exact hk
    · exfalso
      have hv := h.val
      rw [List.take_of_length_le (by omega : b.length ≤ k)] at hv
      have h1 := dv_nonneg h.ok
      have h2 := bp (i + k)
      have h3 : B ^ (i + k) * 1 ≤ B ^ (i + k) * c := Int.mul_le_mul_of_nonneg_left (by omega) (by omega)
      have h4 : dv (a.take (i + 1)) = dv (a.take i) + B ^ i * a.getD i 0 := by
        rw [List.take_succ_eq_append_getElem hi, dv_append, List.length_take, Nat.min_eq_left (by omega), List.getD_eq_getElem?_getD, List.getElem?_eq_getElem hi]
        simp only [dv, Option.getD_some]; grind
      have h5 := dv_lt (ha.take (i + 1))
      rw [List.length_take, Nat.min_eq_left (by omega)] at h5
      have h6 := dv_lt hb
      have h7 := dv_nonneg hb
      have h8 := dv_nonneg (ha.take (i + 1))
      have h9 : dv (a.take (i + 1)) * dv b ≤ dv (a.take (i + 1)) * B ^ b.length := Int.mul_le_mul_of_nonneg_left (by omega) h8
      have h10 : dv (a.take (i + 1)) * B ^ b.length < B ^ (i + 1) * B ^ b.length := Int.mul_lt_mul_of_pos_right h5 (bp _)
      rw [← ba] at h10
      have h11 := bm (show i + 1 + b.length ≤ i + k by omega)
      have e : dv (a.take (i + 1)) * dv b = dv (a.take i) * dv b + a.getD i 0 * dv b * B ^ i := by rw [h4]; grind
      omega

theorem MulI.next {a b : List Int} {i k : Nat} {d : List Int} {c s : Int} (h : MulI a b i k d c) (ha : Dok a) (hb : Dok b) (hi : i < a.length) (hk : k ≤ b.length) (hs : s = d.getD (i + k) 0 + a.getD i 0 * b.getD k 0 + c) :
    MulI a b i (k + 1) (d.set (i + k) (s % 1048576)) (s / 1048576) ∧ 0 ≤ s ∧ s < 1099511627776 := by
  have h1 := getD_ok ha i
  have h2 := getD_ok hb k
  have h3 := getD_ok h.ok (i + k)
  have hc0 := h.c0
  have hc1 := h.c1
  have hp : a.getD i 0 * b.getD k 0 ≤ 1048575 * 1048575 := Int.mul_le_mul (by omega) (by omega) (by omega) (by omega)
  have hp0 : 0 ≤ a.getD i 0 * b.getD k 0 := Int.mul_nonneg (by omega) (by omega)
  have hsb : 0 ≤ s ∧ s < 1099511627776 := by omega
  refine ⟨⟨by simp [h.len], dok_set h.ok _ (by omega) (by omega), by omega, by omega, ?_⟩, hsb.1, hsb.2⟩
  have hv := h.val
  have hlen := h.len
  rw [dv_set (by omega)]
  have ht : dv (b.take (k + 1)) = dv (b.take k) + B ^ k * b.getD k 0 := by
    by_cases hkb : k < b.length
    · rw [List.take_succ_eq_append_getElem hkb, dv_append, List.length_take, Nat.min_eq_left (by omega), List.getD_eq_getElem?_getD, List.getElem?_eq_getElem hkb]
      simp only [dv, Option.getD_some]; grind
    · rw [List.take_of_length_le (by omega), List.take_of_length_le (by omega), List.getD_eq_getElem?_getD, List.getElem?_eq_none (by omega)]
      simp
  rw [ht, ← Nat.add_assoc, bs]
  have hsd : s = 1048576 * (s / 1048576) + s % 1048576 := by omega
  generalize s / 1048576 = q at *
  generalize s % 1048576 = r at *
  generalize d.getD (i + k) 0 = y at *
  generalize a.getD i 0 = x at *
  generalize b.getD k 0 = z at *
  have hik := ba i k
  have hy : y = 1048576 * q + r - x * z - c := by omega
  subst hy
  have hdv : dv d = dv (a.take i) * dv b + x * dv (b.take k) * B ^ i - B ^ (i + k) * c := by omega
  rw [hdv]
  rw [hik]
  grind

theorem MulI.outer {a b : List Int} {i k : Nat} {d : List Int} (h : MulI a b i k d 0) (hi : i < a.length) (hk : b.length ≤ k) : MulI a b (i + 1) 0 d 0 := by
  refine ⟨h.len, h.ok, by omega, by omega, ?_⟩
  have hv := h.val
  rw [List.take_of_length_le hk] at hv
  have h4 : dv (a.take (i + 1)) = dv (a.take i) + B ^ i * a.getD i 0 := by
    rw [List.take_succ_eq_append_getElem hi, dv_append, List.length_take, Nat.min_eq_left (by omega), List.getD_eq_getElem?_getD, List.getElem?_eq_getElem hi]
    simp only [dv, Option.getD_some]; grind
  rw [h4]
  simp only [List.take_zero, dv]
  grind

theorem MulI.done {a b : List Int} {k : Nat} {d : List Int} (h : MulI a b a.length k d 0) : dv d = dv a * dv b := by
  have hv := h.val
  rw [List.take_length, List.getD_eq_getElem?_getD, List.getElem?_eq_none (by omega)] at hv
  simp at hv
  exact hv

end Go.Proofs.Ytgeoffpcmkofkaa.Dg
