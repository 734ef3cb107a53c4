/- Within a ring of corners: just left of all its sides. (Pure.) -/
import Derived.Test.YtgeoffpcmkofkaaHk
import Derived.Test.YtgeoffpcmkofkaaYm
namespace Go.Proofs.Ytgeoffpcmkofkaa
open Go Go.RowKit Fl

/-- Odd or even. -/
def xorTo (f : Nat → Bool) : Nat → Bool
  | 0 => false
  | k + 1 => xorTo f k ^^ f k
theorem xorTo_none {f : Nat → Bool} : ∀ {k : Nat}, (∀ i, i < k → f i = false) → xorTo f k = false
  | 0, _ => rfl
  | k + 1, h => by rw [xorTo, xorTo_none fun i hi => h i (by omega), h k (by omega)]; rfl
theorem xorTo_one {f : Nat → Bool} {m : Nat} : ∀ {k : Nat}, m < k → (∀ i, i < k → f i = true → i = m) → xorTo f k = f m
  | 0, h, _ => by omega
  | k + 1, hm, h => by
    unfold xorTo
    by_cases e : m = k
    · subst e
      rw [xorTo_none fun i hi => ?_]
      · simp
      · rw [Bool.eq_false_iff]
        intro hf
        have := h i (by omega) hf
        omega
    · have hk : f k = false := by
        rw [Bool.eq_false_iff]
        intro hf
        exact e (h k (by omega) hf).symm
      rw [hk, xorTo_one (by omega) fun i hi => h i (by omega)]
      simp
theorem xorTo_xor {f g : Nat → Bool} : ∀ k, xorTo (fun i => f i ^^ g i) k = (xorTo f k ^^ xorTo g k)
  | 0 => rfl
  | k + 1 => by
    simp only [xorTo, xorTo_xor k]
    cases xorTo f k <;> cases xorTo g k <;> cases f k <;> cases g k <;> rfl
/-- Somewhere round about it goes up. -/
theorem cyc_up {n : Nat} {s : Nat → Bool} {i j : Nat} (hi : i < n) (hj : j < n) (h1 : s i = false) (h2 : s j = true) : ∃ m, m < n ∧ s m = false ∧ s ((m + 1) % n) = true := by
  apply Classical.byContradiction
  intro hn
  have all : ∀ d, s ((i + d) % n) = false := by
    intro d
    induction d with
    | zero => rw [Nat.add_zero, Nat.mod_eq_of_lt hi]; exact h1
    | succ d ih =>
      rw [Bool.eq_false_iff]
      intro ht
      exact hn ⟨(i + d) % n, Nat.mod_lt _ (by omega), ih, by rw [Nat.mod_add_mod]; exact ht⟩
  have := all (j + n - i)
  rw [show i + (j + n - i) = j + n by omega, Nat.add_mod_right, Nat.mod_eq_of_lt hj, h2] at this
  exact absurd this (by simp)
theorem cyc_down {n : Nat} {s : Nat → Bool} {i j : Nat} (hi : i < n) (hj : j < n) (h1 : s i = false) (h2 : s j = true) : ∃ m, m < n ∧ s m = true ∧ s ((m + 1) % n) = false := by
  obtain ⟨m, h, a, b⟩ := cyc_up (s := fun k => !s k) hj hi (by simp [h2]) (by simp [h1])
  exact ⟨m, h, by simpa using a, by simpa using b⟩

theorem D_mix {W w1 w2 w3 w4 : Int} {q a b c d : Pt} (hW : W = w1 + w2 + w3 + w4) (hx : W * q.1 = w1 * a.1 + w2 * b.1 + w3 * c.1 + w4 * d.1) (hy : W * q.2 = w1 * a.2 + w2 * b.2 + w3 * c.2 + w4 * d.2) (u v : Pt) : W * D u v q = w1 * D u v a + w2 * D u v b + w3 * D u v c + w4 * D u v d := by
  simp only [D, det]
  have e : W * ((v.1 - u.1) * (q.2 - u.2) - (v.2 - u.2) * (q.1 - u.1)) = (v.1 - u.1) * (W * q.2 - W * u.2) - (v.2 - u.2) * (W * q.1 - W * u.1) := by grind
  rw [e, hx, hy, hW]
  grind
/-- Between the side that goes up and the one that goes down, at its height. -/
theorem chord {a b c d q u v : Pt} (h1 : a.2 ≤ q.2) (h2 : q.2 < b.2) (h3 : d.2 ≤ q.2) (h4 : q.2 < c.2) (s : 0 < D a b q) (t : 0 ≤ D c d q) (ha : 0 ≤ D u v a) (hb : 0 ≤ D u v b) (hc : 0 ≤ D u v c) (hd : 0 ≤ D u v d) : 0 ≤ D u v q := by
  have ey := D_mix (q := q) (a := a) (b := b) (c := c) (d := d) (W := D c d q * (b.2 - a.2) + D a b q * (c.2 - d.2)) (w1 := D c d q * (b.2 - q.2)) (w2 := D c d q * (q.2 - a.2)) (w3 := D a b q * (q.2 - d.2)) (w4 := D a b q * (c.2 - q.2)) (by grind) (by simp only [D, det]; grind) (by grind) u v
  have p1 := Int.mul_nonneg (Int.mul_nonneg t (show 0 ≤ b.2 - q.2 by omega)) ha
  have p2 := Int.mul_nonneg (Int.mul_nonneg t (show 0 ≤ q.2 - a.2 by omega)) hb
  have p3 := Int.mul_nonneg (Int.mul_nonneg (Int.le_of_lt s) (show 0 ≤ q.2 - d.2 by omega)) hc
  have p4 := Int.mul_nonneg (Int.mul_nonneg (Int.le_of_lt s) (show 0 ≤ c.2 - q.2 by omega)) hd
  have w1 := Int.mul_nonneg t (show 0 ≤ b.2 - a.2 by omega)
  have w2 := Int.mul_pos s (show 0 < c.2 - d.2 by omega)
  refine pos_of (b := D c d q * (b.2 - a.2) + D a b q * (c.2 - d.2)) ?_ (by omega)
  rw [Int.mul_comm]
  omega
theorem chord' {a b c d q : Pt} (h1 : a.2 ≤ q.2) (h2 : q.2 < b.2) (h3 : d.2 ≤ q.2) (h4 : q.2 < c.2) (s : D a b q ≤ 0) (t : D c d q < 0) (hc : 0 ≤ D a b c) (hd : 0 ≤ D a b d) : False := by
  have e : (q.2 - d.2) * D a b c + (c.2 - q.2) * D a b d = (c.2 - d.2) * D a b q + (b.2 - a.2) * D c d q := by simp only [D, det]; grind
  have p1 := Int.mul_nonneg (show 0 ≤ q.2 - d.2 by omega) hc
  have p2 := Int.mul_nonneg (show 0 ≤ c.2 - q.2 by omega) hd
  have p3 := Int.mul_nonpos_of_nonneg_of_nonpos (show 0 ≤ c.2 - d.2 by omega) s
  have p4 := Int.mul_neg_of_pos_of_neg (show 0 < b.2 - a.2 by omega) t
  omega
/-- Two sides cannot both go up. -/
theorem two_up {a b c d : Pt} {h : Int} (h1 : a.2 ≤ h) (h2 : h < b.2) (h3 : c.2 ≤ h) (h4 : h < d.2) (k1 : 0 < D a b c) (k2 : 0 ≤ D a b d) (k3 : 0 < D c d a) (k4 : 0 ≤ D c d b) : False := by
  have e : ((d.2 - h) * D a b c + (h - c.2) * D a b d) + ((b.2 - h) * D c d a + (h - a.2) * D c d b) = 0 := by simp only [D, det]; grind
  have p1 := Int.mul_pos (show 0 < d.2 - h by omega) k1
  have p2 := Int.mul_nonneg (show 0 ≤ h - c.2 by omega) k2
  have p3 := Int.mul_pos (show 0 < b.2 - h by omega) k3
  have p4 := Int.mul_nonneg (show 0 ≤ h - a.2 by omega) k4
  omega
theorem two_down {a b c d : Pt} {h : Int} (h1 : b.2 ≤ h) (h2 : h < a.2) (h3 : d.2 ≤ h) (h4 : h < c.2) (k1 : 0 ≤ D a b c) (k2 : 0 < D a b d) (k3 : 0 ≤ D c d a) (k4 : 0 < D c d b) : False := by
  have e : ((h - d.2) * D a b c + (c.2 - h) * D a b d) + ((h - b.2) * D c d a + (a.2 - h) * D c d b) = 0 := by simp only [D, det]; grind
  have p1 := Int.mul_nonneg (show 0 ≤ h - d.2 by omega) k1
  have p2 := Int.mul_pos (show 0 < c.2 - h by omega) k2
  have p3 := Int.mul_nonneg (show 0 ≤ h - b.2 by omega) k3
  have p4 := Int.mul_pos (show 0 < a.2 - h by omega) k4
  omega
/-- On the line of a side that goes up past its height: on the side. -/
theorem on_up {u v q : Pt} (h1 : u.2 ≤ q.2) (h2 : q.2 < v.2) (h : D u v q = 0) : onP u v q := by
  refine Mix.on ⟨v.2 - q.2, q.2 - u.2, by omega, by omega, by omega, ?_, by grind⟩
  simp only [D, det] at h
  grind

theorem max_at (f : Nat → Int) : ∀ n, 0 < n → ∃ m, m < n ∧ ∀ i, i < n → f i ≤ f m
  | 0, h => by omega
  | 1, _ => ⟨0, by omega, fun i hi => by rw [show i = 0 by omega]; exact Int.le_refl _⟩
  | n + 2, _ => by
    obtain ⟨m, h1, h2⟩ := max_at f (n + 1) (by omega)
    rcases Int.le_total (f (n + 1)) (f m) with h | h
    · refine ⟨m, by omega, fun i hi => ?_⟩
      by_cases e : i = n + 1
      · rw [e]; exact h
      · exact h2 i (by omega)
    · refine ⟨n + 1, by omega, fun i hi => ?_⟩
      by_cases e : i = n + 1
      · rw [e]; exact Int.le_refl _
      · have := h2 i (by omega)
        omega
theorem passB_eq (u v q : Pt) : passB u v q = ((decide (u.2 ≤ q.2) && decide (q.2 < v.2) && decide (0 < D u v q)) ^^ (decide (v.2 ≤ q.2) && decide (q.2 < u.2) && decide (D u v q < 0))) := by
  have hs := D_swap u v q
  unfold passB lowP highP
  by_cases h : v.2 < u.2
  · rw [if_pos h, if_pos h]
    have h1 : (decide (u.2 ≤ q.2) && decide (q.2 < v.2)) = false := by
      rw [Bool.eq_false_iff]
      intro hh
      simp at hh
      omega
    have h2 : decide (0 < sgn (D v u q)) = decide (D u v q < 0) := by
      apply decide_eq_decide.2
      rw [sgn_pos]
      omega
    rw [h1, h2]
    simp
  · rw [if_neg h, if_neg h]
    have h1 : (decide (v.2 ≤ q.2) && decide (q.2 < u.2)) = false := by
      rw [Bool.eq_false_iff]
      intro hh
      simp at hh
      omega
    have h2 : decide (0 < sgn (D u v q)) = decide (0 < D u v q) := by
      apply decide_eq_decide.2
      rw [sgn_pos]
    rw [h1, h2]
    simp
theorem oddK_xor (R : Pts) (q : Pt) : ∀ k, oddK R q k = xorTo (edgePass R q) k
  | 0 => rfl
  | k + 1 => by
    have ih := oddK_xor R q k
    simp only [oddK, xorTo, ih]
    cases edgePass R q k <;> cases xorTo (edgePass R q) k <;> rfl
theorem anyOn_iff (R : Pts) (q : Pt) : ∀ k, anyOn R q k = true ↔ ∃ i, i < k ∧ edgeOn R q i = true
  | 0 => by simp [anyOn]
  | k + 1 => by
    have ih := anyOn_iff R q k
    simp only [anyOn, Bool.or_eq_true, ih]
    constructor
    · rintro (⟨i, h1, h2⟩ | h)
      · exact ⟨i, by omega, h2⟩
      · exact ⟨k, by omega, h⟩
    · rintro ⟨i, h1, h2⟩
      by_cases e : i = k
      · subst e; exact .inr h2
      · exact .inl ⟨i, by omega, h2⟩
theorem within_iff (R : Pts) (q : Pt) : 0 ≤ withinN R q ↔ anyOn R q R.length = true ∨ oddK R q R.length = true := by
  unfold withinN
  cases anyOn R q R.length <;> cases oddK R q R.length <;> simp

theorem RingOK.has {l R : Pts} (h : RingOK l R) {i : Nat} (hi : i < R.length) : R[i]? = some (ptAt R i) := by
  have _ := h.len
  rw [ptAt_eq hi]; exact List.getElem?_eq_getElem hi
theorem RingOK.mem {l R : Pts} (h : RingOK l R) {i : Nat} (hi : i < R.length) : ptAt R i ∈ R := List.mem_of_getElem? (h.has hi)
theorem RingOK.nx {l R : Pts} (h : RingOK l R) (i : Nat) : (i + 1) % R.length < R.length := Nat.mod_lt _ (by have := h.len; omega)
theorem RingOK.to {l R : Pts} (h : RingOK l R) {i : Nat} (hi : i < R.length) : Towards D K (· ∈ l) (ptAt R i) (ptAt R ((i + 1) % R.length)) := h.tow i _ _ (h.has hi) (h.has (h.nx i))
theorem RingOK.side {l R : Pts} (h : RingOK l R) {i m : Nat} (hi : i < R.length) (hm : m < R.length) : 0 ≤ D (ptAt R i) (ptAt R ((i + 1) % R.length)) (ptAt R m) := (h.to hi).left _ (h.sub _ (h.mem hm))
theorem RingOK.kne {l R : Pts} (hc : ∀ x ∈ l, CdP x) (h : RingOK l R) {i j : Nat} (hi : i < R.length) (hj : j < R.length) (hij : i ≠ j) : K (ptAt R i) ≠ K (ptAt R j) := fun e => by
  have e' := K_inj (hc _ (h.sub _ (h.mem hi))) (hc _ (h.sub _ (h.mem hj))) e
  exact hij (h.nodup i j _ (h.has hi) (by rw [e']; exact h.has hj))
/-- No three corners lie in a line. -/
theorem RingOK.bent {l R : Pts} (hc : ∀ x ∈ l, CdP x) (h : RingOK l R) {i j k : Nat} (hi : i < R.length) (hj : j < R.length) (hk : k < R.length) (hij : i ≠ j) (hik : i ≠ k) (hjk : j ≠ k) : D (ptAt R i) (ptAt R j) (ptAt R k) ≠ 0 := fun e => by
  have k1 := h.kne hc hi hj hij
  have k2 := h.kne hc hi hk hik
  have k3 := h.kne hc hj hk hjk
  have si := h.sub _ (h.mem hi)
  have sj := h.sub _ (h.mem hj)
  have sk := h.sub _ (h.mem hk)
  have ti := h.to hi
  have tj := h.to hj
  have tk := h.to hk
  generalize ptAt R i = a at *
  generalize ptAt R j = b at *
  generalize ptAt R k = c at *
  have r1 := D_rot a b c
  have r2 := D_rot b c a
  have s1 := D_swap a b c
  have s2 := D_swap b c a
  have s3 := D_swap c a b
  by_cases h1 : K a < K b
  · by_cases h2 : K b < K c
    · exact no_between plDK affDK tj si sk h1 h2 (by omega)
    · by_cases h3 : K a < K c
      · exact no_between plDK affDK tk si sj h3 (by omega) (by omega)
      · exact no_between plDK affDK ti sk sj (by omega) h1 (by omega)
  · by_cases h2 : K a < K c
    · exact no_between plDK affDK ti sj sk (by omega) h2 (by omega)
    · by_cases h3 : K b < K c
      · exact no_between plDK affDK tk sj si h3 (by omega) (by omega)
      · exact no_between plDK affDK tj sk si (by omega) (by omega) (by omega)
theorem RingOK.strict {l R : Pts} (hc : ∀ x ∈ l, CdP x) (h : RingOK l R) {i m : Nat} (hi : i < R.length) (hm : m < R.length) (h1 : m ≠ i) (h2 : m ≠ (i + 1) % R.length) : 0 < D (ptAt R i) (ptAt R ((i + 1) % R.length)) (ptAt R m) := by
  have a1 := h.side hi hm
  have hne : i ≠ (i + 1) % R.length := fun e => (h.to hi).apart (by rw [← e])
  have a2 := h.bent hc hi (h.nx i) hm hne (fun e => h1 e.symm) (fun e => h2 e.symm)
  omega
theorem RingOK.up_one {l R : Pts} (hc : ∀ x ∈ l, CdP x) (h : RingOK l R) {q : Pt} {i j : Nat} (hi : i < R.length) (hj : j < R.length) (a1 : (ptAt R i).2 ≤ q.2) (a2 : q.2 < (ptAt R ((i + 1) % R.length)).2) (b1 : (ptAt R j).2 ≤ q.2) (b2 : q.2 < (ptAt R ((j + 1) % R.length)).2) : i = j := by
  apply Classical.byContradiction
  intro hne
  refine two_up a1 a2 b1 b2 (h.strict hc hi hj (fun e => hne e.symm) fun e => ?_) (h.side hi (h.nx j)) (h.strict hc hj hi hne fun e => ?_) (h.side hj (h.nx i))
  · rw [← e] at a2; omega
  · rw [← e] at b2; omega
theorem RingOK.nx_inj {l R : Pts} (h : RingOK l R) {i j : Nat} (hi : i < R.length) (hj : j < R.length) (e : (i + 1) % R.length = (j + 1) % R.length) : i = j := by
  have _ := h.len
  have h1 : ∀ k, k < R.length → (k + 1) % R.length = if k + 1 = R.length then 0 else k + 1 := fun k hk => by
    split
    · rename_i h; rw [h, Nat.mod_self]
    · rw [Nat.mod_eq_of_lt (by omega)]
  rw [h1 i hi, h1 j hj] at e
  split at e <;> split at e <;> omega
theorem RingOK.down_one {l R : Pts} (hc : ∀ x ∈ l, CdP x) (h : RingOK l R) {q : Pt} {i j : Nat} (hi : i < R.length) (hj : j < R.length) (a1 : (ptAt R ((i + 1) % R.length)).2 ≤ q.2) (a2 : q.2 < (ptAt R i).2) (b1 : (ptAt R ((j + 1) % R.length)).2 ≤ q.2) (b2 : q.2 < (ptAt R j).2) : i = j := by
  apply Classical.byContradiction
  intro hne
  refine two_down a1 a2 b1 b2 (h.side hi hj) (h.strict hc hi (h.nx j) (fun e => ?_) fun e => hne (h.nx_inj hj hi e).symm) (h.side hj hi) (h.strict hc hj (h.nx i) (fun e => ?_) fun e => hne (h.nx_inj hi hj e))
  · rw [e] at b1; omega
  · rw [e] at a1; omega
theorem RingOK.three {l R : Pts} (h : RingOK l R) (h3 : 3 ≤ R.length) {m : Nat} (hm : m < R.length) : ∃ p, p < R.length ∧ (p + 1) % R.length = m ∧ 0 < D (ptAt R p) (ptAt R m) (ptAt R ((m + 1) % R.length)) := by
  have hp : (m + (R.length - 1)) % R.length < R.length := Nat.mod_lt _ (by omega)
  have e : ((m + (R.length - 1)) % R.length + 1) % R.length = m := by
    rw [Nat.mod_add_mod, show m + (R.length - 1) + 1 = m + R.length by omega, Nat.add_mod_right, Nat.mod_eq_of_lt hm]
  refine ⟨_, hp, e, ?_⟩
  have := h.turns h3 _ _ _ _ (h.has hp) (h.has (h.nx _)) (h.has (Nat.mod_lt ((m + (R.length - 1)) % R.length + 2) (by omega)))
  rw [e, show ((m + (R.length - 1)) % R.length + 2) % R.length = (((m + (R.length - 1)) % R.length + 1) % R.length + 1) % R.length by simp only [Nat.mod_add_mod, Nat.add_assoc], e] at this
  exact this
/-- What lies left of all sides does not lie beyond the farthest corner. -/
theorem RingOK.within_far {l R : Pts} (h : RingOK l R) (h3 : 3 ≤ R.length) {q : Pt} (hq : ∀ i, i < R.length → 0 ≤ D (ptAt R i) (ptAt R ((i + 1) % R.length)) q) {F : Pt → Int} (hF : Pl D F) {m : Nat} (hm : m < R.length) (hmax : ∀ i, i < R.length → F (ptAt R i) ≤ F (ptAt R m)) : F q ≤ F (ptAt R m) := by
  obtain ⟨p, hp, e, ht⟩ := h.three h3 hm
  have q1 := hq p hp
  have q2 := hq m hm
  have f1 := hmax p hp
  have f2 := hmax _ (h.nx m)
  rw [e] at q1
  apply Int.not_lt.1
  intro hlt
  generalize ptAt R p = a at *
  generalize ptAt R m = b at *
  generalize ptAt R ((m + 1) % R.length) = c at *
  have id := hF.pl b c a q
  have r := D_rot a b c
  have s := D_swap a b q
  have p1 := Int.mul_nonneg q1 (show 0 ≤ F b - F c by omega)
  have p2 := Int.mul_nonneg q2 (show 0 ≤ F b - F a by omega)
  have p3 := Int.mul_pos ht (show 0 < F q - F b by omega)
  have e1 : D b a q * (F c - F b) = D a b q * (F b - F c) := by rw [s]; grind
  have e2 : D b c q * (F a - F b) - D b c a * (F q - F b) = -(D b c q * (F b - F a)) - D a b c * (F q - F b) := by rw [r]; grind
  omega
theorem RingOK.within_in {l R : Pts} (hc : ∀ x ∈ l, CdP x) (h : RingOK l R) (h3 : 3 ≤ R.length) {q : Pt} (hcq : CdP q) (hq : ∀ i, i < R.length → 0 ≤ D (ptAt R i) (ptAt R ((i + 1) % R.length)) q) : anyOn R q R.length = true ∨ oddK R q R.length = true := by
  by_cases hon : anyOn R q R.length = true
  · exact .inl hon
  right
  have off : ∀ i, i < R.length → ¬onP (ptAt R i) (ptAt R ((i + 1) % R.length)) q := fun i hi ho => hon ((anyOn_iff R q _).2 ⟨i, hi, by unfold edgeOn onB; exact decide_eq_true ho⟩)
  -- some corner is not above q
  obtain ⟨a, ha, hay⟩ : ∃ a, a < R.length ∧ (ptAt R a).2 ≤ q.2 := by
    obtain ⟨m, hm, hmax⟩ := max_at (fun i => -(ptAt R i).2) R.length (by omega)
    have := h.within_far h3 hq (F := fun p => -p.2) ⟨plDK.rot, plDK.swp, fun s t p x => by simp only [D, det]; grind⟩ hm hmax
    exact ⟨m, hm, by omega⟩
  -- some corner is above q
  obtain ⟨b, hb, hby⟩ : ∃ b, b < R.length ∧ q.2 < (ptAt R b).2 := by
    apply Classical.byContradiction
    intro hn
    have low : ∀ i, i < R.length → (ptAt R i).2 ≤ q.2 := fun i hi => Int.not_lt.1 fun hlt => hn ⟨i, hi, hlt⟩
    obtain ⟨m, hm, hmax⟩ := max_at (fun i => K ((ptAt R i).2, (ptAt R i).1)) R.length (by omega)
    have far := h.within_far h3 hq (F := fun p => K (p.2, p.1)) ⟨plDK.rot, plDK.swp, fun s t p x => by simp only [D, det, K]; grind⟩ hm hmax
    have cm := hc _ (h.sub _ (h.mem hm))
    rw [K_le (p := (q.2, q.1)) (q := ((ptAt R m).2, (ptAt R m).1)) ⟨hcq.2, hcq.1⟩ ⟨cm.2, cm.1⟩] at far
    simp only at far
    have lm := low m hm
    have lb := low _ (h.nx m)
    have q2 := hq m hm
    have ofm := off m hm
    have q3 := hq _ (h.nx m)
    have lc := low _ (h.nx ((m + 1) % R.length))
    have tn := h.turns h3 m _ _ _ (h.has hm) (h.has (h.nx m)) (h.has (Nat.mod_lt (m + 2) (by omega)))
    rw [show (m + 2) % R.length = ((m + 1) % R.length + 1) % R.length by rw [Nat.mod_add_mod]] at tn
    generalize ptAt R (((m + 1) % R.length + 1) % R.length) = c at *
    generalize ptAt R ((m + 1) % R.length) = b at *
    generalize ptAt R m = a at *
    have hy : q.2 = a.2 := by omega
    have hx : q.1 ≤ a.1 := by omega
    by_cases hxe : q.1 = a.1
    · exact ofm (Mix.on ⟨1, 0, by omega, by omega, by omega, by omega, by omega⟩)
    · simp only [D, det] at q2 q3 tn
      rw [hy] at q2 q3 lb lc
      have hb2 : b.2 = a.2 := by
        apply Classical.byContradiction
        intro hne
        have := Int.mul_pos (show 0 < a.2 - b.2 by omega) (show 0 < a.1 - q.1 by omega)
        have e : (b.1 - a.1) * (a.2 - a.2) - (b.2 - a.2) * (q.1 - a.1) = -((a.2 - b.2) * (a.1 - q.1)) := by grind
        omega
      rw [hb2] at q3 tn
      have e1 : (b.1 - a.1) * (c.2 - a.2) - (a.2 - a.2) * (c.1 - a.1) = (a.1 - b.1) * (a.2 - c.2) := by grind
      have e2 : (c.1 - b.1) * (a.2 - a.2) - (c.2 - a.2) * (q.1 - b.1) = (q.1 - b.1) * (a.2 - c.2) := by grind
      rw [e1] at tn
      rw [e2] at q3
      have hcy : 0 < a.2 - c.2 := by
        apply Classical.byContradiction
        intro hn
        have : a.2 - c.2 = 0 := by omega
        rw [this] at tn
        omega
      have hbx : 0 ≤ q.1 - b.1 := pos_of q3 hcy
      refine ofm ⟨.inr ⟨by omega, hx⟩, .inl ⟨by omega, by omega⟩, ?_⟩
      simp only [D, det]
      rw [hy, hb2]
      grind
  obtain ⟨m, hm, s1, s2⟩ := cyc_up (s := fun i => decide (q.2 < (ptAt R i).2)) ha hb (by simpa using hay) (by simpa using hby)
  have s1' : (ptAt R m).2 ≤ q.2 := by simpa using s1
  have s2' : q.2 < (ptAt R ((m + 1) % R.length)).2 := by simpa using s2
  have pass : ∀ i, i < R.length → edgePass R q i = (decide ((ptAt R i).2 ≤ q.2) && decide (q.2 < (ptAt R ((i + 1) % R.length)).2)) := fun i hi => by
    unfold edgePass
    rw [passB_eq]
    have q1 := hq i hi
    rw [decide_eq_false (show ¬D (ptAt R i) (ptAt R ((i + 1) % R.length)) q < 0 by omega)]
    by_cases hup : (ptAt R i).2 ≤ q.2 ∧ q.2 < (ptAt R ((i + 1) % R.length)).2
    · have : 0 < D (ptAt R i) (ptAt R ((i + 1) % R.length)) q := by
        apply Classical.byContradiction
        intro hn
        exact off i hi (on_up hup.1 hup.2 (by omega))
      rw [decide_eq_true this]
      simp
    · have : (decide ((ptAt R i).2 ≤ q.2) && decide (q.2 < (ptAt R ((i + 1) % R.length)).2)) = false := by
        rw [Bool.eq_false_iff]
        intro hh
        exact hup (by simpa using hh)
      rw [this]
      simp
  rw [oddK_xor, xorTo_one hm fun i hi ht => ?_]
  · rw [pass m hm]
    simp [s1', s2']
  · rw [pass i hi] at ht
    simp at ht
    exact h.up_one hc hi hm ht.1 ht.2 s1' s2'
theorem RingOK.within_out {l R : Pts} (hc : ∀ x ∈ l, CdP x) (h : RingOK l R) {q : Pt} {k : Nat} (hk : k < R.length) (hq : D (ptAt R k) (ptAt R ((k + 1) % R.length)) q < 0) : ¬(anyOn R q R.length = true ∨ oddK R q R.length = true) := by
  rintro (ho | ho)
  · obtain ⟨i, hi, e⟩ := (anyOn_iff R q _).1 ho
    unfold edgeOn onB at e
    obtain ⟨x, y, h1, h2, h3, h4⟩ := (of_decide_eq_true e : onP _ _ _).mix.lin
    have e4 := h4 (ptAt R k) (ptAt R ((k + 1) % R.length))
    have p1 := Int.mul_nonneg h1 (h.side hk hi)
    have p2 := Int.mul_nonneg h2 (h.side hk (h.nx i))
    have p3 := Int.mul_neg_of_pos_of_neg h3 hq
    omega
  · rw [oddK_xor, show edgePass R q = fun i => (decide ((ptAt R i).2 ≤ q.2) && decide (q.2 < (ptAt R ((i + 1) % R.length)).2) && decide (0 < D (ptAt R i) (ptAt R ((i + 1) % R.length)) q)) ^^ (decide ((ptAt R ((i + 1) % R.length)).2 ≤ q.2) && decide (q.2 < (ptAt R i).2) && decide (D (ptAt R i) (ptAt R ((i + 1) % R.length)) q < 0)) from by funext i; exact passB_eq _ _ _, xorTo_xor] at ho
    by_cases hex : ∃ a b, a < R.length ∧ b < R.length ∧ (ptAt R a).2 ≤ q.2 ∧ q.2 < (ptAt R b).2
    · obtain ⟨a, b, ha, hb, hay, hby⟩ := hex
      obtain ⟨m, hm, s1, s2⟩ := cyc_up (s := fun i => decide (q.2 < (ptAt R i).2)) ha hb (by simpa using hay) (by simpa using hby)
      obtain ⟨d, hd, t1, t2⟩ := cyc_down (s := fun i => decide (q.2 < (ptAt R i).2)) ha hb (by simpa using hay) (by simpa using hby)
      have s1' : (ptAt R m).2 ≤ q.2 := by simpa using s1
      have s2' : q.2 < (ptAt R ((m + 1) % R.length)).2 := by simpa using s2
      have t1' : q.2 < (ptAt R d).2 := by simpa using t1
      have t2' : (ptAt R ((d + 1) % R.length)).2 ≤ q.2 := by simpa using t2
      rw [xorTo_one hm fun i hi ht => by
          simp only [Bool.and_eq_true, decide_eq_true_eq] at ht
          exact h.up_one hc hi hm ht.1.1 ht.1.2 s1' s2',
        xorTo_one hd fun i hi ht => by
          simp only [Bool.and_eq_true, decide_eq_true_eq] at ht
          exact h.down_one hc hi hd ht.1.1 ht.1.2 t2' t1'] at ho
      simp only [decide_eq_true s1', decide_eq_true s2', decide_eq_true t1', decide_eq_true t2', Bool.true_and] at ho
      by_cases u1 : 0 < D (ptAt R m) (ptAt R ((m + 1) % R.length)) q
      · by_cases u2 : D (ptAt R d) (ptAt R ((d + 1) % R.length)) q < 0
        · rw [decide_eq_true u1, decide_eq_true u2] at ho
          exact absurd ho (by simp)
        · have := chord s1' s2' t2' t1' u1 (by omega) (h.side hk hm) (h.side hk (h.nx m)) (h.side hk hd) (h.side hk (h.nx d))
          omega
      · by_cases u2 : D (ptAt R d) (ptAt R ((d + 1) % R.length)) q < 0
        · exact chord' s1' s2' t2' t1' (by omega) u2 (h.side hm hd) (h.side hm (h.nx d))
        · rw [decide_eq_false u1, decide_eq_false u2] at ho
          exact absurd ho (by simp)
    · rw [xorTo_none fun i hi => ?_, xorTo_none fun i hi => ?_] at ho
      · exact absurd ho (by simp)
      · rw [Bool.eq_false_iff]
        intro ht
        simp only [Bool.and_eq_true, decide_eq_true_eq] at ht
        exact hex ⟨_, i, h.nx i, hi, ht.1.1, ht.1.2⟩
      · rw [Bool.eq_false_iff]
        intro ht
        simp only [Bool.and_eq_true, decide_eq_true_eq] at ht
        exact hex ⟨i, _, hi, h.nx i, ht.1.1, ht.1.2⟩
/-- Within the ring, or on it: just left of all its sides. -/
theorem RingOK.within {l R : Pts} (hc : ∀ x ∈ l, CdP x) (h : RingOK l R) (h3 : 3 ≤ R.length) {q : Pt} (hcq : CdP q) : 0 ≤ withinN R q ↔ ∀ i, i < R.length → 0 ≤ D (ptAt R i) (ptAt R ((i + 1) % R.length)) q := by
  rw [within_iff]
  constructor
  · intro hw i hi
    apply Int.not_lt.1
    intro hlt
    exact h.within_out hc hi hlt hw
  · exact fun hq => h.within_in hc h3 hcq hq
/-- All points lie within the ring or on it. -/
theorem RingOK.within_all {l R : Pts} (hc : ∀ x ∈ l, CdP x) (h : RingOK l R) {x : Pt} (hx : x ∈ l) : 0 ≤ withinN R x := by
  have left : ∀ i, i < R.length → 0 ≤ D (ptAt R i) (ptAt R ((i + 1) % R.length)) x := fun i hi => (h.to hi).left x hx
  by_cases h3 : 3 ≤ R.length
  · exact (h.within hc h3 (hc x hx)).2 left
  · have e2 : R.length = 2 := by have := h.len; omega
    rw [within_iff, anyOn_iff]
    refine .inl ⟨0, by omega, ?_⟩
    have d0 := left 0 (by omega)
    have d1 := left 1 (by omega)
    have t0 := h.to (i := 0) (by omega)
    have t1 := h.to (i := 1) (by omega)
    have f0 := h.first _ (h.has (i := 0) (by omega)) x hx
    have c0 := hc _ (h.sub _ (h.mem (i := 0) (by omega)))
    have c1 := hc _ (h.sub _ (h.mem (i := 1) (by omega)))
    have f1 := h.first _ (h.has (i := 0) (by omega)) _ (h.sub _ (h.mem (i := 1) (by omega)))
    unfold edgeOn onB
    rw [e2] at *
    simp only [Nat.zero_add, show (1 + 1) % 2 = 0 from rfl, show 1 % 2 = 1 from rfl] at *
    apply decide_eq_true
    generalize ptAt R 0 = a at *
    generalize ptAt R 1 = b at *
    have sw := D_swap a b x
    have hz : D a b x = 0 := by omega
    refine (holds_iff c0 c1 (hc x hx)).2 ⟨.inl ⟨f0, ?_⟩, hz⟩
    have := t1.backward (by have := t0.apart; omega) x hx (by omega)
    omega
end Go.Proofs.Ytgeoffpcmkofkaa
