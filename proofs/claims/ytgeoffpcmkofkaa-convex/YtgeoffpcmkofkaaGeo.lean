/- Points, sides and segments over whole numbers: what two segments have in common, told twice, is the same. -/
import Derived.Test.YtgeoffpcmkofkaaWh
namespace Go.Proofs.Ytgeoffpcmkofkaa
open Fl

abbrev Pt := Int × Int
/-- The determinant of three points. -/
def D (a b c : Pt) : Int := det a.1 a.2 b.1 b.2 c.1 c.2
def CdP (p : Pt) : Prop := Cd p.1 ∧ Cd p.2
/-- The place in the order by X, then Y. -/
def K (p : Pt) : Int := p.1 * 36028797018963968 + p.2
def btw (a b c : Int) : Prop := a ≤ c ∧ c ≤ b ∨ b ≤ c ∧ c ≤ a
def onP (a b p : Pt) : Prop := btw a.1 b.1 p.1 ∧ btw a.2 b.2 p.2 ∧ D a b p = 0

theorem sgn_cases (x : Int) : (x < 0 ∧ sgn x = -1) ∨ (x = 0 ∧ sgn x = 0) ∨ (0 < x ∧ sgn x = 1) := by
  unfold sgn
  rcases Int.lt_trichotomy x 0 with h | h | h
  · exact Or.inl ⟨h, by rw [if_pos h]⟩
  · exact Or.inr (Or.inl ⟨h, by rw [if_neg (by omega), if_pos h]⟩)
  · exact Or.inr (Or.inr ⟨h, by rw [if_neg (by omega), if_neg (by omega)]⟩)
theorem sgn_zero {x : Int} : sgn x = 0 ↔ x = 0 := by rcases sgn_cases x with h | h | h <;> omega
theorem sgn_pos {x : Int} : 0 < sgn x ↔ 0 < x := by rcases sgn_cases x with h | h | h <;> omega
theorem sgn_neg' {x : Int} : sgn x < 0 ↔ x < 0 := by rcases sgn_cases x with h | h | h <;> omega
theorem sgn_mul_pos {x y : Int} : 0 < sgn x * sgn y ↔ (0 < x ∧ 0 < y) ∨ (x < 0 ∧ y < 0) := by
  rcases sgn_cases x with ⟨h, e⟩ | ⟨h, e⟩ | ⟨h, e⟩ <;> rcases sgn_cases y with ⟨k, f⟩ | ⟨k, f⟩ | ⟨k, f⟩ <;> rw [e, f] <;> omega
theorem sgn_mul_neg {x y : Int} : sgn x * sgn y < 0 ↔ (0 < x ∧ y < 0) ∨ (x < 0 ∧ 0 < y) := by
  rcases sgn_cases x with ⟨h, e⟩ | ⟨h, e⟩ | ⟨h, e⟩ <;> rcases sgn_cases y with ⟨k, f⟩ | ⟨k, f⟩ | ⟨k, f⟩ <;> rw [e, f] <;> omega

theorem pt_ext {p q : Pt} (h1 : p.1 = q.1) (h2 : p.2 = q.2) : p = q := Prod.ext h1 h2
theorem K_inj {p q : Pt} (hp : CdP p) (hq : CdP q) (h : K p = K q) : p = q := by
  obtain ⟨⟨a, b⟩, c, d⟩ := hp
  obtain ⟨⟨a', b'⟩, c', d'⟩ := hq
  unfold K at h
  exact pt_ext (by omega) (by omega)
theorem K_le {p q : Pt} (hp : CdP p) (hq : CdP q) : K p ≤ K q ↔ p.1 < q.1 ∨ p.1 = q.1 ∧ p.2 ≤ q.2 := by
  obtain ⟨⟨a, b⟩, c, d⟩ := hp
  obtain ⟨⟨a', b'⟩, c', d'⟩ := hq
  unfold K
  omega

theorem mul_eq_zero' {x y : Int} (h : x * y = 0) (hx : x ≠ 0) : y = 0 := by
  rcases Int.mul_eq_zero.1 h with h | h
  · exact absurd h hx
  · exact h

/-- Three points in the line of two others lie in a line. -/
theorem line3 {a b x y z : Pt} (hab : a ≠ b) (hx : D a b x = 0) (hy : D a b y = 0) (hz : D a b z = 0) : D x y z = 0 := by
  unfold D det at *
  by_cases h1 : b.1 - a.1 = 0
  · have h2 : b.2 - a.2 ≠ 0 := fun h2 => hab (pt_ext (by omega) (by omega))
    apply mul_eq_zero' (x := b.2 - a.2) _ h2
    grind
  · apply mul_eq_zero' (x := b.1 - a.1) _ h1
    grind

/-- A point between two others. -/
def Mix (a b p : Pt) : Prop := ∃ l m : Int, 0 ≤ l ∧ 0 ≤ m ∧ 0 < l + m ∧ (l + m) * p.1 = l * a.1 + m * b.1 ∧ (l + m) * p.2 = l * a.2 + m * b.2

theorem Mix.lin {a b p : Pt} (h : Mix a b p) : ∃ l m : Int, 0 ≤ l ∧ 0 ≤ m ∧ 0 < l + m ∧ ∀ c d : Pt, (l + m) * D c d p = l * D c d a + m * D c d b := by
  obtain ⟨l, m, hl, hm, hs, e1, e2⟩ := h
  refine ⟨l, m, hl, hm, hs, fun c d => ?_⟩
  unfold D det
  grind

theorem Mix.btw1 {l m a b p : Int} (hl : 0 ≤ l) (hm : 0 ≤ m) (hs : 0 < l + m) (e : (l + m) * p = l * a + m * b) : btw a b p := by
  unfold btw
  rcases Int.le_total a b with h | h
  · left
    constructor
    · have : 0 ≤ (l + m) * (p - a) := by
        have e2 : (l + m) * (p - a) = m * (b - a) := by grind
        rw [e2]; exact Int.mul_nonneg hm (by omega)
      have := Int.nonneg_of_mul_nonneg_right this hs
      omega
    · have : 0 ≤ (l + m) * (b - p) := by
        have e2 : (l + m) * (b - p) = l * (b - a) := by grind
        rw [e2]; exact Int.mul_nonneg hl (by omega)
      have := Int.nonneg_of_mul_nonneg_right this hs
      omega
  · right
    constructor
    · have : 0 ≤ (l + m) * (p - b) := by
        have e2 : (l + m) * (p - b) = l * (a - b) := by grind
        rw [e2]; exact Int.mul_nonneg hl (by omega)
      have := Int.nonneg_of_mul_nonneg_right this hs
      omega
    · have : 0 ≤ (l + m) * (a - p) := by
        have e2 : (l + m) * (a - p) = m * (a - b) := by grind
        rw [e2]; exact Int.mul_nonneg hm (by omega)
      have := Int.nonneg_of_mul_nonneg_right this hs
      omega

theorem D_left (a b : Pt) : D a b a = 0 := by unfold D det; grind
theorem D_right (a b : Pt) : D a b b = 0 := by unfold D det; grind
theorem D_same (a p : Pt) : D a a p = 0 := by unfold D det; grind
theorem D_rot (a b c : Pt) : D b c a = D a b c := by unfold D det; grind
theorem D_swap (a b c : Pt) : D b a c = -D a b c := by unfold D det; grind

theorem Mix.on {a b p : Pt} (h : Mix a b p) : onP a b p := by
  have h' := h
  obtain ⟨l, m, hl, hm, hs, e1, e2⟩ := h
  refine ⟨btw1 hl hm hs e1, btw1 hl hm hs e2, ?_⟩
  unfold D det
  apply mul_eq_zero' (x := l + m) _ (by omega)
  grind

theorem onP.mix {a b p : Pt} (h : onP a b p) : Mix a b p := by
  obtain ⟨h1, h2, h3⟩ := h
  unfold D det at h3
  unfold btw at h1 h2
  by_cases e1 : a.1 = b.1
  · by_cases e2 : a.2 = b.2
    · exact ⟨1, 0, by omega, by omega, by omega, by omega, by omega⟩
    · have hp : p.1 = a.1 := by omega
      rcases Int.le_total a.2 b.2 with h | h
      · exact ⟨b.2 - p.2, p.2 - a.2, by omega, by omega, by omega, by rw [hp, ← e1]; grind, by grind⟩
      · exact ⟨p.2 - b.2, a.2 - p.2, by omega, by omega, by omega, by rw [hp, ← e1]; grind, by grind⟩
  · rcases Int.le_total a.1 b.1 with h | h
    · exact ⟨b.1 - p.1, p.1 - a.1, by omega, by omega, by omega, by grind, by grind⟩
    · exact ⟨p.1 - b.1, a.1 - p.1, by omega, by omega, by omega, by grind, by grind⟩

/-- On a segment: as the order tells it. -/
theorem holds_iff {a b p : Pt} (ha : CdP a) (hb : CdP b) (hp : CdP p) : onP a b p ↔ (K a ≤ K p ∧ K p ≤ K b ∨ K b ≤ K p ∧ K p ≤ K a) ∧ D a b p = 0 := by
  rw [K_le ha hp, K_le hp hb, K_le hb hp, K_le hp ha]
  constructor
  · rintro h
    refine ⟨?_, h.2.2⟩
    by_cases e1 : a.1 = b.1
    · have h1 := h.1
      have h2 := h.2.1
      unfold btw at h1 h2
      omega
    · obtain ⟨h1, h2, h3⟩ := h
      unfold D det at h3
      have k1 : p.1 = a.1 → p.2 = a.2 := by
        intro e
        have : (b.1 - a.1) * (p.2 - a.2) = 0 := by rw [e] at h3; grind
        have := mul_eq_zero' this (by omega)
        omega
      have k2 : p.1 = b.1 → p.2 = b.2 := by
        intro e
        have : (b.1 - a.1) * (p.2 - b.2) = 0 := by rw [e] at h3; grind
        have := mul_eq_zero' this (by omega)
        omega
      unfold btw at h1
      omega
  · rintro ⟨h, h3⟩
    by_cases e1 : a.1 = b.1
    · unfold onP btw
      refine ⟨by omega, by omega, h3⟩
    · apply Mix.on
      unfold D det at h3
      rcases Int.le_total a.1 b.1 with h' | h'
      · exact ⟨b.1 - p.1, p.1 - a.1, by omega, by omega, by omega, by grind, by grind⟩
      · exact ⟨p.1 - b.1, a.1 - p.1, by omega, by omega, by omega, by grind, by grind⟩

/-- Two points on the same side: nothing between them lies in the line. -/
theorem apart {a b c d p : Pt} (h : (0 < D a b c ∧ 0 < D a b d) ∨ (D a b c < 0 ∧ D a b d < 0)) (h1 : D a b p = 0) (h2 : onP c d p) : False := by
  obtain ⟨l, m, hl, hm, hs, e⟩ := h2.mix.lin
  have e := e a b
  rw [h1, Int.mul_zero] at e
  rcases h with ⟨p, q⟩ | ⟨p, q⟩
  · rcases (show 0 < l ∨ 0 < m by omega) with k | k
    · have := Int.mul_pos k p; have := Int.mul_nonneg hm (Int.le_of_lt q); omega
    · have := Int.mul_pos k q; have := Int.mul_nonneg hl (Int.le_of_lt p); omega
  · have e' : 0 = l * (- D a b c) + m * (- D a b d) := by grind
    rcases (show 0 < l ∨ 0 < m by omega) with k | k
    · have := Int.mul_pos k (show 0 < - D a b c by omega); have := Int.mul_nonneg hm (show 0 ≤ -D a b d by omega); omega
    · have := Int.mul_pos k (show 0 < - D a b d by omega); have := Int.mul_nonneg hl (show 0 ≤ -D a b c by omega); omega

/-- An end in the other's line, whose ends lie on both sides of it. -/
theorem touch {a b c d : Pt} (h0 : D a b c = 0) (hd : D a b d ≠ 0) (h1 : ¬(0 < D c d a ∧ 0 < D c d b)) (h2 : ¬(D c d a < 0 ∧ D c d b < 0)) : onP a b c := by
  have hne : ¬(D c d a = 0 ∧ D c d b = 0) := by
    rintro ⟨p, q⟩
    by_cases hcd : c = d
    · subst hcd; exact hd h0
    · exact hd (line3 hcd p q (D_right c d))
  apply Mix.on
  have i1 : (D c d a - D c d b) * c.1 = D c d a * b.1 - D c d b * a.1 := by unfold D det at *; grind
  have i2 : (D c d a - D c d b) * c.2 = D c d a * b.2 - D c d b * a.2 := by unfold D det at *; grind
  rcases (show (0 ≤ D c d a ∧ D c d b ≤ 0) ∨ (D c d a ≤ 0 ∧ 0 ≤ D c d b) by omega) with ⟨p, q⟩ | ⟨p, q⟩
  · exact ⟨-D c d b, D c d a, by omega, by omega, by omega, by grind, by grind⟩
  · exact ⟨D c d b, -D c d a, by omega, by omega, by omega, by grind, by grind⟩

instance (a b c : Int) : Decidable (btw a b c) := by unfold btw; infer_instance
instance (a b p : Pt) : Decidable (onP a b p) := by unfold onP; infer_instance
def onB (a b p : Pt) : Bool := decide (onP a b p)

/-- One more point that both segments have. -/
def bothStep (a b c d : Pt) (l : List Pt) (p : Pt) : List Pt := if (onB a b p && onB c d p) && l.all (fun q => !decide (q = p)) then l ++ [p] else l
def both (a b c d : Pt) : List Pt := [a, b, c, d].foldl (bothStep a b c d) []

def meetRef (a b c d : Pt) : Int :=
  if 1 < (both a b c d).length then 3
  else if (both a b c d).length = 1 then 2
  else if sgn (D a b c) * sgn (D a b d) < 0 ∧ sgn (D c d a) * sgn (D c d b) < 0 then 1 else 0

def lineN (a b c d : Pt) : Int :=
  if max (min (K a) (K b)) (min (K c) (K d)) < min (max (K a) (K b)) (max (K c) (K d)) then 3
  else if max (min (K a) (K b)) (min (K c) (K d)) = min (max (K a) (K b)) (max (K c) (K d)) then 2 else 0

def meetN (a b c d : Pt) : Int :=
  if D a b c = 0 ∧ D a b d = 0 ∧ D c d a = 0 ∧ D c d b = 0 then lineN a b c d
  else if 0 < sgn (D a b c) * sgn (D a b d) ∨ 0 < sgn (D c d a) * sgn (D c d b) then 0
  else if sgn (D a b c) * sgn (D a b d) < 0 ∧ sgn (D c d a) * sgn (D c d b) < 0 then 1 else 2

/-- All that lie on both. -/
def OnBoth (a b c d p : Pt) : Prop := onP a b p ∧ onP c d p

theorem bothStep_inv {a b c d : Pt} {l m : List Pt} {p : Pt} (h : ∀ q, q ∈ l ↔ q ∈ m ∧ OnBoth a b c d q) (hn : l.Nodup) :
    (∀ q, q ∈ bothStep a b c d l p ↔ q ∈ m ++ [p] ∧ OnBoth a b c d q) ∧ (bothStep a b c d l p).Nodup := by
  unfold bothStep
  by_cases h1 : onP a b p ∧ onP c d p
  · by_cases h2 : p ∈ l
    · have : l.all (fun q => !decide (q = p)) = false := by
        rw [Bool.eq_false_iff]; intro hh
        have := List.all_eq_true.1 hh p h2
        simp at this
      rw [this]
      simp only [Bool.and_false]
      refine ⟨fun q => ?_, hn⟩
      rw [if_neg (by simp)]
      rw [h, List.mem_append, List.mem_singleton]
      constructor
      · rintro ⟨x, y⟩; exact ⟨Or.inl x, y⟩
      · rintro ⟨x | x, y⟩
        · exact ⟨x, y⟩
        · subst x; exact ⟨((h _).1 h2).1, y⟩
    · have : l.all (fun q => !decide (q = p)) = true := by
        rw [List.all_eq_true]; intro q hq
        simp
        rintro rfl; exact h2 hq
      rw [this]
      have e1 : onB a b p = true := by simp [onB, h1.1]
      have e2 : onB c d p = true := by simp [onB, h1.2]
      simp only [e1, e2, Bool.and_true, if_true]
      refine ⟨fun q => ?_, ?_⟩
      · rw [List.mem_append, List.mem_append, List.mem_singleton, h]
        constructor
        · rintro (⟨x, y⟩ | x)
          · exact ⟨Or.inl x, y⟩
          · subst x; exact ⟨Or.inr rfl, h1⟩
        · rintro ⟨x | x, y⟩
          · exact Or.inl ⟨x, y⟩
          · exact Or.inr x
      · rw [List.nodup_append]
        refine ⟨hn, by simp, ?_⟩
        intro q hq r hr e
        simp at hr
        subst hr e
        exact h2 hq
  · have : (onB a b p && onB c d p) = false := by
      unfold onB
      rw [Bool.and_eq_false_iff, decide_eq_false_iff_not, decide_eq_false_iff_not]
      rcases Classical.em (onP a b p) with x | x
      · exact Or.inr fun y => h1 ⟨x, y⟩
      · exact Or.inl x
    rw [this, Bool.false_and, if_neg (by simp)]
    refine ⟨fun q => ?_, hn⟩
    rw [h, List.mem_append, List.mem_singleton]
    constructor
    · rintro ⟨x, y⟩; exact ⟨Or.inl x, y⟩
    · rintro ⟨x | x, y⟩
      · exact ⟨x, y⟩
      · subst x; exact absurd y h1

theorem both_inv (a b c d : Pt) : (∀ q, q ∈ both a b c d ↔ q ∈ [a, b, c, d] ∧ OnBoth a b c d q) ∧ (both a b c d).Nodup := by
  have h0 : ∀ q, q ∈ ([] : List Pt) ↔ q ∈ ([] : List Pt) ∧ OnBoth a b c d q := by simp
  have h1 := bothStep_inv (p := a) h0 (by simp)
  have h2 := bothStep_inv (p := b) h1.1 h1.2
  have h3 := bothStep_inv (p := c) h2.1 h2.2
  have h4 := bothStep_inv (p := d) h3.1 h3.2
  exact h4

theorem len_two {l : List Pt} {p q : Pt} (hp : p ∈ l) (hq : q ∈ l) (h : p ≠ q) : 1 < l.length := by
  match l, hp, hq with
  | [x], hp, hq => simp at hp hq; exact absurd (hp.trans hq.symm) h
  | x :: y :: l, _, _ => simp
theorem len_one {l : List Pt} {p : Pt} (hn : l.Nodup) (hp : p ∈ l) (h : ∀ q, q ∈ l → q = p) : l.length = 1 := by
  match l, hn, hp, h with
  | [x], _, _, _ => rfl
  | x :: y :: l, hn, _, h =>
    have e1 := h x (by simp)
    have e2 := h y (by simp)
    subst e1 e2
    simp at hn
theorem len_none {l : List Pt} (h : ∀ q, q ∉ l) : l.length = 0 := by
  match l, h with
  | [], _ => rfl
  | x :: l, h => exact absurd (by simp) (h x)

theorem meet_same {a b c d : Pt} (ha : CdP a) (hb : CdP b) (hc : CdP c) (hd : CdP d) : meetN a b c d = meetRef a b c d := by
  obtain ⟨hm, hn⟩ := both_inv a b c d
  unfold meetN meetRef
  by_cases hz : D a b c = 0 ∧ D a b d = 0 ∧ D c d a = 0 ∧ D c d b = 0
  · rw [if_pos hz]
    obtain ⟨z1, z2, z3, z4⟩ := hz
    have hall : ∀ q ∈ [a, b, c, d], CdP q ∧ D a b q = 0 ∧ D c d q = 0 := by
      intro q hq
      simp at hq
      rcases hq with rfl | rfl | rfl | rfl
      · exact ⟨ha, D_left _ _, z3⟩
      · exact ⟨hb, D_right _ _, z4⟩
      · exact ⟨hc, z1, D_left _ _⟩
      · exact ⟨hd, z2, D_right _ _⟩
    have hk : ∀ q, q ∈ both a b c d ↔ q ∈ [a, b, c, d] ∧ max (min (K a) (K b)) (min (K c) (K d)) ≤ K q ∧ K q ≤ min (max (K a) (K b)) (max (K c) (K d)) := by
      intro q
      rw [hm]
      constructor
      · rintro ⟨x, y1, y2⟩
        refine ⟨x, ?_⟩
        have h1 := ((holds_iff ha hb (hall q x).1).1 y1).1
        have h2 := ((holds_iff hc hd (hall q x).1).1 y2).1
        omega
      · rintro ⟨x, y⟩
        refine ⟨x, (holds_iff ha hb (hall q x).1).2 ⟨by omega, (hall q x).2.1⟩, (holds_iff hc hd (hall q x).1).2 ⟨by omega, (hall q x).2.2⟩⟩
    have e1 : ∃ p ∈ [a, b, c, d], K p = max (min (K a) (K b)) (min (K c) (K d)) := by
      rcases (show K a = max (min (K a) (K b)) (min (K c) (K d)) ∨ K b = max (min (K a) (K b)) (min (K c) (K d)) ∨ K c = max (min (K a) (K b)) (min (K c) (K d)) ∨ K d = max (min (K a) (K b)) (min (K c) (K d)) by omega) with h | h | h | h
      · exact ⟨a, by simp, h⟩
      · exact ⟨b, by simp, h⟩
      · exact ⟨c, by simp, h⟩
      · exact ⟨d, by simp, h⟩
    have e2 : ∃ p ∈ [a, b, c, d], K p = min (max (K a) (K b)) (max (K c) (K d)) := by
      rcases (show K a = min (max (K a) (K b)) (max (K c) (K d)) ∨ K b = min (max (K a) (K b)) (max (K c) (K d)) ∨ K c = min (max (K a) (K b)) (max (K c) (K d)) ∨ K d = min (max (K a) (K b)) (max (K c) (K d)) by omega) with h | h | h | h
      · exact ⟨a, by simp, h⟩
      · exact ⟨b, by simp, h⟩
      · exact ⟨c, by simp, h⟩
      · exact ⟨d, by simp, h⟩
    obtain ⟨p, p1, p2⟩ := e1
    obtain ⟨q, q1, q2⟩ := e2
    unfold lineN
    generalize max (min (K a) (K b)) (min (K c) (K d)) = F at *
    generalize min (max (K a) (K b)) (max (K c) (K d)) = L at *
    rcases Int.lt_trichotomy F L with h | h | h
    · rw [if_pos h, if_pos (len_two ((hk p).2 ⟨p1, by omega⟩) ((hk q).2 ⟨q1, by omega⟩) (by rintro rfl; omega))]
    · have : (both a b c d).length = 1 := len_one hn ((hk p).2 ⟨p1, by omega⟩) (fun r hr => by
        have := (hk r).1 hr
        exact K_inj (hall r this.1).1 (hall p p1).1 (by omega))
      rw [if_neg (by omega), if_pos h, if_neg (by omega), if_pos this]
    · have : (both a b c d).length = 0 := len_none (fun r hr => by have := (hk r).1 hr; omega)
      rw [if_neg (by omega), if_neg (by omega), if_neg (by omega), if_neg (by omega), if_neg ?_]
      rw [z1, z2]
      simp [sgn]
  · rw [if_neg hz]
    have h2 : ∀ p q, p ∈ both a b c d → q ∈ both a b c d → p = q := by
      intro p q hp hq
      have hp := ((hm p).1 hp).2
      have hq := ((hm q).1 hq).2
      apply Classical.byContradiction
      intro hne
      have same : ∀ x y : Pt, onP x y p → onP x y q → x ≠ y := by
        rintro x y h1 h2 rfl
        have a1 := h1.1; have a2 := h1.2.1; have b1 := h2.1; have b2 := h2.2.1
        unfold btw at a1 a2 b1 b2
        exact hne (pt_ext (by omega) (by omega))
      have n1 := same a b hp.1 hq.1
      have n2 := same c d hp.2 hq.2
      have la := line3 n1 hp.1.2.2 hq.1.2.2 (D_left a b)
      have lb := line3 n1 hp.1.2.2 hq.1.2.2 (D_right a b)
      have lc := line3 n2 hp.2.2.2 hq.2.2.2 (D_left c d)
      have ld := line3 n2 hp.2.2.2 hq.2.2.2 (D_right c d)
      exact hz ⟨line3 hne la lb lc, line3 hne la lb ld, line3 hne lc ld la, line3 hne lc ld lb⟩
    by_cases g1 : 0 < sgn (D a b c) * sgn (D a b d) ∨ 0 < sgn (D c d a) * sgn (D c d b)
    · rw [if_pos g1]
      have : (both a b c d).length = 0 := len_none (fun r hr => by
        have hr := ((hm r).1 hr).2
        rcases g1 with g | g
        · exact apart (sgn_mul_pos.1 g) hr.1.2.2 hr.2
        · exact apart (sgn_mul_pos.1 g) hr.2.2.2 hr.1)
      rw [if_neg (by omega), if_neg (by omega), if_neg ?_]
      omega
    · rw [if_neg g1]
      by_cases g2 : sgn (D a b c) * sgn (D a b d) < 0 ∧ sgn (D c d a) * sgn (D c d b) < 0
      · rw [if_pos g2]
        have g3 := sgn_mul_neg.1 g2.1
        have g4 := sgn_mul_neg.1 g2.2
        have : (both a b c d).length = 0 := len_none (fun r hr => by
          obtain ⟨hr0, hr⟩ := (hm r).1 hr
          have d1 := hr.1.2.2
          have d2 := hr.2.2.2
          simp at hr0
          rcases hr0 with rfl | rfl | rfl | rfl <;> omega)
        rw [if_neg (by omega), if_neg (by omega), if_pos g2]
      · rw [if_neg g2]
        have g3 : ¬(0 < sgn (D a b c) * sgn (D a b d)) := fun h => g1 (Or.inl h)
        have g4 : ¬(0 < sgn (D c d a) * sgn (D c d b)) := fun h => g1 (Or.inr h)
        rw [sgn_mul_pos] at g3 g4
        rw [sgn_mul_neg, sgn_mul_neg] at g2
        have ex : ∃ p, p ∈ both a b c d := by
          have sw : ∀ x y z : Pt, D x y z = 0 → D y x z = 0 := fun x y z h => by rw [D_swap, h]; rfl
          have hA : onP a b a := ⟨by unfold btw; omega, by unfold btw; omega, D_left _ _⟩
          have hB : onP a b b := ⟨by unfold btw; omega, by unfold btw; omega, D_right _ _⟩
          have hC : onP c d c := ⟨by unfold btw; omega, by unfold btw; omega, D_left _ _⟩
          have hD : onP c d d := ⟨by unfold btw; omega, by unfold btw; omega, D_right _ _⟩
          have key : ∀ a b c d : Pt, ¬(D a b c = 0 ∧ D a b d = 0 ∧ D c d a = 0 ∧ D c d b = 0) → ¬(0 < D c d a ∧ 0 < D c d b ∨ D c d a < 0 ∧ D c d b < 0) → D a b c = 0 → onP a b c := by
            intro a b c d hz hg h0
            apply touch (d := d) h0 _ (fun h => hg (Or.inl h)) (fun h => hg (Or.inr h))
            intro h1
            by_cases hab : a = b
            · subst hab
              apply hz
              refine ⟨h0, h1, ?_, ?_⟩ <;> omega
            · exact hz ⟨h0, h1, line3 hab h0 h1 (D_left a b), line3 hab h0 h1 (D_right a b)⟩
          rcases (show D a b c = 0 ∨ D a b d = 0 ∨ D c d a = 0 ∨ D c d b = 0 by omega) with h | h | h | h
          · exact ⟨c, (hm c).2 ⟨by simp, key a b c d hz g4 h, hC⟩⟩
          · refine ⟨d, (hm d).2 ⟨by simp, key a b d c ?_ ?_ h, hD⟩⟩
            · rw [D_swap c d a, D_swap c d b]; omega
            · rw [D_swap c d a, D_swap c d b]; omega
          · exact ⟨a, (hm a).2 ⟨by simp, hA, key c d a b (by omega) g3 h⟩⟩
          · refine ⟨b, (hm b).2 ⟨by simp, hB, key c d b a ?_ ?_ h⟩⟩
            · rw [D_swap a b c, D_swap a b d]; omega
            · rw [D_swap a b c, D_swap a b d]; omega
        obtain ⟨p, hp⟩ := ex
        have : (both a b c d).length = 1 := len_one hn hp (fun q hq => h2 q p hq hp)
        rw [if_neg (by omega), if_pos this]

end Go.Proofs.Ytgeoffpcmkofkaa
